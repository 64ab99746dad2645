/- The landed instructions: as bytes. -/
import Derived.Test.YthlijmdohejheaaOApp
namespace Go.Proofs.Ythlijmdohejheaa
open Go.RowKit
set_option linter.unusedVariables false
set_option maxRecDepth 20000
namespace Wd
theorem wr8_in (x : Int) : 0 ≤ wr8 x ∧ wr8 x ≤ 255 := by
  unfold wr8
  rw [IntKind.wrap_u8]
  omega
theorem bytL_in (L : List (Int × Int)) : ∀ x ∈ bytL L, 0 ≤ x ∧ x ≤ 255 := by
  intro x hx
  unfold bytL flat at hx
  rw [List.mem_flatMap] at hx
  obtain ⟨y, hy, hx⟩ := hx
  obtain ⟨z, _, rfl⟩ := List.mem_map.1 hy
  rcases List.mem_cons.1 hx with rfl | hx
  · exact wr8_in _
  · rcases List.mem_cons.1 hx with rfl | hx
    · exact wr8_in _
    · cases hx
theorem bytL_len (L : List (Int × Int)) : (bytL L).length = 2 * L.length := by
  induction L with
  | nil => rfl
  | cons x L ih => show (wr8 x.1 :: wr8 x.2 :: bytL L).length = _; simp [ih]; omega
theorem bytL_snoc (L : List (Int × Int)) (x : Int × Int) : bytL (L ++ [x]) = bytL L ++ [wr8 x.1, wr8 x.2] := by
  unfold bytL flat
  simp
/-- bytes being written -/
structure ByS (w0 wr : World) (vb : Value) (T : List Int) : Prop where
  own : wr.ownsRow w0.heap.size 5 1 vb T.length (bys T)
  bel : Below w0.heap.size w0 wr
theorem ByS.next {w0 wr w1 w2 : World} {vb v' : Value} {T : List Int} {x y : Int} (h : ByS w0 wr vb T) (hb : Below wr.heap.size wr w1) (hown : w2.ownsRow w0.heap.size 5 1 v' (T.length + 2) (bys T ++ bys [x, y])) (hg : w1.grownBy w2 vb.ownBlock) : ByS w0 w2 v' (T ++ [x, y]) := by
  have h1 := h.bel.trans (hb.mono h.bel.size)
  refine ⟨?_, h1.grown hg h1.size (fun k hk => (h.own.lt k hk).1)⟩
  have e : bys T ++ bys [x, y] = bys (T ++ [x, y]) := by simp [bys]
  have e2 : (T ++ [x, y]).length = T.length + 2 := by simp
  rw [e2, ← e]
  exact hown
set_option maxHeartbeats 16000000 in
theorem kbytes_c {w : World} {v : Value} {L : List (Int × Int)} (h : PrV w v L) (hL : L.length ≤ 1000) : Calls Try.prog 14 #[v] w fun e w' => ∃ v', e = .returned v' ∧ ByV w' v' (bytL L) ∧ Below w.heap.size w w' := by
  obtain ⟨la, lc, rfl, hlc, hlm, _⟩ := h.ex
  obtain ⟨i0, hi0, hz0, hz1, hz2⟩ := info_parts infoB8
  have hmx : 200000 ≤ maxLen := by decide
  obtain ⟨m, hm⟩ : ∃ m, m = 2 * L.length := ⟨_, rfl⟩
  have wm : IntKind.i64.wrap (2 * (L.length : Int)) = (m : Int) := by rw [IntKind.wrap_i64]; omega
  obtain ⟨Z, hmk, hO⟩ : ∃ Z : Array Value, (∀ w, (Instr.makeSlice 35 (.int .i64 0) (.int .i64 (m : Int))).run Try.prog w = .ok (.slice (some ⟨w.heap.size, 0, none⟩) 0 m) (w.alloc (.cells Z 5))) ∧ Z.size = m * 1 := by
    refine ⟨madeCells #[.int .u8 0] m, fun w => ?_, by rw [size_madeCells]; omega⟩
    have := run_make (P := Try.prog) w 35 5 i0 (.int .u8 0) Try.underlying35 hi0 hz0 .i64 .i64 0 m (by omega) (by omega) (by rw [hz2]; omega) (by omega)
    rw [hz1] at this
    simpa [Value.cells] using this
  have S0 : Hid (ByS w (w.alloc (.cells Z 5)) (.slice (some ⟨w.heap.size, 0, none⟩) 0 m) []) := Lib.hid ⟨by simpa [bys] using World.ownsRow_made w Z m (Nat.le_refl _) (by omega) hO, (Below.refl _ _).alloc (Nat.le_refl _) _⟩
  have hle : (L.length : Int) ≤ 9223372036854775807 := by omega
  replace hm := Lib.hid hm
  replace h := Lib.hid h
  clear hO
  go_enter Try.func14, Try.ntmps14
  go_upto_region 2 with fail
  clear wm hmk
  generalize w.alloc (.cells Z 5) = W at *
  go_wp2
  go_loopw [3, 12] (fun v3 v12 wr => ∃ (j : Nat) (a : Option Addr) (c : Nat), j ≤ L.length ∧ v12 = .int .i64 (j : Int) ∧ v3 = .slice a (2 * j) c ∧ Hid (ByS w wr (.slice a (2 * j) c) (bytL (L.take j)))) (fun _ v12 _ => L.length - (intOf v12).toNat)
  case atStart => exact ⟨0, _, _, by omega, rfl, rfl, S0⟩
  case round =>
    clear S0
    obtain ⟨j, a, c, hj, rfl, rfl, S⟩ := hrel
    by_cases hlt : j < L.length
    · have d1 : decide ((j : Int) < (L.length : Int)) = true := by simp; omega
      have j0 : (0 : Int) ≤ (j : Int) := by omega
      have j1 : (j : Int) < (L.length : Int) := by omega
      obtain ⟨⟨lk, lx⟩, hx⟩ : ∃ x, L[j]? = some x := ⟨L[j]'hlt, by simp⟩
      obtain ⟨_, _, g', off', rfl, l0, l1⟩ := (h.out.up S.out.bel).at hx
      have hTk : bytL (L.take (j + 1)) = bytL (L.take j) ++ [wr8 lk, wr8 lx] := by
        rw [List.take_add_one, hx]; exact bytL_snoc _ (lk, lx)
      have hlen : (bytL (L.take j)).length = 2 * j := by rw [bytL_len, List.length_take]; omega
      replace hTk := Lib.hid hTk
      clear hx
      have hown := S.out.own
      rw [hlen] at hown
      generalize hT : bytL (L.take j) = T at *
      unfold wr8 at hTk
      generalize ho : IntKind.u8.wrap lk = o' at *
      generalize ha : IntKind.u8.wrap lx = a' at *
      replace hown := Lib.hid hown
      replace hlen := Lib.hid hlen
      have hrd : ∀ X : World, Rd (X.alloc (.cells #[.int .u8 o', .int .u8 a'] 5)) (.slice (some ⟨X.heap.size, 0, none⟩) 2 2) 2 (bys [o', a']) := fun X => Or.inr ⟨_, _, rfl, bys_two ((World.cell?_alloc_new _ _ _ 0).trans rfl) ((World.cell?_alloc_new _ _ _ 1).trans rfl)⟩
      replace hrd := hrd (wr.alloc (.cells #[.int .i64 lk, .int .i64 lx] 47))
      rw [show (wr.alloc (.cells #[.int .i64 lk, .int .i64 lx] 47)).heap.size = wr.heap.size + 1 by simp] at hrd
      replace hrd := Lib.hid hrd
      go_wp2_with (first | (at_builtin; refine wpList_app_any rfl (.tmp 16) (.tmp 23) 35 rfl w.heap.size 5 i0 (.int .u8 0) 1 1 Try.underlying35 hi0 hz0 hz1 hz2 rfl (by decide) (.slice a (2 * j) c) (.slice (some ⟨wr.heap.size + 1, 0, none⟩) 2 2) (2 * j) 2 (bys T) (bys [o', a']) (by simp [Act.eval]) (by simp [Act.eval]) ((hown.out.alloc _).alloc _) hrd.out (by simp [bys]) (bys_one _) (by omega) (by omega) (by have := S.out.bel.size; simp; omega) ?_; intro v9 w9 hown9 hg9 hat9; have S9 := Lib.hid (S.out.next (((Below.refl _ _).alloc (Nat.le_refl _) _).alloc (by simp) _) (by rw [hlen.out]; exact hown9) hg9); obtain ⟨a9, c9, rfl⟩ := row_shape hown9; rw [← hTk.out] at S9; clear hown9 hg9 hat9 hown hTk hlen ho ha l0 l1 hrd))
      go_roundw
      case rel => exact ⟨j + 1, a9, c9, by omega, by go_num, rfl, S9⟩
      case measure => simp [intOf]; omega
    · have d1 : decide ((j : Int) < (L.length : Int)) = false := by simp; omega
      obtain rfl : j = L.length := by omega
      go_wp2
      go_ret
      refine ⟨_, rfl, ?_, S.out.bel⟩
      have hS := S.out.own
      rw [List.take_length] at hS
      exact ByV.own hS (bytL_in L)
end Wd
end Go.Proofs.Ythlijmdohejheaa
