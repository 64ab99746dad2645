/- The package's mill: List. -/
import Derived.Test.YtjobeomadkaeoaaGOps
import Derived.Maps.AppendAt
import Derived.Deep.AppendLies
namespace Go.Proofs.Ytjobeomadkaeoaa
open Go.RowKit
set_option linter.unusedVariables false
namespace Wd
/-- a row stands in the ring as it is -/
theorem in_LL {A : Mst} {x : Nat} (hx : x < 4) : ∃ X Y, LL A = X ++ (A x ++ Y) := by
  rcases (show x = 0 ∨ x = 1 ∨ x = 2 ∨ x = 3 by omega) with rfl | rfl | rfl | rfl
  · exact ⟨[], A 1 ++ (A 2 ++ A 3), rfl⟩
  · exact ⟨A 0, A 2 ++ A 3, by simp [LL]⟩
  · exact ⟨A 0 ++ A 1, A 3, by simp [LL]⟩
  · exact ⟨A 0 ++ (A 1 ++ A 2), [], by simp [LL]⟩
theorem row_next {A : Mst} {x : Nat} (hx : x < 4) (hn : (LL A).Nodup) {j : Nat} {i : Int} (hj : j + 1 < (A x).length) (hi : (A x)[j]? = some i) : (A x)[j + 1]? = some (nxt (LL A) i) := by
  obtain ⟨X, Y, e⟩ := in_LL (A := A) hx
  have h1 : (A x)[j + 1]? = some (A x)[j + 1] := List.getElem?_eq_getElem hj
  have e2 : A x = (A x).take j ++ i :: (A x)[j + 1] :: (A x).drop (j + 2) := by
    have h0 : (A x)[j]'(by omega) = i := by
      have := List.getElem?_eq_getElem (l := A x) (i := j) (by omega)
      rw [hi] at this
      exact (Option.some.inj this).symm
    conv => lhs; rw [← List.take_append_drop j (A x)]
    rw [List.drop_eq_getElem_cons (by omega : j < (A x).length), h0, List.drop_eq_getElem_cons hj]
  generalize (A x)[j + 1] = b at *
  rw [h1]
  congr 1
  have e3 : LL A = (X ++ (A x).take j) ++ i :: b :: ((A x).drop (j + 2) ++ Y) := by
    rw [e]; conv => lhs; rw [e2]
    simp
  rw [e3] at hn ⊢
  exact (nxt_mid hn).symm
def slen : Value → Nat | .slice _ n _ => n | _ => 0
/-- those that were told so far -/
structure LSt (w : World) (M : List Int) (j : Nat) (v : Value) (z : Int) (wr : World) : Prop where
  own : wr.ownsRow w.heap.size 3 1 v j (ints (M.take j))
  bel : Below w.heap.size w wr
  at' : j < M.length → M[j]? = some z
theorem LSt.next {w wr w1 : World} {M : List Int} {j g cap : Nat} {v : Value} {z b : Int} (h : LSt w M j v z wr) (hj : j < M.length) (hM : j + 1 < M.length → M[j + 1]? = some b)
    {c : Array Value} {t : TypeId} (hown : w1.ownsRow w.heap.size 3 1 (.slice (some ⟨g, 0, none⟩) (j + 1) cap) (j + 1) (ints (M.take j) ++ ints [z])) (hg : (wr.alloc (.cells c t)).grownBy w1 v.ownBlock) :
    LSt w M (j + 1) (.slice (some ⟨g, 0, none⟩) (j + 1) cap) b w1 := by
  refine ⟨?_, ?_, hM⟩
  · rw [List.take_add_one, h.at' hj]
    simpa [ints] using hown
  · exact (h.bel.alloc h.bel.size _).grown hg (by have := h.bel.size; simp; omega) (fun k' hk => (h.own.lt k' hk).1)
set_option maxHeartbeats 8000000 in
theorem glist_y {w : World} {p n x : Nat} {A : Mst} {F : Nat → Prop} (h : MA w p n A F) (hx : x < 4) {i : Int} {T : List Int} (hA : A x = i :: T) :
    Calls Try.prog 19 #[.pointer (some ⟨p, 0, none⟩), .int .i64 (x : Int)] w fun e w' => ∃ u, e = .returned u ∧ SL w' 3 u (A x) ∧ Below w.heap.size w w' ∧ (∀ g, u.ownBlock = some g → w.heap.size ≤ g) := by
  have P0 := gcount_k (x : Int) h
  rw [show rowA A (x : Int) = A x by unfold rowA; rw [if_pos (by omega)]; simp] at P0
  obtain ⟨q, gc, FR, cs, fs, ns, rfl, hS, hT, hC, hG, h1, h2⟩ := h
  have F0 := hT.ef x hx i T hA
  have cf := hS.cf x hx
  rw [F0] at cf
  have F1 : 0 < (A x).length := by rw [hA]; simp
  have F2 : (A x)[0]? = some i := by rw [hA]; rfl
  have F3 : ∀ (j : Nat) (y : Int), j + 1 < (A x).length → (A x)[j]? = some y → (A x)[j + 1]? = some (nxt (LL A) y) := fun j y hj hy => row_next hx (good_nd hG) hj hy
  have hm1 : (A x).length ≤ 512 := Nat.le_trans (good_le hG x hx) h2
  have R1 : ∀ wr, Below w.heap.size w wr → wr.cell? ⟨p, 0, none⟩ = some (.pointer (some ⟨q, 0, none⟩)) ∧ RA wr q n (LL A) FR := fun wr hb => ⟨(hS.keep h1 hb).c0, (hS.keep h1 hb).ring⟩
  obtain ⟨M, hM⟩ : ∃ M, M = A x := ⟨_, rfl⟩
  rw [← hM] at P0 F1 F2 F3 hm1 ⊢
  obtain ⟨m, hm⟩ : ∃ m, m = M.length := ⟨_, rfl⟩
  rw [← hm] at P0 F1 F3 hm1
  obtain ⟨i0, hi0, hz0, hz1, hz2⟩ := info_parts info3
  have hmx : 8194 ≤ maxLen := by decide
  obtain ⟨Z, hmk, hO⟩ : ∃ Z : Array Value, (∀ w, (Instr.makeSlice 33 (.int .i64 0) (.int .i64 (m : Int))).run Try.prog w = .ok (.slice (some ⟨w.heap.size, 0, none⟩) 0 m) (w.alloc (.cells Z 3))) ∧ Z.size = m * 1 := by
    refine ⟨madeCells #[.int .i64 0] m, fun w => ?_, by rw [size_madeCells]; omega⟩
    have := run_make (P := Try.prog) w 33 3 i0 (.int .i64 0) Try.underlying33 hi0 hz0 .i64 .i64 0 m (by omega) (by omega) (by rw [hz2]; omega) (by omega)
    rw [hz1] at this
    simpa [Value.cells] using this
  have S0 : LSt w M 0 (.slice (some ⟨w.heap.size, 0, none⟩) 0 m) i (w.alloc (.cells Z 3)) := ⟨by simpa [ints] using World.ownsRow_made w Z m (Nat.le_refl _) (by omega) hO, (Below.refl _ _).alloc (Nat.le_refl _) _, fun _ => F2⟩
  replace S0 := Lib.hid S0
  have cf' : (w.alloc (.cells Z 3)).cell? ⟨p, 2 + x, none⟩ = some (.int .i64 i) := (World.cell?_alloc_lt _ _ _ (World.block_lt_of_cell? w _ cf)).trans cf
  have n0 : ((m : Int) == 0) = false := by simp; omega
  have hx4 : (x : Int) < 4 := by omega
  replace R1 := Lib.hid R1
  replace F3 := Lib.hid F3
  replace P0 := Lib.hid P0
  replace hM := Lib.hid hM
  replace hm := Lib.hid hm
  clear hS hT hC hG h1 h2 F2 F0 hA hO
  go_enter Try.func19, Try.ntmps19
  go_wp2_with (first | (go_at_call 17; ((with_reducible refine P0.out.mono ?_); rintro e w' ⟨rfl, hw'⟩; subst w')))
  clear cf cf' P0 hmk
  go_loopw [6, 7] (fun v z wr => ∃ (j : Nat) (zz : Int) (a : Option Addr) (c : Nat), j ≤ m ∧ v = .slice a j c ∧ z = .int .i64 zz ∧ LSt w M j v zz wr) (fun v _ _ => m - slen v)
  case atStart => exact ⟨0, i, _, _, by omega, rfl, rfl, S0.out⟩
  case round =>
    obtain ⟨j, zz, a, c, hj, rfl, rfl, hR⟩ := hrel
    by_cases hlt : j < m
    · have hlt' : decide ((j : Int) < (m : Int)) = true := by simp; omega
      replace hR := Lib.hid hR
      go_wp2_with (first | (at_builtin; refine wpList_append_lies _ rfl (.tmp 31) (.tmp 33) 33 rfl w.heap.size 3 i0 (.int .i64 0) 1 8 Try.underlying33 hi0 hz0 hz1 hz2 rfl (by decide) (.slice a j c) j _ (by simp [Act.eval]) (hR.out.own.alloc _) ⟨wr.heap.size, 0, none⟩ 1 1 (ints [zz]) (by simp [Act.eval]) (by simp [ints]) (one_at ((World.cell?_alloc_new _ _ _ 0).trans rfl)) (ints_one _) (by omega) (by omega) (by omega) (by have := hR.out.bel.size; simp; omega) _ rfl ?_; intro g cap w1 hown1 hgrow1 hat1 hlt1; obtain ⟨d1, d2⟩ := R1.out w1 ((hR.out.bel.alloc hR.out.bel.size _).grown hgrow1 (by have := hR.out.bel.size; simp; omega) (fun k' hk => (hR.out.own.lt k' hk).1)); have R3 := Lib.hid (hR.out.next (by have := hm.out; omega) (fun hlt2 => F3.out j zz (by have := hm.out; omega) (hR.out.at' (by have := hm.out; omega))) hown1 hgrow1); replace d2 := Lib.hid d2; clear hown1 hgrow1) | (go_at_call 29; ((with_reducible refine (next_k _ d2.out).mono ?_); rintro e w' ⟨rfl, hw'⟩; subst w')))
      go_roundw
      case rel => exact ⟨j + 1, _, _, _, by omega, rfl, rfl, R3.out⟩
      case measure => simp [slen]; omega
    · have e : j = m := by omega
      subst e
      replace hR := Lib.hid hR
      go_wp2
      go_ret
      refine ⟨_, rfl, ?_, hR.out.bel, fun g hg => (hR.out.own.lt g hg).1⟩
      have ho := own_base hR.out.own
      rw [List.take_of_length_le (by have := hm.out; omega)] at ho
      unfold SL
      rw [← hm.out]
      exact ho
theorem glist_k {w : World} {p n : Nat} {A : Mst} {F : Nat → Prop} (c : Int) (h : MA w p n A F) :
    Calls Try.prog 19 #[.pointer (some ⟨p, 0, none⟩), .int .i64 c] w fun e w' => ∃ u, e = .returned u ∧ SL w' 3 u (rowA A c) ∧ Below w.heap.size w w' ∧ (∀ g, u.ownBlock = some g → w.heap.size ≤ g) := by
  rcases hA : rowA A c with _ | ⟨i, T⟩
  · have P0 := gcount_k c h
    rw [hA] at P0
    have P1 : Hid (Calls Try.prog 17 #[.pointer (some ⟨p, 0, none⟩), .int .i64 c] w fun e w' => e = .returned (.int .i64 0) ∧ w' = w) := Lib.hid P0
    clear h hA P0
    go_enter Try.func19, Try.ntmps19
    go_wp2_with (first | (go_at_call 17; ((with_reducible refine P1.out.mono ?_); rintro e w' ⟨rfl, hw'⟩; subst w')))
    go_ret
    exact ⟨_, rfl, World.ownsRow_nil _ _ _ _, Below.refl _ _, fun g hg => by cases hg⟩
  · have hc : 0 ≤ c ∧ c < 4 := by
      apply Classical.byContradiction
      intro hc
      unfold rowA at hA
      rw [if_neg hc] at hA
      cases hA
    obtain ⟨x, rfl⟩ : ∃ x : Nat, c = x := ⟨c.toNat, by omega⟩
    have e : rowA A (x : Int) = A x := by unfold rowA; rw [if_pos hc]; simp
    rw [e] at hA
    rw [← hA]
    exact glist_y h (by omega) hA
end Wd
end Go.Proofs.Ytjobeomadkaeoaa
