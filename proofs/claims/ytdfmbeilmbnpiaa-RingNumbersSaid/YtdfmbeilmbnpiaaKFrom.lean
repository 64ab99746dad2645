/- The ring of the package: all that are in, from one on. -/
import Derived.Test.YtdfmbeilmbnpiaaKRun
import Derived.Test.YtdfmbeilmbnpiaaRNew
namespace Go.Proofs.Ytdfmbeilmbnpiaa
open Go.RowKit
namespace Wd
theorem from_none {w : World} {p n : Nat} {L : List Int} {F : Nat → Prop} (i : Int) (hR : RA w p n L F) (hi : i ∉ L) :
    Calls Try.prog 14 #[.pointer (some ⟨p, 0, none⟩), .int .i64 i] w fun e w' => e = .returned (.slice none 0 0) ∧ w' = w := by
  have P0 := next_k i hR
  rw [nxt_out hi] at P0
  replace P0 := Lib.hid P0
  clear hR
  go_enter Try.func14, Try.ntmps14
  go_wp2_with (first | (go_at_call 12; ((with_reducible refine P0.out.mono ?_); rintro e w' ⟨rfl, rfl⟩)))
  go_ret
  exact ⟨rfl, rfl⟩
/-- those that were told so far: the next one is x -/
structure FSt (w : World) (M L : List Int) (j q : Nat) (v : Value) (wr : World) : Prop where
  own : wr.ownsRow w.heap.size 3 1 v j (ints (M.take j))
  bel : Below w.heap.size w wr
  at' : j < M.length → M[j]? = some (q : Int)
  mem : (q : Int) ∈ L
theorem FSt.next {w wr w1 : World} {M L : List Int} {j q b g cap : Nat} {v : Value} (h : FSt w M L j q v wr) (hj : j < M.length) (hM : ∀ (k : Nat) (x : Int), k + 1 < M.length → M[k]? = some x → M[k + 1]? = some (nxt L x)) (eb : nxt L q = b) (hb : (b : Int) ∈ L)
    {c : Array Value} {t : TypeId} (hown : w1.ownsRow w.heap.size 3 1 (.slice (some ⟨g, 0, none⟩) (j + 1) cap) (j + 1) (ints (M.take j) ++ ints [(q : Int)])) (hg : (wr.alloc (.cells c t)).grownBy w1 v.ownBlock) :
    FSt w M L (j + 1) b (.slice (some ⟨g, 0, none⟩) (j + 1) cap) w1 := by
  refine ⟨?_, ?_, fun hlt => ?_, hb⟩
  · rw [List.take_add_one, h.at' hj]
    simpa [ints] using hown
  · exact (h.bel.alloc h.bel.size _).grown hg (by have := h.bel.size; simp; omega) (fun k' hk => (h.own.lt k' hk).1)
  · rw [hM j q hlt (h.at' hj), eb]
set_option maxHeartbeats 8000000 in
theorem from_y {w : World} {p n g1 g2 k : Nat} {L : List Int} {f h : Nat → Int} (hB : RB w p g1 g2 n f h (L.length : Int)) (hL : RL n L f h) (hk : (k : Int) ∈ L) :
    Calls Try.prog 14 #[.pointer (some ⟨p, 0, none⟩), .int .i64 (k : Int)] w fun e w' => ∃ u, e = .returned u ∧ SL w' 3 u (frm L k) ∧ Below w.heap.size w w' ∧ (∀ g, u.ownBlock = some g → w.heap.size ≤ g) := by
  have hR : RA w p n L (FF p g1 g2) := ⟨g1, g2, f, h, rfl, hB, hL⟩
  obtain ⟨b, eb, hb, hbL⟩ := hL.nxt_bd hk
  have P0 := next_k (k : Int) hR
  rw [eb] at P0
  have n1 : ((b : Int) == -1) = false := by simp
  obtain ⟨F1, F2, F3, _⟩ := frm_facts hL.nd hk
  obtain ⟨M, hM⟩ : ∃ M, M = frm L k := ⟨_, rfl⟩
  rw [← hM] at F1 F2 F3 ⊢
  have c2 := hB.c2
  have hlt := hB.lt (by have := hL.n1; omega)
  have R1 : ∀ (q : Nat), (q : Int) ∈ L → ∀ wr, Below w.heap.size w wr → ∃ b : Nat, nxt L q = b ∧ b < n ∧ (b : Int) ∈ L ∧ q < n ∧ wr.cell? ⟨p, 0, none⟩ = some (.slice (some ⟨g1, 0, none⟩) n n) ∧ wr.cell? ⟨g1, q, none⟩ = some (.int .i64 (b : Int)) := by
    intro q hq wr hbel
    obtain ⟨b, eb, hb, hbL⟩ := hL.nxt_bd hq
    have hB' := hB.same (w' := wr) (fun k hk => hbel.block k (hlt k hk))
    have hqn : q < n := by have := hL.bd _ hq; omega
    exact ⟨b, eb, hb, hbL, hqn, hB'.c0, by rw [hB'.f1 q hqn, hL.ef q hqn, eb]⟩
  have hm1 : L.length ≤ 4096 := by have := hL.len; have := hL.n2; omega
  generalize L.length = m at *
  obtain ⟨i0, hi0, hz0, hz1, hz2⟩ := info_parts info3
  have hmx : 8194 ≤ maxLen := by decide
  obtain ⟨Z, hmk, hO⟩ : ∃ Z : Array Value, (∀ w, (Instr.makeSlice 28 (.int .i64 0) (.int .i64 (m : Int))).run Try.prog w = .ok (.slice (some ⟨w.heap.size, 0, none⟩) 0 m) (w.alloc (.cells Z 3))) ∧ Z.size = m * 1 := by
    refine ⟨madeCells #[.int .i64 0] m, fun w => ?_, by rw [size_madeCells]; omega⟩
    have := run_make (P := Try.prog) w 28 3 i0 (.int .i64 0) Try.underlying28 hi0 hz0 .i64 .i64 0 m (by omega) (by omega) (by rw [hz2]; omega) (by omega)
    rw [hz1] at this
    simpa [Value.cells] using this
  have S0 : FSt w M L 0 k (.slice (some ⟨w.heap.size, 0, none⟩) 0 m) (w.alloc (.cells Z 3)) := ⟨by simpa [ints] using World.ownsRow_made w Z m (Nat.le_refl _) (by omega) hO, (Below.refl _ _).alloc (Nat.le_refl _) _, fun _ => F2, hk⟩
  replace S0 := Lib.hid S0
  have c2' : (w.alloc (.cells Z 3)).cell? ⟨p, 2, none⟩ = some (.int .i64 (m : Int)) := (World.cell?_alloc_lt _ _ _ (World.block_lt_of_cell? w _ c2)).trans c2
  replace R1 := Lib.hid R1
  rw [← F1] at F3
  replace F3 := Lib.hid F3
  replace P0 := Lib.hid P0
  clear hR hB hL hlt F2 eb hb hbL hk hM hO
  go_enter Try.func14, Try.ntmps14
  go_wp2_with (first | (go_at_call 12; ((with_reducible refine P0.out.mono ?_); rintro e w' ⟨rfl, hw'⟩; subst w')))
  clear c2 c2' P0 hmk
  go_loopw [1, 5, 19] (fun x v i wr => ∃ j : Nat, j ≤ m ∧ i = .int .i64 j ∧ ∃ q : Nat, x = .int .i64 q ∧ FSt w M L j q v wr) (fun _ _ i _ => m - (intOf i).toNat)
  case atStart => exact ⟨0, by omega, rfl, k, rfl, S0.out⟩
  case round =>
    obtain ⟨j, hj, rfl, q, rfl, hR⟩ := hrel
    by_cases hlt : j < m
    · have hlt' : decide ((j : Int) < (m : Int)) = true := by simp; omega
      have R2 : ∀ wr, Below w.heap.size w wr → ∃ b : Nat, nxt L q = b ∧ b < n ∧ (b : Int) ∈ L ∧ q < n ∧ wr.cell? ⟨p, 0, none⟩ = some (.slice (some ⟨g1, 0, none⟩) n n) ∧ wr.cell? ⟨g1, q, none⟩ = some (.int .i64 (b : Int)) := R1.out q hR.mem
      replace R2 := Lib.hid R2
      replace hR := Lib.hid hR
      go_wp2_with (first | (at_builtin; refine wpList_append_lies _ rfl (.tmp 21) (.tmp 23) 28 rfl w.heap.size 3 i0 (.int .i64 0) 1 8 Try.underlying28 hi0 hz0 hz1 hz2 rfl (by decide) u5 j _ (by simp [Act.eval]) (hR.out.own.alloc _) ⟨wr.heap.size, 0, none⟩ 1 1 (ints [(q : Int)]) (by simp [Act.eval]) (by simp [ints]) (one_at ((World.cell?_alloc_new _ _ _ 0).trans rfl)) (ints_one _) (by omega) (by omega) (by omega) (by have := hR.out.bel.size; simp; omega) _ rfl ?_; intro g cap w1 hown1 hgrow1 hat1 hlt1; obtain ⟨b, d1, d2, d3, d4, d5, d6⟩ := R2.out w1 ((hR.out.bel.alloc hR.out.bel.size _).grown hgrow1 (by have := hR.out.bel.size; simp; omega) (fun k' hk => (hR.out.own.lt k' hk).1)); have R3 := Lib.hid (hR.out.next (by omega) F3.out d1 d3 hown1 hgrow1); clear hown1 hgrow1 d1 d3))
      go_roundw
      case rel => exact ⟨j + 1, by omega, by go_num, b, rfl, R3.out⟩
      case measure => simp [intOf]; omega
    · have e : j = m := by omega
      subst e
      replace hR := Lib.hid hR
      go_wp2
      go_ret
      refine ⟨_, rfl, ?_, hR.out.bel, fun g hg => (hR.out.own.lt g hg).1⟩
      have ho := own_base hR.out.own
      rw [List.take_of_length_le (by omega)] at ho
      unfold SL
      rw [F1]
      exact ho
theorem from_k {w : World} {p n : Nat} {L : List Int} {F : Nat → Prop} (i : Int) (hR : RA w p n L F) :
    Calls Try.prog 14 #[.pointer (some ⟨p, 0, none⟩), .int .i64 i] w fun e w' => ∃ u, e = .returned u ∧ SL w' 3 u (frm L i) ∧ Below w.heap.size w w' ∧ (∀ g, u.ownBlock = some g → w.heap.size ≤ g) := by
  by_cases hi : i ∈ L
  · obtain ⟨g1, g2, f, h, rfl, hB, hL⟩ := hR
    obtain ⟨k, rfl, hk⟩ := hL.mem hi
    exact from_y hB hL hi
  · refine (from_none i hR hi).mono ?_
    rintro e w' ⟨rfl, rfl⟩
    refine ⟨_, rfl, ?_, Below.refl _ _, fun g hg => by cases hg⟩
    rw [frm_out hi]
    exact World.ownsRow_nil _ _ _ _
end Wd
end Go.Proofs.Ytdfmbeilmbnpiaa
