/- What the laws ask of a meter: CostBound. -/
import Derived.Test.YtafogggfiopcgaaCTells
import Derived.BigRegion
namespace Go.Proofs.Ytafogggfiopcgaa
open Go.RowKit
set_option linter.unusedVariables false
namespace Wd
def five (a b c d e : Int) : Nat → Int := fun j => if j = 0 then a else if j = 1 then b else if j = 2 then c else if j = 3 then d else e
def Arr (w : World) (B : Nat) (f : Nat → Int) : Prop := ∀ j, j < 5 → w.cell? ⟨B, j, none⟩ = some (.int .i64 (f j))
theorem Arr.of {w w1 : World} {B : Nat} {f : Nat → Int} (h : Arr w B f) (hb : w1.heap[B]? = w.heap[B]?) : Arr w1 B f := fun j hj => (World.cell?_of_block (a := ⟨B, j, none⟩) hb).trans (h j hj)
theorem Arr.five {w : World} {B : Nat} {f : Nat → Int} (h : Arr w B f) : Arr5 w B (f 0) (f 1) (f 2) (f 3) (f 4) := ⟨h 0 (by omega), h 1 (by omega), h 2 (by omega), h 3 (by omega), h 4 (by omega)⟩
theorem arr_made {w : World} {B : Nat} {t : TypeId} {a b c d e : Int} (h : w.heap[B]? = some (.cells #[.int .i64 a, .int .i64 b, .int .i64 c, .int .i64 d, .int .i64 e] t (0, 0))) : Arr w B (five a b c d e) ∧ ∀ k, w.frozen? ⟨B, k, none⟩ = false := by
  refine ⟨fun j hj => ?_, fun k => by simp [World.frozen?, h]⟩
  rcases (show j = 0 ∨ j = 1 ∨ j = 2 ∨ j = 3 ∨ j = 4 by omega) with rfl | rfl | rfl | rfl | rfl <;> simp [World.cell?, h, Wd.five]
def upto (f : Nat → Int) (k : Nat) : Nat → Int := fun j => if j < k then f j % 128 else 0
/-- the state while two rows are copied, masked -/
structure CpSt (w wr : World) (B3 B4 B7 B8 : Nat) (f g : Nat → Int) (k : Nat) : Prop where
  bel : Below w.heap.size w wr
  a3 : Arr wr B3 f
  a4 : Arr wr B4 g
  a7 : Arr wr B7 (upto f k)
  a8 : Arr wr B8 (upto g k)
  z7 : ∀ k, wr.frozen? ⟨B7, k, none⟩ = false
  z8 : ∀ k, wr.frozen? ⟨B8, k, none⟩ = false
  n37 : B3 ≠ B7
  n38 : B3 ≠ B8
  n47 : B4 ≠ B7
  n48 : B4 ≠ B8
  n78 : B7 ≠ B8
  f7 : w.heap.size ≤ B7
  f8 : w.heap.size ≤ B8
theorem below_set {w wr : World} (h : Below w.heap.size w wr) (a : Addr) (v : Value) (ha : w.heap.size ≤ a.block) : Below w.heap.size w (wr.setCell a v) :=
  ⟨h.os, h.tape, h.output, by simpa [World.setCell] using h.size, fun k hk => (Below.heap_setCell _ _ _ _ (by omega)).trans (h.block k hk)⟩
theorem Arr.set {w : World} {B k : Nat} {f g : Nat → Int} {v : Int} (h : Arr w B f) (hk : k < 5) (hg : ∀ j, j < 5 → g j = if j = k then v else f j) : Arr (w.setCell ⟨B, k, none⟩ (.int .i64 v)) B g := by
  intro j hj
  rw [hg j hj]
  by_cases c : j = k
  · subst c; rw [if_pos rfl]; exact World.cell?_setCell_same _ _ _ (h j hj)
  · rw [if_neg c]; exact (World.cell?_setCell_other _ _ _ _ (by intro e; cases e; exact c rfl)).trans (h j hj)
theorem Arr.far {w : World} {B B' k : Nat} {f : Nat → Int} {v : Value} (h : Arr w B f) (hne : B' ≠ B) : Arr (w.setCell ⟨B', k, none⟩ v) B f := fun j hj => (World.cell?_setCell_far _ _ _ _ hne).trans (h j hj)
theorem CpSt.put {w wr : World} {B3 B4 B7 B8 k : Nat} {f g : Nat → Int} (h : CpSt w wr B3 B4 B7 B8 f g k) (o : Nat) (x y : Int) : Below w.heap.size w ((wr.setCell ⟨B7, o, none⟩ (.int .i64 x)).setCell ⟨B8, o, none⟩ (.int .i64 y)).drew :=
  (below_set (below_set h.bel _ _ h.f7) _ _ h.f8).drew
theorem CpSt.step {w wr : World} {B3 B4 B7 B8 k : Nat} {f g : Nat → Int} (h : CpSt w wr B3 B4 B7 B8 f g k) (hk : k < 5) : CpSt w ((wr.setCell ⟨B7, k, none⟩ (.int .i64 (f k % 128))).setCell ⟨B8, k, none⟩ (.int .i64 (g k % 128))).drew B3 B4 B7 B8 f g (k + 1) := by
  have up : ∀ (f : Nat → Int) (j : Nat), j < 5 → upto f (k + 1) j = if j = k then f k % 128 else upto f k j := by
    intro f j _
    unfold upto
    by_cases c : j = k
    · subst c; rw [if_pos (by omega), if_pos rfl]
    · rw [if_neg c]
      by_cases d : j < k
      · rw [if_pos (by omega), if_pos d]
      · rw [if_neg (by omega), if_neg d]
  refine ⟨h.put _ _ _, ?_, ?_, ?_, ?_, fun j => ?_, fun j => ?_, h.n37, h.n38, h.n47, h.n48, h.n78, h.f7, h.f8⟩
  · exact (((h.a3.far h.n37.symm).far h.n38.symm) : Arr _ B3 f)
  · exact (((h.a4.far h.n47.symm).far h.n48.symm) : Arr _ B4 g)
  · exact ((h.a7.set hk (up f)).far h.n78.symm : Arr _ B7 _)
  · exact ((h.a8.far h.n78).set hk (up g) : Arr _ B8 _)
  · show (World.setCell _ _ _).frozen? _ = false
    rw [World.frozen?_setCell, World.frozen?_setCell]; exact h.z7 j
  · show (World.setCell _ _ _).frozen? _ = false
    rw [World.frozen?_setCell, World.frozen?_setCell]; exact h.z8 j
set_option maxHeartbeats 16000000 in
set_option maxRecDepth 20000 in
theorem bound_any {CA : CAt} (K : CostK CA) (a b c d e a' b' c' d' e' : Int) (p : Int) (p0 : -9223372036854775808 ≤ p) (p1 : p ≤ 9223372036854775807) (w : World) :
    Calls Try.prog 5 #[.agg #[.int .i64 a, .int .i64 b, .int .i64 c, .int .i64 d, .int .i64 e], .agg #[.int .i64 a', .int .i64 b', .int .i64 c', .int .i64 d', .int .i64 e'], .int .i64 p] w fun e w' => e = .returned (.bool true) ∧ Below w.heap.size w w' := by
  obtain ⟨q, hq, q0, q1⟩ := msk (i64_and7 p) (by omega)
  have g1 : IntKind.i64.wrap (1 + q) = 1 + q := by rw [IntKind.wrap_i64]; omega
  have S0 : ∃ B3 B4 B7 B8, B3 = w.heap.size ∧ B4 = w.heap.size + 1 ∧ B7 = w.heap.size + 1 + 1 ∧ B8 = w.heap.size + 1 + 1 + 1 ∧ CpSt w ((((w.alloc (.cells #[.int .i64 a, .int .i64 b, .int .i64 c, .int .i64 d, .int .i64 e] 23)).alloc (.cells #[.int .i64 a', .int .i64 b', .int .i64 c', .int .i64 d', .int .i64 e'] 23)).alloc (.cells #[.int .i64 0, .int .i64 0, .int .i64 0, .int .i64 0, .int .i64 0] 23)).alloc (.cells #[.int .i64 0, .int .i64 0, .int .i64 0, .int .i64 0, .int .i64 0] 23)) B3 B4 B7 B8 (five a b c d e) (five a' b' c' d' e') 0 := by
    have s1 : (w.alloc (.cells #[.int .i64 a, .int .i64 b, .int .i64 c, .int .i64 d, .int .i64 e] 23)).heap.size = w.heap.size + 1 := by simp
    have s2 : ((w.alloc (.cells #[.int .i64 a, .int .i64 b, .int .i64 c, .int .i64 d, .int .i64 e] 23)).alloc (.cells #[.int .i64 a', .int .i64 b', .int .i64 c', .int .i64 d', .int .i64 e'] 23)).heap.size = w.heap.size + 1 + 1 := by simp
    have s3 : (((w.alloc (.cells #[.int .i64 a, .int .i64 b, .int .i64 c, .int .i64 d, .int .i64 e] 23)).alloc (.cells #[.int .i64 a', .int .i64 b', .int .i64 c', .int .i64 d', .int .i64 e'] 23)).alloc (.cells #[.int .i64 0, .int .i64 0, .int .i64 0, .int .i64 0, .int .i64 0] 23)).heap.size = w.heap.size + 1 + 1 + 1 := by simp
    have b1 : Below w.heap.size w (w.alloc (.cells #[.int .i64 a, .int .i64 b, .int .i64 c, .int .i64 d, .int .i64 e] 23)) := (Below.refl _ _).alloc (Nat.le_refl _) _
    have b2 : Below w.heap.size w ((w.alloc (.cells #[.int .i64 a, .int .i64 b, .int .i64 c, .int .i64 d, .int .i64 e] 23)).alloc (.cells #[.int .i64 a', .int .i64 b', .int .i64 c', .int .i64 d', .int .i64 e'] 23)) := b1.alloc b1.size _
    have b3 : Below w.heap.size w (((w.alloc (.cells #[.int .i64 a, .int .i64 b, .int .i64 c, .int .i64 d, .int .i64 e] 23)).alloc (.cells #[.int .i64 a', .int .i64 b', .int .i64 c', .int .i64 d', .int .i64 e'] 23)).alloc (.cells #[.int .i64 0, .int .i64 0, .int .i64 0, .int .i64 0, .int .i64 0] 23)) := b2.alloc b2.size _
    have b4 : Below w.heap.size w ((((w.alloc (.cells #[.int .i64 a, .int .i64 b, .int .i64 c, .int .i64 d, .int .i64 e] 23)).alloc (.cells #[.int .i64 a', .int .i64 b', .int .i64 c', .int .i64 d', .int .i64 e'] 23)).alloc (.cells #[.int .i64 0, .int .i64 0, .int .i64 0, .int .i64 0, .int .i64 0] 23)).alloc (.cells #[.int .i64 0, .int .i64 0, .int .i64 0, .int .i64 0, .int .i64 0] 23)) := b3.alloc b3.size _
    have h3 : ((((w.alloc (.cells #[.int .i64 a, .int .i64 b, .int .i64 c, .int .i64 d, .int .i64 e] 23)).alloc (.cells #[.int .i64 a', .int .i64 b', .int .i64 c', .int .i64 d', .int .i64 e'] 23)).alloc (.cells #[.int .i64 0, .int .i64 0, .int .i64 0, .int .i64 0, .int .i64 0] 23)).alloc (.cells #[.int .i64 0, .int .i64 0, .int .i64 0, .int .i64 0, .int .i64 0] 23)).heap[w.heap.size]? = some (.cells #[.int .i64 a, .int .i64 b, .int .i64 c, .int .i64 d, .int .i64 e] 23 (0, 0)) := by
      rw [Below.heap_alloc _ _ _ (by omega), Below.heap_alloc _ _ _ (by omega), Below.heap_alloc _ _ _ (by omega)]; exact heap_alloc_new _ _
    have h4 : ((((w.alloc (.cells #[.int .i64 a, .int .i64 b, .int .i64 c, .int .i64 d, .int .i64 e] 23)).alloc (.cells #[.int .i64 a', .int .i64 b', .int .i64 c', .int .i64 d', .int .i64 e'] 23)).alloc (.cells #[.int .i64 0, .int .i64 0, .int .i64 0, .int .i64 0, .int .i64 0] 23)).alloc (.cells #[.int .i64 0, .int .i64 0, .int .i64 0, .int .i64 0, .int .i64 0] 23)).heap[w.heap.size + 1]? = some (.cells #[.int .i64 a', .int .i64 b', .int .i64 c', .int .i64 d', .int .i64 e'] 23 (0, 0)) := by
      rw [Below.heap_alloc _ _ _ (by omega), Below.heap_alloc _ _ _ (by omega), ← s1]; exact heap_alloc_new _ _
    have h7 : ((((w.alloc (.cells #[.int .i64 a, .int .i64 b, .int .i64 c, .int .i64 d, .int .i64 e] 23)).alloc (.cells #[.int .i64 a', .int .i64 b', .int .i64 c', .int .i64 d', .int .i64 e'] 23)).alloc (.cells #[.int .i64 0, .int .i64 0, .int .i64 0, .int .i64 0, .int .i64 0] 23)).alloc (.cells #[.int .i64 0, .int .i64 0, .int .i64 0, .int .i64 0, .int .i64 0] 23)).heap[w.heap.size + 1 + 1]? = some (.cells #[.int .i64 0, .int .i64 0, .int .i64 0, .int .i64 0, .int .i64 0] 23 (0, 0)) := by
      rw [Below.heap_alloc _ _ _ (by omega), ← s2]; exact heap_alloc_new _ _
    have h8 : ((((w.alloc (.cells #[.int .i64 a, .int .i64 b, .int .i64 c, .int .i64 d, .int .i64 e] 23)).alloc (.cells #[.int .i64 a', .int .i64 b', .int .i64 c', .int .i64 d', .int .i64 e'] 23)).alloc (.cells #[.int .i64 0, .int .i64 0, .int .i64 0, .int .i64 0, .int .i64 0] 23)).alloc (.cells #[.int .i64 0, .int .i64 0, .int .i64 0, .int .i64 0, .int .i64 0] 23)).heap[w.heap.size + 1 + 1 + 1]? = some (.cells #[.int .i64 0, .int .i64 0, .int .i64 0, .int .i64 0, .int .i64 0] 23 (0, 0)) := by
      rw [← s3]; exact heap_alloc_new _ _
    generalize ((((w.alloc (.cells #[.int .i64 a, .int .i64 b, .int .i64 c, .int .i64 d, .int .i64 e] 23)).alloc (.cells #[.int .i64 a', .int .i64 b', .int .i64 c', .int .i64 d', .int .i64 e'] 23)).alloc (.cells #[.int .i64 0, .int .i64 0, .int .i64 0, .int .i64 0, .int .i64 0] 23)).alloc (.cells #[.int .i64 0, .int .i64 0, .int .i64 0, .int .i64 0, .int .i64 0] 23)) = W at b4 h3 h4 h7 h8 ⊢
    have zz : ∀ f : Nat → Int, five 0 0 0 0 0 = upto f 0 := fun f => by
      funext j
      rw [show upto f 0 j = 0 by unfold upto; rw [if_neg (by omega)]]
      simp [five]
    refine ⟨_, _, _, _, rfl, rfl, rfl, rfl, b4, (arr_made h3).1, (arr_made h4).1, ?_, ?_, (arr_made h7).2, (arr_made h8).2, by omega, by omega, by omega, by omega, by omega, by omega, by omega⟩
    · rw [← zz]; exact (arr_made h7).1
    · rw [← zz]; exact (arr_made h8).1
  obtain ⟨B3, B4, B7, B8, e3, e4, e7, e8, S0⟩ := S0
  replace S0 := Lib.hid S0
  go_enter Try.func5, Try.ntmps5
  replace e3 := Lib.hid e3
  replace e4 := Lib.hid e4
  replace e7 := Lib.hid e7
  replace e8 := Lib.hid e8
  go_wp2
  have e3' := e3.out
  subst e3'
  simp only [← e8.out]
  simp only [← e7.out]
  simp only [← e4.out]
  generalize ((((w.alloc (.cells #[.int .i64 a, .int .i64 b, .int .i64 c, .int .i64 d, .int .i64 e] 23)).alloc (.cells #[.int .i64 a', .int .i64 b', .int .i64 c', .int .i64 d', .int .i64 e'] 23)).alloc (.cells #[.int .i64 0, .int .i64 0, .int .i64 0, .int .i64 0, .int .i64 0] 23)).alloc (.cells #[.int .i64 0, .int .i64 0, .int .i64 0, .int .i64 0, .int .i64 0] 23)) = W0 at S0
  clear e3 e4 e7 e8
  obtain ⟨f, hf⟩ : ∃ f, five a b c d e = f := ⟨_, rfl⟩
  obtain ⟨g, hg⟩ : ∃ f, five a' b' c' d' e' = f := ⟨_, rfl⟩
  rw [hf, hg] at S0
  clear hf hg
  go_loopw [13] (fun s wr => ∃ k : Nat, k ≤ 5 ∧ s = .int .i64 k ∧ Hid (CpSt w wr w.heap.size B4 B7 B8 f g k)) (fun s _ => 5 - (intOf s).toNat)
  case atStart => exact ⟨0, by omega, rfl, S0⟩
  case round =>
    clear S0
    obtain ⟨k, hk, rfl, hst⟩ := hrel
    by_cases hlt : k < 5
    · have d1 : decide ((k : Int) < 5) = true := by simp; omega
      have hw : IntKind.i64.wrap ((k : Int) + 1) = (k : Int) + 1 := by rw [IntKind.wrap_i64]; omega
      have h5 : (k : Int) < 5 := by omega
      have m1 : bits .and .i64 (f k) 127 = f k % 128 := i64_and127 _
      have m2 : bits .and .i64 (g k) 127 = g k % 128 := i64_and127 _
      have c3 := hst.out.a3 k hlt
      have c4 := hst.out.a4 k hlt
      have c7 := hst.out.a7 k hlt
      have c8 := hst.out.a8 k hlt
      have z7 := hst.out.z7 k
      have z8 := hst.out.z8 k
      have n78 := hst.out.n78
      have n87 := n78.symm
      have n47 := hst.out.n47
      have n74 := n47.symm
      have n48 := hst.out.n48
      have n84 := n48.symm
      have n37 := hst.out.n37
      have n73 := n37.symm
      have n38 := hst.out.n38
      have n83 := n38.symm
      have hst2 := Lib.hid (hst.out.step hlt)
      go_wp2
      go_region
      generalize ((wr.setCell ⟨B7, k, none⟩ (.int .i64 (f k % 128))).setCell ⟨B8, k, none⟩ (.int .i64 (g k % 128))).drew = w2 at hst2 ⊢
      clear c3 c4 c7 c8 z7 z8 m1 m2 hst n78 n87 n47 n74 n48 n84 n37 n73 n38 n83
      go_wp2
      go_roundw
      case rel => exact ⟨k + 1, by omega, by go_num, hst2⟩
      case measure => simp [intOf]; omega
    · have d1 : decide ((k : Int) < 5) = false := by simp; omega
      have hk5 : k = 5 := by omega
      subst hk5
      have u5 : ∀ f : Nat → Int, ∀ j, j < 5 → upto f 5 j = f j % 128 := fun f j hj => by unfold upto; rw [if_pos hj]
      have c7 := hst.out.a7 0 (by omega)
      have c8 := hst.out.a8 0 (by omega)
      rw [u5 f 0 (by omega)] at c7
      rw [u5 g 0 (by omega)] at c8
      have z7 := hst.out.z7 0
      have z8 := hst.out.z8 0
      have n78 := hst.out.n78
      have n87 := n78.symm
      have g2 : IntKind.i64.wrap (f 0 % 128 + 1) = f 0 % 128 + 1 := by rw [IntKind.wrap_i64]; omega
      have g3 : IntKind.i64.wrap (g 0 % 128 + 1) = g 0 % 128 + 1 := by rw [IntKind.wrap_i64]; omega
      have b4 := hst.out.put 0 (f 0 % 128 + 1) (g 0 % 128 + 1)
      have A7 : Arr5 ((wr.setCell ⟨B7, 0, none⟩ (.int .i64 (f 0 % 128 + 1))).setCell ⟨B8, 0, none⟩ (.int .i64 (g 0 % 128 + 1))).drew B7 (f 0 % 128 + 1) (f 1 % 128) (f 2 % 128) (f 3 % 128) (f 4 % 128) := by
        have h := (hst.out.a7.set (v := f 0 % 128 + 1) (k := 0) (g := five (f 0 % 128 + 1) (f 1 % 128) (f 2 % 128) (f 3 % 128) (f 4 % 128)) (by omega) (fun j hj => by
          rcases (show j = 0 ∨ j = 1 ∨ j = 2 ∨ j = 3 ∨ j = 4 by omega) with rfl | rfl | rfl | rfl | rfl <;> simp [five, u5])).far (B' := B8) (k := 0) (v := .int .i64 (g 0 % 128 + 1)) n87
        have h5 := Arr.five h
        exact ⟨h5.c0, h5.c1, h5.c2, h5.c3, h5.c4⟩
      have A8 : Arr5 ((wr.setCell ⟨B7, 0, none⟩ (.int .i64 (f 0 % 128 + 1))).setCell ⟨B8, 0, none⟩ (.int .i64 (g 0 % 128 + 1))).drew B8 (g 0 % 128 + 1) (g 1 % 128) (g 2 % 128) (g 3 % 128) (g 4 % 128) := by
        have h := (hst.out.a8.far (B' := B7) (k := 0) (v := .int .i64 (f 0 % 128 + 1)) n78).set (v := g 0 % 128 + 1) (k := 0) (g := five (g 0 % 128 + 1) (g 1 % 128) (g 2 % 128) (g 3 % 128) (g 4 % 128)) (by omega) (fun j hj => by
          rcases (show j = 0 ∨ j = 1 ∨ j = 2 ∨ j = 3 ∨ j = 4 by omega) with rfl | rfl | rfl | rfl | rfl <;> simp [five, u5])
        have h5 := Arr.five h
        exact ⟨h5.c0, h5.c1, h5.c2, h5.c3, h5.c4⟩
      replace b4 := Lib.hid b4
      have hA := Lib.hid (And.intro A7 A8)
      clear A7 A8 u5
      go_wp2
      go_region
      generalize ((wr.setCell ⟨B7, 0, none⟩ (.int .i64 (f 0 % 128 + 1))).setCell ⟨B8, 0, none⟩ (.int .i64 (g 0 % 128 + 1))).drew = W5 at b4 hA ⊢
      clear c7 c8 z7 z8 n78 n87 g2 g3 hst
      have L : ∀ x : Int, 0 ≤ x % 128 ∧ x % 128 < 128 := fun x => by omega
      obtain ⟨xa0, xa1⟩ := L (f 0)
      obtain ⟨xb0, xb1⟩ := L (f 1)
      obtain ⟨xc0, xc1⟩ := L (f 2)
      obtain ⟨xd0, xd1⟩ := L (f 3)
      obtain ⟨xe0, xe1⟩ := L (f 4)
      obtain ⟨xa20, xa21⟩ := L (g 0)
      obtain ⟨xb20, xb21⟩ := L (g 1)
      obtain ⟨xc20, xc21⟩ := L (g 2)
      obtain ⟨xd20, xd21⟩ := L (g 3)
      obtain ⟨xe20, xe21⟩ := L (g 4)
      clear L
      generalize f 0 % 128 = xa at *
      generalize f 1 % 128 = xb at *
      generalize f 2 % 128 = xc at *
      generalize f 3 % 128 = xd at *
      generalize f 4 % 128 = xe at *
      generalize g 0 % 128 = xa2 at *
      generalize g 1 % 128 = xb2 at *
      generalize g 2 % 128 = xc2 at *
      generalize g 3 % 128 = xd2 at *
      generalize g 4 % 128 = xe2 at *
      go_wp2
      try rw [show ((5 : Nat) : Int) = 5 from rfl]
      have r1 : rt (xa + 1) xb xc xd xe (1 + q) = 0 := (rt_zero _ _ _ _ _ _).2 ⟨⟨by omega, by omega, by omega, by omega, by omega, by omega, by omega, by omega, by omega, by omega, by omega, by omega⟩, by omega, by omega⟩
      have r2 : rt (xa2 + 1) xb2 xc2 xd2 xe2 (1 + q) = 0 := (rt_zero _ _ _ _ _ _).2 ⟨⟨by omega, by omega, by omega, by omega, by omega, by omega, by omega, by omega, by omega, by omega, by omega, by omega⟩, by omega, by omega⟩
      have r3 : rt (xa + 1) xb xc xd xe (1 + q + 1) = 0 := (rt_zero _ _ _ _ _ _).2 ⟨⟨by omega, by omega, by omega, by omega, by omega, by omega, by omega, by omega, by omega, by omega, by omega, by omega⟩, by omega, by omega⟩
      have VAL : ∀ k : Int, 0 ≤ k → k ≤ 3 → ∃ N N2 : Int, 64 ≤ N ∧ N ≤ N2 ∧ bndR (xa + 1) xb xc xd xe (1 + q) k = N ∧ bndR (xa2 + 1) xb2 xc2 xd2 xe2 (1 + q) k = N ∧ bndR (xa + 1) xb xc xd xe (1 + q + 1) k = N2 ∧ bndR (xa + 1) xb xc xd xe (1 + q) 0 = 64 := by
        intro k k0 k1
        rw [bnd_ok r1, bnd_ok r2, bnd_ok r3, bnd_ok r1, if_pos rfl]
        rcases (show k = 0 ∨ k = 1 ∨ k = 2 ∨ k = 3 by omega) with rfl | rfl | rfl | rfl
        · exact ⟨_, _, by simp, by simp, rfl, rfl, rfl, rfl⟩
        · exact ⟨_, _, by simp; omega, by simp; omega, rfl, rfl, rfl, rfl⟩
        · exact ⟨_, _, by simp, by simp, rfl, rfl, rfl, rfl⟩
        · exact ⟨_, _, by simp, by simp, rfl, rfl, rfl, rfl⟩
      clear r1 r2 r3
      have g4 : IntKind.i64.wrap (1 + q + 1) = 1 + q + 1 := by rw [IntKind.wrap_i64]; omega
      have B1 := fun (k : Int) (hk : InI k) (wX : World) => K.bound (w := wX) (xa + 1) xb xc xd xe (1 + q) k ⟨by omega, by omega⟩ ⟨by omega, by omega⟩ ⟨by omega, by omega⟩ ⟨by omega, by omega⟩ ⟨by omega, by omega⟩ ⟨by omega, by omega⟩ hk
      have B2 := fun (k : Int) (hk : InI k) (wX : World) => K.bound (w := wX) (xa2 + 1) xb2 xc2 xd2 xe2 (1 + q) k ⟨by omega, by omega⟩ ⟨by omega, by omega⟩ ⟨by omega, by omega⟩ ⟨by omega, by omega⟩ ⟨by omega, by omega⟩ ⟨by omega, by omega⟩ hk
      have B3 := fun (k : Int) (hk : InI k) (wX : World) => K.bound (w := wX) (xa + 1) xb xc xd xe (1 + q + 1) k ⟨by omega, by omega⟩ ⟨by omega, by omega⟩ ⟨by omega, by omega⟩ ⟨by omega, by omega⟩ ⟨by omega, by omega⟩ ⟨by omega, by omega⟩ hk
      replace B1 := Lib.hid B1
      replace B2 := Lib.hid B2
      replace B3 := Lib.hid B3
      replace VAL := Lib.hid VAL
      clear g1 hq xa0 xa1 xb0 xb1 xc0 xc1 xd0 xd1 xe0 xe1 xa20 xa21 xb20 xb21 xc20 xc21 xd20 xd21 xe20 xe21
      go_loopw [11] (fun s wr => ∃ k : Nat, k ≤ 4 ∧ s = .int .i64 k ∧ Hid (Below w.heap.size w wr) ∧ Hid (Arr5 wr B7 (xa + 1) xb xc xd xe ∧ Arr5 wr B8 (xa2 + 1) xb2 xc2 xd2 xe2)) (fun s _ => 4 - (intOf s).toNat)
      case atStart => exact ⟨0, by omega, rfl, b4, hA⟩
      case round =>
        clear b4 hA
        obtain ⟨k, hk, rfl, bl, hA⟩ := hrel
        by_cases hlt : k ≤ 3
        · have d1 : decide ((k : Int) ≤ 3) = true := by simp; omega
          have hw : IntKind.i64.wrap ((k : Int) + 1) = (k : Int) + 1 := by rw [IntKind.wrap_i64]; omega
          obtain ⟨N, N2, n1, n2, v1, v2, v3, v0⟩ := VAL.out k (by omega) (by omega)
          have P1 := B1.out (k : Int) ⟨by omega, by omega⟩
          have P2 := B2.out (k : Int) ⟨by omega, by omega⟩
          have P3 := B3.out (k : Int) ⟨by omega, by omega⟩
          have P0 := B1.out 0 (inI_lit _ (by decide))
          rw [v1] at P1
          rw [v2] at P2
          rw [v3] at P3
          rw [v0] at P0
          replace P1 := Lib.hid P1
          replace P2 := Lib.hid P2
          replace P3 := Lib.hid P3
          replace P0 := Lib.hid P0
          have e1 : decide (N > N2) = false := by simp; omega
          have e1' : decide (N2 < N) = false := by simp; omega
          have e2 : decide (N < 64) = false := by simp; omega
          have e3 : decide (N < 1) = false := by simp; omega
          clear v1 v2 v3 v0
          obtain ⟨⟨r0, r1, r2, r3, r4⟩, ⟨s0, s1, s2, s3, s4⟩⟩ := hA.out
          go_wp2_with fail
          clear r0 r1 r2 r3 r4 s0 s1 s2 s3 s4
          refine (P1.out _).mono ?_
          rintro e w5 ⟨rfl, h1⟩
          have bl' := Lib.hid (bl.out.trans (h1.mono bl.out.size))
          have hA' := Lib.hid (And.intro (hA.out.1.keep h1) (hA.out.2.keep h1))
          clear bl hA h1
          have bl := bl'
          have hA := hA'
          clear bl' hA'
          obtain ⟨⟨r0, r1, r2, r3, r4⟩, ⟨s0, s1, s2, s3, s4⟩⟩ := hA.out
          go_wp2_with fail
          clear r0 r1 r2 r3 r4 s0 s1 s2 s3 s4
          refine (P2.out _).mono ?_
          rintro e w6 ⟨rfl, h1⟩
          have bl' := Lib.hid (bl.out.trans (h1.mono bl.out.size))
          have hA' := Lib.hid (And.intro (hA.out.1.keep h1) (hA.out.2.keep h1))
          clear bl hA h1
          have bl := bl'
          have hA := hA'
          clear bl' hA'
          obtain ⟨⟨r0, r1, r2, r3, r4⟩, ⟨s0, s1, s2, s3, s4⟩⟩ := hA.out
          go_wp2_with fail
          clear r0 r1 r2 r3 r4 s0 s1 s2 s3 s4
          refine (P3.out _).mono ?_
          rintro e w7 ⟨rfl, h1⟩
          have bl' := Lib.hid (bl.out.trans (h1.mono bl.out.size))
          have hA' := Lib.hid (And.intro (hA.out.1.keep h1) (hA.out.2.keep h1))
          clear bl hA h1
          have bl := bl'
          have hA := hA'
          clear bl' hA'
          obtain ⟨⟨r0, r1, r2, r3, r4⟩, ⟨s0, s1, s2, s3, s4⟩⟩ := hA.out
          go_wp2_with fail
          clear r0 r1 r2 r3 r4 s0 s1 s2 s3 s4
          refine (P0.out _).mono ?_
          rintro e w8 ⟨rfl, h1⟩
          have bl' := Lib.hid (bl.out.trans (h1.mono bl.out.size))
          have hA' := Lib.hid (And.intro (hA.out.1.keep h1) (hA.out.2.keep h1))
          clear bl hA h1
          have bl := bl'
          have hA := hA'
          clear bl' hA'
          obtain ⟨⟨r0, r1, r2, r3, r4⟩, ⟨s0, s1, s2, s3, s4⟩⟩ := hA.out
          clear r0 r1 r2 r3 r4 s0 s1 s2 s3 s4
          go_wp2
          go_roundw
          case rel => exact ⟨k + 1, by omega, by go_num, bl, hA⟩
          case measure => simp [intOf]; omega
        · have d1 : decide ((k : Int) ≤ 3) = false := by simp; omega
          have hk4 : k = 4 := by omega
          subst hk4
          go_wp2_with fail
          refine (known_any K _).mono ?_
          rintro e w9 ⟨rfl, hbk⟩
          have hbl := Lib.hid (bl.out.trans (hbk.mono bl.out.size))
          clear bl hA hbk
          go_wp2
          go_ret
          exact ⟨rfl, hbl.out⟩
end Wd
end Go.Proofs.Ytafogggfiopcgaa
