/- What the laws ask of a mill, whoever keeps it. -/
import Derived.Test.YtjobeomadkaeoaaMShade
import Derived.Test.YtjobeomadkaeoaaMFlip
import Derived.Test.YtjobeomadkaeoaaMNew
import Derived.OpenShut
import Derived.Deep.RegionHeld3
namespace Go.Proofs.Ytjobeomadkaeoaa
open Go.RowKit
namespace Wd
/-- w' is w, but for the blocks of F and new ones -/
structure Ch (F : Nat → Prop) (w w' : World) : Prop where
  os : w'.os = w.os
  tape : w'.tape = w.tape
  output : w'.output = w.output
  size : w.heap.size ≤ w'.heap.size
  block : ∀ k, k < w.heap.size → ¬ F k → w'.heap[k]? = w.heap[k]?
/-- F' has no block but those of F and new ones -/
def Newer (F F' : Nat → Prop) (s : Nat) : Prop := ∀ k, F' k → F k ∨ s ≤ k
def rowA (A : Mst) (c : Int) : List Int := if 0 ≤ c ∧ c < 4 then A c.toNat else []
def startA (n : Nat) : Mst := upA (fun _ => []) 0 (rng n)
abbrev MAt := World → Nat → Nat → Mst → (Nat → Prop) → Prop
/-- what the laws ask of the package's mill: 'MA w p n A F': at block p lies a mill of n cells, its rows are A; it lies in the blocks F -/
structure MillK (MA : MAt) : Prop where
  lt : ∀ {w p n A F}, MA w p n A F → ∀ k, F k → k < w.heap.size
  keep : ∀ {w w' p n A F}, MA w p n A F → (∀ k, F k → w'.heap[k]? = w.heap[k]?) → MA w' p n A F
  alloc : ∀ {w p n A F}, MA w p n A F → Calls Try.prog 15 #[.pointer (some ⟨p, 0, none⟩)] w fun e w' => ∃ F', e = .returned (.int .i64 (firstR A 0)) ∧ MA w' p n (firstA A 0 1) F' ∧ Ch F w w' ∧ Newer F F' w.heap.size
  scan : ∀ {w p n A F}, MA w p n A F → Calls Try.prog 13 #[.pointer (some ⟨p, 0, none⟩)] w fun e w' => ∃ F', e = .returned (.int .i64 (firstR A 2)) ∧ MA w' p n (firstA A 2 1) F' ∧ Ch F w w' ∧ Newer F F' w.heap.size
  shade : ∀ {w p n A F} (i : Int), MA w p n A F → (-9223372036854775808 ≤ i) → (i ≤ 9223372036854775807) → Calls Try.prog 12 #[.pointer (some ⟨p, 0, none⟩), .int .i64 i] w fun e w' => ∃ F', e = .returned (.bool (decide (colorR A i = 3))) ∧ MA w' p n (shadeA A i) F' ∧ Ch F w w' ∧ Newer F F' w.heap.size
  flip : ∀ {w p n A F}, MA w p n A F → Calls Try.prog 14 #[.pointer (some ⟨p, 0, none⟩)] w fun e w' => ∃ u F', e = .returned u ∧ MA w' p n (flipA A) F' ∧ Ch F w w' ∧ Newer F F' w.heap.size ∧ SL w' 3 u (flipR A) ∧ (∀ g, u.ownBlock = some g → w.heap.size ≤ g ∧ ¬ F' g)
  color : ∀ {w p n A F} (i : Int), MA w p n A F → (-9223372036854775808 ≤ i) → (i ≤ 9223372036854775807) → Calls Try.prog 16 #[.pointer (some ⟨p, 0, none⟩), .int .i64 i] w fun e w' => e = .returned (.int .i64 (colorR A i)) ∧ Below w.heap.size w w'
  count : ∀ {w p n A F} (c : Int), MA w p n A F → (-9223372036854775808 ≤ c) → (c ≤ 9223372036854775807) → Calls Try.prog 17 #[.pointer (some ⟨p, 0, none⟩), .int .i64 c] w fun e w' => e = .returned (.int .i64 (rowA A c).length) ∧ Below w.heap.size w w'
  list : ∀ {w p n A F} (c : Int), MA w p n A F → (-9223372036854775808 ≤ c) → (c ≤ 9223372036854775807) → Calls Try.prog 19 #[.pointer (some ⟨p, 0, none⟩), .int .i64 c] w fun e w' => ∃ u, e = .returned u ∧ SL w' 3 u (rowA A c) ∧ Below w.heap.size w w' ∧ (∀ g, u.ownBlock = some g → w.heap.size ≤ g)
  new : ∀ {w} (n : Nat), 1 ≤ n → n ≤ 512 → Calls Try.prog 11 #[.int .i64 n] w fun e w' => ∃ p F, e = .returned (.pointer (some ⟨p, 0, none⟩)) ∧ MA w' p n (startA n) F ∧ (∀ k, F k → w.heap.size ≤ k) ∧ Below w.heap.size w w'
  none : ∀ {w} (n : Int), (-9223372036854775808 ≤ n) → (n ≤ 9223372036854775807) → (n < 1 ∨ 512 < n) → Calls Try.prog 11 #[.int .i64 n] w fun e w' => e = .returned (.pointer .none) ∧ Below w.heap.size w w'
/-- all cells are in one row, once -/
def Good (n : Nat) (A : Mst) : Prop := (A 0 ++ (A 1 ++ (A 2 ++ A 3))).Perm (rng n)
theorem good_start (n : Nat) : Good n (startA n) := by unfold Good startA; simp [upA]
theorem good_first {n : Nat} {A : Mst} (h : Good n A) (x : Nat) (hx : x = 0 ∨ x = 2) : Good n (firstA A x 1) := by
  unfold firstA
  split
  · exact h
  · rename_i i T hA
    refine List.Perm.trans ?_ h
    rcases hx with rfl | rfl
    · simp only [upA]
      simp only [hA, if_true, show ((0 : Nat) = 1) = False by simp, show ((2 : Nat) = 1) = False by simp, show ((3 : Nat) = 1) = False by simp, show ((2 : Nat) = 0) = False by simp, show ((3 : Nat) = 0) = False by simp, show ((1 : Nat) = 0) = False by simp, if_false]
      refine List.perm_iff_count.2 (fun a => ?_)
      simp only [List.count_append, List.count_cons, List.count_nil]
      omega
    · simp only [upA]
      simp only [hA, if_true, show ((0 : Nat) = 1) = False by simp, show ((2 : Nat) = 1) = False by simp, show ((3 : Nat) = 1) = False by simp, show ((0 : Nat) = 2) = False by simp, show ((3 : Nat) = 2) = False by simp, show ((1 : Nat) = 2) = False by simp, if_false]
      refine List.perm_iff_count.2 (fun a => ?_)
      simp only [List.count_append, List.count_cons, List.count_nil]
      omega
theorem good_nd {n : Nat} {A : Mst} (h : Good n A) : (A 0 ++ (A 1 ++ (A 2 ++ A 3))).Nodup := h.nodup_iff.2 (rng_nd n)
theorem good_len {n : Nat} {A : Mst} (h : Good n A) : (A 0).length + ((A 1).length + ((A 2).length + (A 3).length)) = n := by
  have := h.length_eq
  simpa [rng] using this
theorem good_le {n : Nat} {A : Mst} (h : Good n A) : ∀ k, k < 4 → (A k).length ≤ n := by
  have := good_len h
  intro k hk
  rcases (show k = 0 ∨ k = 1 ∨ k = 2 ∨ k = 3 by omega) with rfl | rfl | rfl | rfl <;> omega
theorem nd3 {n : Nat} {A : Mst} (h : Good n A) : (A 3).Nodup := by
  have := good_nd h
  exact (List.nodup_append.1 (List.nodup_append.1 (List.nodup_append.1 this).2.1).2.1).2.1
theorem filt_perm {L : List Int} (hn : L.Nodup) {i : Int} (h : i ∈ L) : (L.filter (· ≠ i) ++ [i]).Perm L := by
  have e : L.filter (· ≠ i) = L.erase i := by rw [hn.erase_eq_filter]; congr 1; funext x; by_cases h : x = i <;> simp [h]
  rw [e]
  exact (List.perm_append_singleton i _).trans (List.perm_cons_erase h).symm
theorem good_shade {n : Nat} {A : Mst} (h : Good n A) (i : Int) : Good n (shadeA A i) := by
  unfold shadeA
  split
  · rename_i hc
    refine List.Perm.trans ?_ h
    have hp := filt_perm (nd3 h) (colorR_in hc)
    simp only [upA]
    simp only [if_true, show ((0 : Nat) = 2) = False by simp, show ((1 : Nat) = 2) = False by simp, show ((3 : Nat) = 2) = False by simp, show ((0 : Nat) = 3) = False by simp, show ((1 : Nat) = 3) = False by simp, show ((2 : Nat) = 3) = False by simp, if_false]
    refine List.perm_iff_count.2 (fun a => ?_)
    have := List.perm_iff_count.1 hp a
    simp only [List.count_append] at this ⊢
    omega
  · exact h
theorem good_flip {n : Nat} {A : Mst} (h : Good n A) : Good n (flipA A) := by
  unfold flipA
  split
  · rename_i hc
    refine List.Perm.trans ?_ h
    simp only [upA]
    simp only [hc, if_true, show ((0 : Nat) = 1) = False by simp, show ((2 : Nat) = 1) = False by simp, show ((3 : Nat) = 1) = False by simp, show ((0 : Nat) = 3) = False by simp, show ((2 : Nat) = 3) = False by simp, show ((2 : Nat) = 0) = False by simp, if_false]
    refine List.perm_iff_count.2 (fun a => ?_)
    simp only [List.count_append, List.count_nil]
    omega
  · exact h
/-- the state of a play: a mill of the package's and one of the document's, both of the call's own -/
structure PSt (MA : MAt) (w0 wr : World) (p b n : Nat) (A : Mst) (F : Nat → Prop) (V : Nat → Value) : Prop where
  ma : MA wr p n A F
  ref : RefM wr b A V
  a1 : ¬ F b
  a2 : ∀ k g, k < 4 → (V k).ownBlock = some g → ¬ F g
  bel : Below w0.heap.size w0 wr
  fF : ∀ k, F k → w0.heap.size ≤ k
  fb : w0.heap.size ≤ b
  fV : ∀ k g, k < 4 → (V k).ownBlock = some g → w0.heap.size ≤ g
  good : Good n A
section
variable {MA : MAt} {w0 wr wA w1 w2 : World} {p b n : Nat} {A A' : Mst} {F F' : Nat → Prop} {V V' : Nat → Value}
theorem PSt.keep (K : MillK MA) (h : PSt MA w0 wr p b n A F V) (g : Below wr.heap.size wr wA) : PSt MA w0 wA p b n A F V :=
  ⟨K.keep h.ma (fun k hk => g.block k (K.lt h.ma k hk)), h.ref.keep g, h.a1, h.a2, h.bel.trans (g.mono h.bel.size), h.fF, h.fb, h.fV, h.good⟩
theorem PSt.ref1 (h : PSt MA w0 wr p b n A F V) (c : Ch F wr w1) : RefM w1 b A V :=
  h.ref.same (fun g hg => c.block g (by rcases hg with rfl | ⟨j, hj, hg⟩; exact h.ref.lt.1; exact h.ref.lt.2 j g hj hg) (by rcases hg with rfl | ⟨j, hj, hg⟩; exact h.a1; exact h.a2 j g hj hg))
theorem PSt.step (K : MillK MA) (h : PSt MA w0 wr p b n A F V) (hm : MA w1 p n A' F') (c : Ch F wr w1) (hn : Newer F F' wr.heap.size) (href : RefM w2 b A' V') (hgr : w1.grownBy w2 (some b)) (hf : Comes V V' w1.heap.size) (good : Good n A') :
    PSt MA w0 w2 p b n A' F' V' := by
  have hb := h.ref.lt.1
  have nb : ¬ F' b := fun hF => by
    rcases hn b hF with h' | h'
    · exact h.a1 h'
    · omega
  have b1 : Below w0.heap.size w0 w1 := h.bel.trans ⟨c.os, c.tape, c.output, c.size, fun k hk => c.block k (Nat.lt_of_lt_of_le hk h.bel.size) (fun hF => by have := h.fF k hF; omega)⟩
  have b2 : Below w0.heap.size w0 w2 := b1.trans ⟨hgr.os, hgr.tape, hgr.output, hgr.size, fun k hk => hgr.block k (Nat.lt_of_lt_of_le hk b1.size) (fun e => by have := h.fb; cases e; omega)⟩
  refine ⟨K.keep hm (fun k hk => hgr.block k (K.lt hm k hk) (fun e => by cases e; exact nb hk)), href, nb, fun k g hk hg hF => ?_, b2, fun k hk => ?_, h.fb, fun k g hk hg => ?_, good⟩
  · rcases hf k g hk hg with h' | ⟨j, hj, h'⟩
    · have := K.lt hm g hF; omega
    · rcases hn g hF with h3 | h3
      · exact h.a2 j g hj h' h3
      · have := h.ref.lt.2 j g hj h'; omega
  · rcases hn k hk with h' | h'
    · exact h.fF k h'
    · exact Nat.le_trans h.bel.size h'
  · rcases hf k g hk hg with h' | ⟨j, hj, h'⟩
    · have := b1.size; omega
    · exact h.fV j g hj h'
theorem PSt.hl (h : PSt MA w0 wr p b n A F V) (hn : n ≤ 512) : ∀ k, k < 4 → (A k).length ≤ 8192 := fun k hk => Nat.le_trans (good_le h.good k hk) (by omega)
end
/-- a mill of the package's, of the call's own -/
structure PM (MA : MAt) (w0 wr : World) (p n : Nat) (A : Mst) (F : Nat → Prop) : Prop where
  ma : MA wr p n A F
  bel : Below w0.heap.size w0 wr
  fF : ∀ k, F k → w0.heap.size ≤ k
  good : Good n A
section
variable {MA : MAt} {w0 wr wA w1 : World} {p n : Nat} {A A' : Mst} {F F' : Nat → Prop}
theorem PM.keep (K : MillK MA) (h : PM MA w0 wr p n A F) (g : Below wr.heap.size wr wA) : PM MA w0 wA p n A F :=
  ⟨K.keep h.ma (fun k hk => g.block k (K.lt h.ma k hk)), h.bel.trans (g.mono h.bel.size), h.fF, h.good⟩
theorem PM.step (h : PM MA w0 wr p n A F) (hm : MA w1 p n A' F') (c : Ch F wr w1) (hn : Newer F F' wr.heap.size) (good : Good n A') : PM MA w0 w1 p n A' F' := by
  refine ⟨hm, h.bel.trans ⟨c.os, c.tape, c.output, c.size, fun k hk => c.block k (Nat.lt_of_lt_of_le hk h.bel.size) (fun hF => by have := h.fF k hF; omega)⟩, fun k hk => ?_, good⟩
  rcases hn k hk with h' | h'
  · exact h.fF k h'
  · exact Nat.le_trans h.bel.size h'
end
end Wd
end Go.Proofs.Ytjobeomadkaeoaa
