/- What holds of a table of identities at any time; places in memory of the call's own. -/
import Derived.Test.YtekjengdiakaaaaTPlay
import Derived.Laws.Bits128
namespace Go.Proofs.Ytekjengdiakaaaa
open Go.RowKit
set_option linter.unusedVariables false
namespace Wd
theorem i64_and3 (n : Int) : bits .and .i64 n 3 = n % 4 := by
  have h127 : (BitVec.ofInt 64 3).toNat = 2 ^ 2 - 1 := by decide
  have key : (BitVec.ofInt 64 n &&& BitVec.ofInt 64 3).toNat = (n % ((2 ^ 64 : Nat) : Int)).toNat % 2 ^ 2 := by
    rw [BitVec.toNat_and, BitVec.toNat_ofInt, h127, Nat.and_two_pow_sub_one_eq_mod]
  show IntKind.i64.wrap ((BitVec.ofInt 64 n &&& BitVec.ofInt 64 3).toNat : Nat) = n % 4
  rw [key, IntKind.wrap_i64]
  omega
theorem i64_and15 (n : Int) : bits .and .i64 n 15 = n % 16 := by
  have h127 : (BitVec.ofInt 64 15).toNat = 2 ^ 4 - 1 := by decide
  have key : (BitVec.ofInt 64 n &&& BitVec.ofInt 64 15).toNat = (n % ((2 ^ 64 : Nat) : Int)).toNat % 2 ^ 4 := by
    rw [BitVec.toNat_and, BitVec.toNat_ofInt, h127, Nat.and_two_pow_sub_one_eq_mod]
  show IntKind.i64.wrap ((BitVec.ofInt 64 n &&& BitVec.ofInt 64 15).toNat : Nat) = n % 16
  rw [key, IntKind.wrap_i64]
  omega
/-- each identity that is there is in bounds, its place is nobody else's -/
structure Inv (T : Tst) : Prop where
  bd : ∀ k p, T k = some p → 4 ≤ k ∧ k < 1024 ∧ plOk p
  inj : ∀ i j p, T i = some p → T j = some p → i = j
theorem Inv.no : Inv noT := ⟨fun k p h => (by cases h), fun i j p h => (by cases h)⟩
theorem ofR_none {T : Tst} (hI : Inv T) {p : Pl} (h : ofR T p = none) (k : Nat) : T k ≠ some p := by
  intro hk
  obtain ⟨h1, h2, _⟩ := hI.bd k p hk
  have := firstIn_no h k h1 h2
  rw [hk] at this
  simp at this
theorem ofR_at {T : Tst} (hI : Inv T) {k : Nat} {p : Pl} (h : T k = some p) : ofR T p = some k := by
  obtain ⟨h1, h2, _⟩ := hI.bd k p h
  refine firstIn_hit h1 h2 (fun j a b => ?_) (by show (T k == some p) = true; rw [h]; simp)
  show (T j == some p) = false
  have : T j ≠ some p := fun e => by have := hI.inj j k p e h; omega
  simpa using this
theorem freeR_at {T : Tst} {k : Nat} (h : freeR T = some k) : 4 ≤ k ∧ k < 1024 ∧ T k = none := by
  obtain ⟨h1, h2, h3, _⟩ := firstIn_some h
  exact ⟨h1, h2, by simpa using h3⟩
theorem Inv.upd {T : Tst} (hI : Inv T) {k : Nat} {p : Pl} (h1 : 4 ≤ k) (h2 : k < 1024) (hp : plOk p) (hn : ∀ j, j ≠ k → T j ≠ some p) : Inv (updT T k (some p)) := by
  refine ⟨fun j q hq => ?_, fun i j q hi hj => ?_⟩
  · unfold updT at hq
    by_cases c : j = k
    · subst c; rw [if_pos rfl] at hq; cases hq; exact ⟨h1, h2, hp⟩
    · rw [if_neg c] at hq; exact hI.bd j q hq
  · unfold updT at hi hj
    by_cases c : i = k
    · rw [if_pos c] at hi
      cases hi
      by_cases d : j = k
      · omega
      · rw [if_neg d] at hj; exact absurd hj (hn j d)
    · rw [if_neg c] at hi
      by_cases d : j = k
      · rw [if_pos d] at hj; cases hj; exact absurd hi (hn i c)
      · rw [if_neg d] at hj; exact hI.inj i j q hi hj
theorem Inv.del {T : Tst} (hI : Inv T) (k : Nat) : Inv (updT T k none) := by
  refine ⟨fun j q hq => ?_, fun i j q hi hj => ?_⟩
  · unfold updT at hq
    by_cases c : j = k
    · rw [if_pos c] at hq; cases hq
    · rw [if_neg c] at hq; exact hI.bd j q hq
  · unfold updT at hi hj
    by_cases c : i = k
    · rw [if_pos c] at hi; cases hi
    · rw [if_neg c] at hi
      by_cases d : j = k
      · rw [if_pos d] at hj; cases hj
      · rw [if_neg d] at hj; exact hI.inj i j q hi hj
theorem Inv.take {T : Tst} (hI : Inv T) {p : Pl} (hp : plOk p) : Inv (takeT T p) := by
  unfold takeT
  cases ho : ofR T p with
  | some j => simpa using hI
  | none =>
    simp only [Option.isSome_none, Bool.false_eq_true, if_false]
    cases hf : freeR T with
    | none => exact hI
    | some k =>
      obtain ⟨h1, h2, h3⟩ := freeR_at hf
      exact hI.upd h1 h2 hp (fun j _ => ofR_none hI ho j)
theorem Inv.give {T : Tst} (hI : Inv T) (i : Int) : Inv (giveT T i) := by
  unfold giveT
  split
  · exact hI.del _
  · exact hI
theorem swapT_at {T : Tst} {x y : Nat} {p q : Pl} (hx : T x = some p) (hy : T y = some q) (h1 : x < 1024) (h2 : y < 1024) : swapB T x y = true ∧ swapT T x y = updT (updT T x (some q)) y (some p) := by
  have hb : swapB T x y = true := by
    unfold swapB
    rw [hasT_in h1, hasT_in h2]
    unfold inR
    rw [hx, hy]; rfl
  refine ⟨hb, ?_⟩
  unfold swapT
  rw [if_pos hb, show (x : Int).toNat = x by simp, show (y : Int).toNat = y by simp, hx, hy]
theorem swap_x {T : Tst} {x y : Nat} {p q : Pl} (hx : T x = some p) (hy : T y = some q) : updT (updT T x (some q)) y (some p) x = some q := by
  by_cases c : x = y
  · subst c; rw [updT_self]; rw [← hx, hy]
  · unfold updT; rw [if_neg c, if_pos rfl]
theorem swap_y {T : Tst} {x y : Nat} {p q : Pl} : updT (updT T x (some q)) y (some p) y = some p := updT_self _
theorem atP_at {T : Tst} {k : Nat} {p : Pl} (h : T k = some p) (hk : k < 1024) : atP T k = p ∧ hasT T k = true := by
  have hh : hasT T k = true := by rw [hasT_in hk]; unfold inR; rw [h]; rfl
  refine ⟨?_, hh⟩
  unfold atP
  rw [if_pos hh, show (k : Int).toNat = k by simp, h]; rfl
theorem idsT_mem {T : Tst} {x : Int} (h : x ∈ idsT T) : ∃ k : Nat, x = k ∧ k < 1024 ∧ ∃ p, T k = some p := by
  unfold idsT at h
  obtain ⟨k, hk, rfl⟩ := List.mem_map.1 h
  rw [List.mem_filter, List.mem_range] at hk
  exact ⟨k, rfl, hk.1, Option.isSome_iff_exists.1 hk.2⟩
theorem mem_idsT {T : Tst} {k : Nat} {p : Pl} (hk : k < 1024) (h : T k = some p) : (k : Int) ∈ idsT T := by
  unfold idsT
  exact List.mem_map.2 ⟨k, by rw [List.mem_filter, List.mem_range]; exact ⟨hk, by rw [h]; rfl⟩, rfl⟩
theorem idsT_sorted (T : Tst) : (idsT T).Pairwise (· < ·) := by
  unfold idsT
  rw [List.pairwise_map]
  refine List.Pairwise.imp (fun {a b} (h : a < b) => by omega) (List.Pairwise.filter _ List.pairwise_lt_range)
theorem idsT_lt {T : Tst} {i j : Nat} {x y : Int} (hij : i < j) (hi : (idsT T)[i]? = some x) (hj : (idsT T)[j]? = some y) : x < y := by
  have h := idsT_sorted T
  obtain ⟨h1, rfl⟩ := List.getElem?_eq_some_iff.1 hi
  obtain ⟨h2, rfl⟩ := List.getElem?_eq_some_iff.1 hj
  exact List.pairwise_iff_getElem.1 h i j h1 h2 hij
/-- a table of the package's, and places in memory of the call's own -/
structure PB (TA : TAt) (w0 wr : World) (p : Nat) (T : Tst) (F : Nat → Prop) (L : List (Nat × Pl)) : Prop where
  pt : PT TA w0 wr p T F
  bx : ∀ e, e ∈ L → wr.cell? ⟨e.1, 0, none⟩ = some (.int .i64 e.2.1) ∧ wr.cell? ⟨e.1, 1, none⟩ = some (.int .i64 e.2.2) ∧ ¬ F e.1
section
variable {TA : TAt} {w0 wr wA w1 : World} {p : Nat} {T T' : Tst} {F F' : Nat → Prop} {L : List (Nat × Pl)}
theorem PB.of (h : PT TA w0 wr p T F) : PB TA w0 wr p T F [] := ⟨h, fun e he => by cases he⟩
theorem PB.keep (K : TableK TA) (h : PB TA w0 wr p T F L) (g : Below wr.heap.size wr wA) : PB TA w0 wA p T F L := by
  refine ⟨h.pt.keep K g, fun e he => ?_⟩
  obtain ⟨c0, c1, nf⟩ := h.bx e he
  exact ⟨(g.cell (World.block_lt_of_cell? wr _ c0)).trans c0, (g.cell (World.block_lt_of_cell? wr _ c1)).trans c1, nf⟩
theorem PB.step (h : PB TA w0 wr p T F L) (hm : TA w1 p T' F') (c : Ch F wr w1) (hn : Newer F F' wr.heap.size) : PB TA w0 w1 p T' F' L := by
  refine ⟨h.pt.step hm c hn, fun e he => ?_⟩
  obtain ⟨c0, c1, nf⟩ := h.bx e he
  have hlt : e.1 < wr.heap.size := World.block_lt_of_cell? wr _ c0
  have hb := c.block e.1 hlt nf
  refine ⟨(World.cell?_of_block (a := ⟨e.1, 0, none⟩) hb).trans c0, (World.cell?_of_block (a := ⟨e.1, 1, none⟩) hb).trans c1, fun hF => ?_⟩
  rcases hn e.1 hF with h' | h'
  · exact nf h'
  · omega
theorem PB.made (K : TableK TA) (h : PB TA w0 wr p T F L) (q : Pl) (t : TypeId) : PB TA w0 (wr.alloc (.cells #[.int .i64 q.1, .int .i64 q.2] t)) p T F ((wr.heap.size, q) :: L) := by
  have h1 := h.keep K ((Below.refl wr.heap.size wr).alloc (Nat.le_refl _) (.cells #[.int .i64 q.1, .int .i64 q.2] t))
  refine ⟨h1.pt, fun e he => ?_⟩
  rcases List.mem_cons.1 he with rfl | he
  · exact ⟨by simp, by simp, fun hF => by have := K.lt h.pt.ta _ hF; simp at this⟩
  · exact h1.bx e he
end
end Wd
end Go.Proofs.Ytekjengdiakaaaa
