/- What the laws ask of a ring, whoever keeps it; what keeps it. -/
import Derived.Test.YtdfmbeilmbnpiaaRNew
import Derived.Test.YtdfmbeilmbnpiaaRSame
import Derived.Test.YtdfmbeilmbnpiaaRMath
import Derived.OpenShut
import Derived.Deep.RegionHeld3
namespace Go.Proofs.Ytdfmbeilmbnpiaa
open Go.RowKit
namespace Wd
/-- w' is w, but for the blocks of F and new ones -/
structure Ch (F : Nat → Prop) (w w' : World) : Prop where
  os : w'.os = w.os
  tape : w'.tape = w.tape
  output : w'.output = w.output
  size : w.heap.size ≤ w'.heap.size
  block : ∀ k, k < w.heap.size → ¬ F k → w'.heap[k]? = w.heap[k]?
/-- may it be put in -/
def putOk (n : Nat) (L : List Int) (i a : Int) : Bool := decide (0 ≤ i ∧ i < n ∧ i ∉ L ∧ (a ∈ L ∨ (a = -1 ∧ L = [])))
/-- what the laws ask of the package's ring: 'RA w p n L F': at block p lies a ring of n places, those of L are in, in this order; it lies in the blocks F -/
structure RingK (RA : World → Nat → Nat → List Int → (Nat → Prop) → Prop) : Prop where
  lt : ∀ {w p n L F}, RA w p n L F → ∀ k, F k → k < w.heap.size
  keep : ∀ {w w' p n L F}, RA w p n L F → (∀ k, F k → w'.heap[k]? = w.heap[k]?) → RA w' p n L F
  next : ∀ {w p n L F} (i : Int), RA w p n L F → (-9223372036854775808 ≤ i) → (i ≤ 9223372036854775807) → Calls Try.prog 12 #[.pointer (some ⟨p, 0, none⟩), .int .i64 i] w fun e w' => e = .returned (.int .i64 (nxt L i)) ∧ ∃ q, w' = w.drewN q
  prev : ∀ {w p n L F} (i : Int), RA w p n L F → (-9223372036854775808 ≤ i) → (i ≤ 9223372036854775807) → Calls Try.prog 13 #[.pointer (some ⟨p, 0, none⟩), .int .i64 i] w fun e w' => e = .returned (.int .i64 (prv L i)) ∧ ∃ q, w' = w.drewN q
  from' : ∀ {w p n L F} (i : Int), RA w p n L F → (-9223372036854775808 ≤ i) → (i ≤ 9223372036854775807) → Calls Try.prog 14 #[.pointer (some ⟨p, 0, none⟩), .int .i64 i] w fun e w' => ∃ u, e = .returned u ∧ SL w' 3 u (frm L i) ∧ Below w.heap.size w w' ∧ (∀ g, u.ownBlock = some g → w.heap.size ≤ g)
  len : ∀ {w p n L F}, RA w p n L F → Calls Try.prog 15 #[.pointer (some ⟨p, 0, none⟩)] w fun e w' => e = .returned (.int .i64 L.length) ∧ ∃ q, w' = w.drewN q
  out : ∀ {w p n L F} (i : Int), RA w p n L F → (-9223372036854775808 ≤ i) → (i ≤ 9223372036854775807) → Calls Try.prog 11 #[.pointer (some ⟨p, 0, none⟩), .int .i64 i] w fun e w' => e = .returned (.bool (decide (i ∈ L))) ∧ RA w' p n (outL L i) F ∧ Ch F w w'
  put : ∀ {w p n L F} (i a : Int), RA w p n L F → (-9223372036854775808 ≤ i) → (i ≤ 9223372036854775807) → (-9223372036854775808 ≤ a) → (a ≤ 9223372036854775807) → Calls Try.prog 16 #[.pointer (some ⟨p, 0, none⟩), .int .i64 i, .int .i64 a] w fun e w' => e = .returned (.bool (putOk n L i a)) ∧ RA w' p n (if putOk n L i a then inL L i a else L) F ∧ Ch F w w'
  new : ∀ {w} (n : Nat), 1 ≤ n → n ≤ 4096 → Calls Try.prog 10 #[.int .i64 n] w fun e w' => ∃ p F, e = .returned (.pointer (some ⟨p, 0, none⟩)) ∧ RA w' p n (rng n) F ∧ (∀ k, F k → w.heap.size ≤ k) ∧ Below w.heap.size w w'
  none : ∀ {w} (n : Int), (-9223372036854775808 ≤ n) → (n ≤ 9223372036854775807) → (n < 1 ∨ 4096 < n) → Calls Try.prog 10 #[.int .i64 n] w fun e w' => e = .returned (.pointer .none) ∧ w' = w
theorem RefAt.keep {w w' : World} {b : Nat} {N : Int} {L : List Int} {v : Value} (h : RefAt w b N L v) (hk : ∀ k, (k = b ∨ v.ownBlock = some k) → w'.heap[k]? = w.heap[k]?) : RefAt w' b N L v := by
  have hb := hk b (Or.inl rfl)
  refine ⟨(World.cell?_of_block (a := ⟨b, 0, none⟩) hb).trans h.n, (World.cell?_of_block (a := ⟨b, 1, none⟩) hb).trans h.l, (World.frozen?_of_block (a := ⟨b, 1, none⟩) hb).trans h.fr, ⟨h.own.1, ?_⟩, h.apart, h.nn⟩
  rcases h.own.2 with hh | ⟨g, cap, cur, rfl, h1, h2, h3⟩
  · exact Or.inl hh
  · exact Or.inr ⟨g, cap, cur, rfl, h1, (hk g (Or.inr rfl)).trans h2, h3⟩
theorem RefAt.lt {w : World} {b : Nat} {N : Int} {L : List Int} {v : Value} (h : RefAt w b N L v) : b < w.heap.size ∧ ∀ g, v.ownBlock = some g → g < w.heap.size :=
  ⟨World.block_lt_of_cell? w _ h.l, fun g hg => (h.own.lt g hg).2⟩
theorem SL.keep {w w' : World} {e : TypeId} {v : Value} {L : List Int} (h : SL w e v L) (b : Below w.heap.size w w') : SL w' e v L :=
  World.ownsRow.kept h ⟨b.os, b.tape, b.output, b.size, fun k hk _ => b.block k hk⟩ (row := none) (by cases v.ownBlock <;> simp)
/-- a ring of the package's, and one of the document's, with the same in, apart -/
structure Two (RA : World → Nat → Nat → List Int → (Nat → Prop) → Prop) (w : World) (p b n : Nat) (L : List Int) (F : Nat → Prop) (v : Value) : Prop where
  ra : RA w p n L F
  ref : RefAt w b n L v
  apart : ¬ F b ∧ ∀ g, v.ownBlock = some g → ¬ F g
theorem Two.keep {RA : World → Nat → Nat → List Int → (Nat → Prop) → Prop} (K : RingK RA) {w w' : World} {p b n : Nat} {L : List Int} {F : Nat → Prop} {v : Value} (h : Two RA w p b n L F v) (g : Below w.heap.size w w') : Two RA w' p b n L F v :=
  ⟨K.keep h.ra (fun k hk => g.block k (K.lt h.ra k hk)), h.ref.keep (fun k hk => g.block k (by rcases hk with rfl | hk; exact h.ref.lt.1; exact h.ref.lt.2 k hk)), h.apart⟩
theorem grown_refl (w : World) (b : Option Nat) : w.grownBy w b := ⟨rfl, rfl, rfl, Nat.le_refl _, fun _ _ _ => rfl⟩
/-- the document's own In, whatever it is asked -/
theorem put_c (i a : Int) (b n : Nat) (L : List Int) (v : Value) (w : World) (h : RefAt w b n L v) (hl : L.length ≤ 8192) :
    Calls Try.prog 19 #[.pointer (some ⟨b, 0, none⟩), .int .i64 i, .int .i64 a] w fun e w' => e = .returned (.bool (putOk n L i a)) ∧ ∃ v', RefAt w' b n (if putOk n L i a then inL L i a else L) v' ∧ w.grownBy w' (some b) ∧ (∀ g, v'.ownBlock = some g → w.heap.size ≤ g ∨ v.ownBlock = some g) := by
  by_cases c : 0 ≤ i ∧ i < n ∧ i ∉ L ∧ (a ∈ L ∨ (a = -1 ∧ L = []))
  · have e : putOk n L i a = true := by unfold putOk; simpa using c
    rw [e, if_pos rfl]
    obtain ⟨c1, c2, c3, c4⟩ := c
    by_cases ca : a ∈ L
    · obtain ⟨k, hk, hlt, hx⟩ := idx_in L a ca
      have ei : inL L i a = L.take k ++ [i] ++ L.drop k := by unfold inL; rw [if_pos ca, hx]
      rw [ei]
      refine (in_yes i a b n L v w h hl k (Nat.le_of_lt hlt) c1 c2 (idx_out c3) hk).mono ?_
      rintro r w' ⟨rfl, v', h1, h2, h3⟩
      exact ⟨rfl, v', h1, h2, fun g hg => Or.inl (h3 g hg)⟩
    · obtain ⟨rfl, rfl⟩ := c4.resolve_left ca
      have ei : inL [] i (-1) = ([] : List Int).take 0 ++ [i] ++ ([] : List Int).drop 0 := by simp [inL]
      rw [ei]
      refine (in_first i b n v w h hl c1 c2 (idx_out c3) (idx_out ca)).mono ?_
      rintro r w' ⟨rfl, v', h1, h2, h3⟩
      exact ⟨rfl, v', h1, h2, fun g hg => Or.inl (h3 g hg)⟩
  · have e : putOk n L i a = false := by unfold putOk; simpa using c
    rw [e, if_neg (by simp)]
    refine (in_no i a b n L v w h hl ?_).mono ?_
    · by_cases c1 : i < 0
      · exact Or.inl c1
      by_cases c2 : (n : Int) ≤ i
      · exact Or.inr (Or.inl c2)
      by_cases c3 : i ∈ L
      · exact Or.inr (Or.inr (Or.inl c3))
      refine Or.inr (Or.inr (Or.inr ⟨fun h => c ⟨by omega, by omega, c3, Or.inl h⟩, ?_⟩))
      by_cases c5 : a = -1
      · right; intro h; exact c ⟨by omega, by omega, c3, Or.inr ⟨c5, h⟩⟩
      · exact Or.inl c5
    · rintro r w' ⟨rfl, rfl⟩
      exact ⟨rfl, v, h, grown_refl _ _, fun g hg => Or.inr hg⟩
end Wd
end Go.Proofs.Ytdfmbeilmbnpiaa
