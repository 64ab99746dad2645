/- An append onto a row of the call's own, at a step of a region that draws: something or nothing is appended. -/
import Derived.Test.YtdfmbeilmbnpiaaRRef
import Derived.Test.YtdfmbeilmbnpiaaRFrom
import Derived.Test.YtdfmbeilmbnpiaaROut
import Derived.Test.YtdfmbeilmbnpiaaRLast
import Derived.OneCell
import Derived.Test.YtdfmbeilmbnpiaaRNo
import Derived.Maps.AppendAt
import Derived.Deep.AppendLies
import Derived.Deep.RegionHeldLaw
namespace Go.Proofs.Ytdfmbeilmbnpiaa
open Go.RowKit
namespace Wd
/-- 0, 1, .. m less 1 -/
def rng (m : Nat) : List Int := (List.range m).map (fun (k : Nat) => (k : Int))
theorem rng_succ (m : Nat) : rng (m + 1) = rng m ++ [(m : Int)] := by simp [rng, List.range_succ]
theorem rng_len (m : Nat) : (rng m).length = m := by simp [rng]
/-- the ring while it is filled -/
structure RNew (w : World) (n : Int) (k : Nat) (v : Value) (wr : World) : Prop where
  n : wr.cell? ⟨w.heap.size, 0, none⟩ = some (.int .i64 n)
  l : wr.cell? ⟨w.heap.size, 1, none⟩ = some v
  fr : wr.frozen? ⟨w.heap.size, 1, none⟩ = false
  own : wr.ownsRow w.heap.size 3 1 v k (ints (rng k))
  apart : v.ownBlock ≠ some w.heap.size
  nn : 0 < k → v ≠ .slice none 0 0
  bel : Below w.heap.size w wr
theorem RNew.next {w wr w1 : World} {n : Int} {k g cap : Nat} {v : Value} (h : RNew w n k v wr) {c : Array Value} {t : TypeId}
    (hown : w1.ownsRow w.heap.size 3 1 (.slice (some ⟨g, 0, none⟩) (k + 1) cap) (k + 1) (ints (rng k) ++ ints [(k : Int)])) (hg : (wr.alloc (.cells c t)).grownBy w1 v.ownBlock) (hat : v.ownBlock = some g ∨ g = (wr.alloc (.cells c t)).heap.size) :
    RNew w n (k + 1) (.slice (some ⟨g, 0, none⟩) (k + 1) cap) (w1.setCell ⟨w.heap.size, 1, none⟩ (.slice (some ⟨g, 0, none⟩) (k + 1) cap)) ∧ w1.cell? ⟨w.heap.size, 1, none⟩ = some v ∧ w1.frozen? ⟨w.heap.size, 1, none⟩ = false := by
  have hB : w.heap.size < wr.heap.size := World.block_lt_of_cell? wr _ h.n
  have hne : some w.heap.size ≠ v.ownBlock := fun e => h.apart e.symm
  have ga := World.grownBy_alloc wr (.cells c t) none
  have k1 := keepS ⟨ga.cell h.n (by simp), ga.cell h.l (by simp), (ga.frozen_far _ hB (by simp)).trans h.fr⟩ hg hne
  have far : (Value.slice (some ⟨g, 0, none⟩) (k + 1) cap).ownBlock ≠ some w.heap.size := by
    intro e
    simp only [Value.ownBlock, Option.some.injEq] at e
    rcases hat with h' | h'
    · exact h.apart (by rw [h', e])
    · simp at h'; omega
  refine ⟨⟨(World.cell?_setCell_other _ _ _ _ (by simp)).trans k1.1, World.cell?_setCell_same _ _ _ k1.2.1, by rw [World.frozen?_setCell]; exact k1.2.2, ?_, far, (fun _ e => by cases e), ?_⟩, k1.2⟩
  · rw [rng_succ]
    exact ownsRow_setCell_other (by simpa [ints] using hown) far _
  · have b1 : Below w.heap.size w w1 := (h.bel.alloc h.bel.size _).grown hg (by have := h.bel.size; simp; omega) (fun k' hk => (h.own.lt k' hk).1)
    exact b1.setCell (Nat.le_refl _) _
theorem own_base {w : World} {base : Nat} {e : TypeId} {size n : Nat} {v : Value} {xs : List Value} (h : w.ownsRow base e size v n xs) : w.ownsRow 0 e size v n xs := by
  refine ⟨h.1, ?_⟩
  rcases h.2 with h | ⟨g, cap, cur, h1, _, h3⟩
  · exact Or.inl h
  · exact Or.inr ⟨g, cap, cur, h1, Nat.zero_le _, h3⟩
set_option maxHeartbeats 16000000 in
theorem rnew_c (n : Int) (h1 : 1 ≤ n) (h2 : n ≤ 8192) (w : World) :
    Calls Try.prog 18 #[.int .i64 n] w fun e w' => e = .returned (.pointer (some ⟨w.heap.size, 0, none⟩)) ∧ ∃ v, RefAt w' w.heap.size n (rng n.toNat) v ∧ Below w.heap.size w w' ∧ ∀ g, v.ownBlock = some g → w.heap.size ≤ g := by
  obtain ⟨i0, hi0, hz0, hz1, hz2⟩ := info_parts info3
  have S0 : RNew w n 0 (.slice none 0 0) (w.alloc (.cells #[.int .i64 n, .slice none 0 0] 45)) := ⟨by simp, by simp, by simp, World.ownsRow_nil _ _ _ _, (by simp [Value.ownBlock]), (fun h => absurd h (by omega)), (Below.refl _ _).alloc (Nat.le_refl _) _⟩
  replace S0 := Lib.hid S0
  have hmx : 8194 ≤ maxLen := by decide
  obtain ⟨N, rfl⟩ : ∃ N : Nat, n = N := ⟨n.toNat, by omega⟩
  go_enter Try.func18, Try.ntmps18
  go_wp2
  go_loopw [4] (fun i wr => ∃ k : Nat, k ≤ N ∧ i = .int .i64 k ∧ ∃ v, RNew w N k v wr) (fun i _ => N - (intOf i).toNat)
  case atStart => exact ⟨0, by omega, rfl, _, S0.out⟩
  case round =>
    obtain ⟨k, hk, rfl, v, hR⟩ := hrel
    have c0 := hR.n
    have c1 := hR.l
    by_cases hlt : k < N
    · have hlt' : decide ((k : Int) < (N : Int)) = true := by simp; omega
      replace hR := Lib.hid hR
      go_wp2_with (first | (at_builtin; refine wpList_append_lies _ rfl (.tmp 17) (.tmp 19) 28 rfl w.heap.size 3 i0 (.int .i64 0) 1 8 Try.underlying28 hi0 hz0 hz1 hz2 rfl (by decide) v k _ (by simp [Act.eval]) (hR.out.own.alloc _) ⟨wr.heap.size, 0, none⟩ 1 1 (ints [(k : Int)]) (by simp [Act.eval]) (by simp [ints]) (one_at ((World.cell?_alloc_new _ _ _ 0).trans rfl)) (ints_one _) (by omega) (by omega) (by omega) (by have := hR.out.bel.size; simp; omega) _ rfl ?_; intro g cap w1 hown1 hgrow1 hat1 hlt1; obtain ⟨R1, d1, d2⟩ := hR.out.next hown1 hgrow1 hat1; replace R1 := Lib.hid R1))
      go_roundw
      case rel => exact ⟨k + 1, by omega, by go_num, _, R1.out⟩
      case measure => simp [intOf]; omega
    · have e : k = N := by omega
      subst e
      replace hR := Lib.hid hR
      go_wp2
      go_ret
      exact ⟨rfl, v, ⟨hR.out.n, hR.out.l, hR.out.fr, by unfold SL; rw [show (k : Int).toNat = k from rfl, rng_len]; exact own_base hR.out.own, hR.out.apart, hR.out.nn (by omega)⟩, hR.out.bel, fun g hg => (hR.out.own.lt g hg).1⟩
end Wd
end Go.Proofs.Ytdfmbeilmbnpiaa
