/- The document's own chain. -/
import Derived.Test.YtlbekicalinglaaSPure
namespace Go.Proofs.Ytlbekicalinglaa
open Go.RowKit
set_option linter.unusedVariables false
set_option maxRecDepth 20000
namespace Wd
theorem row_form {w : World} {base size n : Nat} {e : TypeId} {v : Value} {xs : List Value} (h : w.ownsRow base e size v n xs) : ∃ a c, v = .slice a n c := by
  rcases h.2 with ⟨rfl, h0⟩ | ⟨g, cap, cur, rfl, _⟩
  · exact ⟨_, _, by rw [h0]⟩
  · exact ⟨_, _, rfl⟩
theorem row_up {w w1 : World} {base size n : Nat} {e : TypeId} {v : Value} {xs : List Value} (h : w.ownsRow base e size v n xs) (b : Below w.heap.size w w1) : w1.ownsRow base e size v n xs :=
  World.ownsRow.kept h ⟨b.os, b.tape, b.output, b.size, fun k hk _ => b.block k hk⟩ (row := none) (by cases v.ownBlock <;> simp)
/-- a chain that is being written -/
structure ChR (w wr : World) (L : List ClassA) (i0 j : Int) (v : Value) (m : Nat) (C : List Int) : Prop where
  own : wr.ownsRow w.heap.size 3 1 v m (ints C)
  len : m = C.length
  le : m ≤ 8
  eq : chain L i0 = C ++ chainR L j (8 - m)
  bel : Below w.heap.size w wr
  ij : In64 j
theorem ChR.last {w wr : World} {L : List ClassA} {i0 j : Int} {v : Value} {m : Nat} {C : List Int} (h : ChR w wr L i0 j v m C) (e : chainR L j (8 - m) = []) : SL wr 3 v (chain L i0) := by
  rw [h.eq, e, List.append_nil]
  have := h.own
  rw [h.len] at this
  exact own_base this
theorem ChR.more {w wr w1 w2 : World} {L : List ClassA} {i0 : Int} {k : Nat} {v v' : Value} {m : Nat} {C : List Int} {c : ClassA} (h : ChR w wr L i0 (k : Int) v m C) (hc : L[k]? = some c) (hl : m < 8) (hA : w1 = wr.alloc (.cells #[.int .i64 (k : Int)] 3)) (ho : w2.ownsRow w.heap.size 3 1 v' (m + 1) (ints C ++ ints [(k : Int)])) (hg : w1.grownBy w2 v.ownBlock) (hi : In64 c.super) : ChR w w2 L i0 c.super v' (m + 1) (C ++ [(k : Int)]) := by
  subst hA
  refine ⟨by simpa using ho, by simp [h.len], by omega, ?_, (h.bel.alloc h.bel.size _).grown hg (by have := h.bel.size; simp; omega) (fun k hk => (h.own.lt k hk).1), hi⟩
  rw [h.eq, show 8 - m = (7 - m) + 1 by omega, chainR_on hc]
  simp [show 8 - (m + 1) = 7 - m by omega]
set_option maxHeartbeats 16000000 in
theorem chain_c {w : World} {v : Value} {L : List ClassA} (h : ClV w v L) (i : Int) (hi : In64 i) :
    Calls Try.prog 23 #[v, .int .i64 i] w fun e w' => ∃ v', e = .returned v' ∧ SL w' 3 v' (chain L i) ∧ Below w.heap.size w w' := by
  obtain ⟨i0, hi0, hz0, hz1, hz2⟩ := info_parts info3
  have hmx : 100000 ≤ maxLen := by decide
  obtain ⟨ad, cap, rfl, hcap, hm⟩ := h.form
  obtain ⟨n, hn⟩ : ∃ n, n = L.length := ⟨_, rfl⟩
  rw [← hn] at h hcap ⊢
  replace h := Lib.hid h
  have hn' := Lib.hid hn
  have hnm : n ≤ maxLen := by omega
  have hst : Hid (ChR w w L i i (.slice none 0 0) 0 []) := Lib.hid ⟨World.ownsRow_nil _ _ _ _, by simp, by simp, by simp [chain], Below.refl _ _, hi⟩
  clear hcap hm hi hn
  go_enter Try.func23, Try.ntmps23
  go_wp2
  go_loopw [1, 5] (fun i1 v5 wr => ∃ (j : Int) (C : List Int) (a : Option Addr) (m c : Nat), i1 = .int .i64 j ∧ v5 = .slice a m c ∧ Hid (ChR w wr L i j (.slice a m c) m C)) (fun i1 v5 _ => match v5 with | .slice _ m _ => 8 - m | _ => 0)
  case atStart => exact ⟨i, [], none, 0, 0, rfl, rfl, hst⟩
  case round =>
    obtain ⟨j, C, a, m, c, rfl, rfl, hR⟩ := hrel
    have hle : m ≤ 8 := hR.out.le
    obtain ⟨b0, b1⟩ := hR.out.ij
    by_cases h0 : 0 ≤ j
    · by_cases h1 : j < n
      · by_cases h2 : m < 8
        · obtain ⟨k, rfl⟩ : ∃ k : Nat, j = k := ⟨j.toNat, by omega⟩
          obtain ⟨x, hx⟩ : ∃ x, L[k]? = some x := ⟨L[k]'(by have := hn'.out; omega), by simp⟩
          obtain ⟨s0, s1, g, off, bv, rfl, c0, c1, c2, c3, _⟩ := h.out.at hx
          have hx' := Lib.hid hx
          have h2' : ((m : Nat) : Int) < 8 := by omega
          have hown := Lib.hid hR.out.own
          have hsz : Hid (w.heap.size ≤ wr.heap.size) := Lib.hid hR.out.bel.size
          have hk1 := Lib.hid c1
          have hs0 := Lib.hid s0
          clear c0 c1 c2 c3 s1 hx s0
          go_wp2_with (first | (at_builtin; refine wpList_append_lies _ rfl (.tmp 19) (.tmp 21) 29 rfl w.heap.size 3 i0 (.int .i64 0) 1 8 Try.underlying29 hi0 hz0 hz1 hz2 rfl (by decide) _ m _ (by simp [Act.eval]) (hown.out.alloc _) ⟨wr.heap.size, 0, none⟩ 1 1 (ints [(k : Int)]) (by simp [Act.eval]) (by simp) (one_at ((World.cell?_alloc_new _ _ _ 0).trans rfl)) (ints_one _) (by omega) (by omega) (by omega) (by have := hsz.out; simp; omega) _ rfl ?_; intro g1 cap1 w1 hown1 hgrow1 hat1 hlt1; have hR1 := Lib.hid (hR.out.more hx'.out h2 rfl hown1 hgrow1 hs0.out); have hc1 := cell_up hR1.out.bel hk1.out; clear hgrow1 hat1 hlt1 hown1))
          go_roundw
          case rel => exact ⟨_, _, _, _, _, rfl, rfl, hR1⟩
          case measure => simp; omega
        · have h2' : ¬ ((m : Nat) : Int) < 8 := by omega
          have he : chainR L j (8 - m) = [] := by rw [show 8 - m = 0 by omega]; rfl
          have hf := Lib.hid (hR.out.last he)
          clear he
          go_wp2
          go_ret
          exact ⟨_, rfl, hf.out, hR.out.bel⟩
      · have he : chainR L j (8 - m) = [] := chainR_over _ (by have := hn'.out; omega)
        have hf := Lib.hid (hR.out.last he)
        clear he
        go_wp2
        go_ret
        exact ⟨_, rfl, hf.out, hR.out.bel⟩
    · have he : chainR L j (8 - m) = [] := chainR_neg _ (by omega)
      have hf := Lib.hid (hR.out.last he)
      clear he
      go_wp2
      go_ret
      exact ⟨_, rfl, hf.out, hR.out.bel⟩
end Wd
end Go.Proofs.Ytlbekicalinglaa
