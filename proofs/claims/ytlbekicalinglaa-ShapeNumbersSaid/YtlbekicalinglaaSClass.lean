/- The document's own judgement of a class. -/
import Derived.Test.YtlbekicalinglaaSRef
namespace Go.Proofs.Ytlbekicalinglaa
open Go.RowKit
set_option linter.unusedVariables false
set_option maxRecDepth 20000
namespace Wd
/-- supers lead up -/
def Down (L : List ClassA) (i : Nat) : Prop := ∀ (k : Nat) c, k < i → L[k]? = some c → -1 ≤ c.super ∧ c.super < k
theorem deep_le (L : List ClassA) : ∀ (f : Nat) (i : Int), deep L f i ≤ f
  | 0, _ => Nat.le_refl _
  | f + 1, i => by
    unfold deep
    split
    · split
      · rename_i c _
        have := deep_le L f c.super
        omega
      · omega
    · omega
theorem deep_on {L : List ClassA} {k f : Nat} {c : ClassA} (h : L[k]? = some c) : deep L (f + 1) (k : Int) = deep L f c.super + 1 := by
  have h0 : (0 : Int) ≤ (k : Int) := by omega
  rw [deep, if_pos h0, Int.toNat_natCast, h]
theorem deep_neg {L : List ClassA} {i : Int} (f : Nat) (h : i < 0) : deep L f i = 0 := by
  cases f with
  | zero => rfl
  | succ f => rw [deep, if_neg (by omega)]
theorem classOk_bad {L : List ClassA} {i : Nat} {c : ClassA} (h : c.super < -1 ∨ (i : Int) ≤ c.super ∨ c.fields < 0 ∨ 62 < c.fields) : classOk L i c = false := by
  unfold classOk
  rcases h with h | h | h | h
  · rw [decide_eq_false (by omega)]; rfl
  · rw [decide_eq_false (p := c.super < i) (by omega)]; simp
  · rw [decide_eq_false (p := 0 ≤ c.fields) (by omega)]; simp
  · rw [decide_eq_false (p := c.fields ≤ 62) (by omega)]; simp
theorem classOk_eq {L : List ClassA} {i : Nat} {c : ClassA} (h1 : -1 ≤ c.super) (h2 : c.super < i) (h3 : 0 ≤ c.fields) (h4 : c.fields ≤ 62) : classOk L i c = (decide (deep L (i + 1) c.super + 1 ≤ 8) && (decide (c.super < 0) || decide (superF L c.super ≤ c.fields))) := by
  unfold classOk
  rw [decide_eq_true h1, decide_eq_true h2, decide_eq_true h3, decide_eq_true h4]
  rfl
/-- how deep: so far -/
structure DpR (L : List ClassA) (i : Nat) (s : Int) (d : Nat) (j : Int) : Prop where
  ex : ∃ f, d + deep L f j = 1 + deep L (i + 1) s ∧ j < f
  ji : j < i
theorem DpR.step {L : List ClassA} {i k d : Nat} {s : Int} {x : ClassA} (h : DpR L i s d (k : Int)) (hx : L[k]? = some x) (hs : x.super < k) : DpR L i s (d + 1) x.super := by
  obtain ⟨⟨f, e, hf⟩, hi⟩ := h
  obtain ⟨f', rfl⟩ : ∃ f', f = f' + 1 := ⟨f - 1, by omega⟩
  rw [deep_on hx] at e
  exact ⟨⟨f', by omega, by omega⟩, by omega⟩
theorem DpR.last {L : List ClassA} {i d : Nat} {s j : Int} (h : DpR L i s d j) (hj : j < 0) : deep L (i + 1) s + 1 = d := by
  obtain ⟨⟨f, e, hf⟩, hi⟩ := h
  rw [deep_neg f hj] at e
  omega
theorem DpR.le {L : List ClassA} {i d : Nat} {s j : Int} (h : DpR L i s d j) : d ≤ i + 2 := by
  obtain ⟨⟨f, e, hf⟩, hi⟩ := h
  have := deep_le L (i + 1) s
  omega
set_option maxHeartbeats 16000000 in
theorem class_c {w : World} {v : Value} {L : List ClassA} (h : ClV w v L) {i : Nat} {c : ClassA} (hi : L[i]? = some c) (hD : Down L i) (h100 : L.length ≤ 100) :
    Calls Try.prog 35 #[v, .int .i64 i] w fun e w' => e = .returned (.bool (classOk L i c)) ∧ Below w.heap.size w w' := by
  obtain ⟨ad, cap, rfl, hcap, hmx⟩ := h.form
  obtain ⟨n, hn⟩ : ∃ n, n = L.length := ⟨_, rfl⟩
  rw [← hn] at h hcap h100 ⊢
  have hin : i < n := by rw [hn]; exact (List.getElem?_eq_some_iff.1 hi).1
  obtain ⟨⟨s0, s1⟩, ⟨f0, f1⟩, g, off, bv, rfl, c0, c1, c2, c3, hbv⟩ := h.at hi
  obtain ⟨ba, bc, rfl, _⟩ := hbv.form
  generalize c.binds.length = bm at *
  have hi' := Lib.hid hi
  have hD' := Lib.hid hD
  have hn' := Lib.hid hn
  have i0 : (0 : Int) ≤ (i : Int) := by omega
  have i1 : (i : Int) < (n : Int) := by omega
  have hb1 : Below w.heap.size w (w.alloc (.cells #[.string c.nm, .int .i64 c.super, .int .i64 c.fields, .slice ba bm bc] 38)) := (Below.refl _ _).alloc (Nat.le_refl _) _
  have h' := Lib.hid (h.up hb1)
  replace hb1 := Lib.hid hb1
  replace h := Lib.hid h
  obtain ⟨nm, s, fl, bds⟩ := c
  simp only at s0 s1 f0 f1 c0 c1 c2 c3
  clear hbv hmx hi hD hn
  by_cases q0 : s < -1
  · have e := Lib.hid (classOk_bad (L := L) (i := i) (c := ⟨nm, s, fl, bds⟩) (Or.inl q0))
    go_enter Try.func35, Try.ntmps35
    go_wp2
    go_ret
    exact ⟨congrArg (fun b => Ending.returned (Value.bool b)) e.out.symm, hb1.out⟩
  by_cases q1 : (i : Int) ≤ s
  · have e := Lib.hid (classOk_bad (L := L) (i := i) (c := ⟨nm, s, fl, bds⟩) (Or.inr (Or.inl q1)))
    go_enter Try.func35, Try.ntmps35
    go_wp2
    go_ret
    exact ⟨congrArg (fun b => Ending.returned (Value.bool b)) e.out.symm, hb1.out⟩
  by_cases q2 : fl < 0
  · have e := Lib.hid (classOk_bad (L := L) (i := i) (c := ⟨nm, s, fl, bds⟩) (Or.inr (Or.inr (Or.inl q2))))
    go_enter Try.func35, Try.ntmps35
    go_wp2
    go_ret
    exact ⟨congrArg (fun b => Ending.returned (Value.bool b)) e.out.symm, hb1.out⟩
  by_cases q3 : 62 < fl
  · have e := Lib.hid (classOk_bad (L := L) (i := i) (c := ⟨nm, s, fl, bds⟩) (Or.inr (Or.inr (Or.inr q3))))
    go_enter Try.func35, Try.ntmps35
    go_wp2
    go_ret
    exact ⟨congrArg (fun b => Ending.returned (Value.bool b)) e.out.symm, hb1.out⟩
  have e := Lib.hid (classOk_eq (L := L) (i := i) (c := ⟨nm, s, fl, bds⟩) (by simp only; omega) (by simp only; omega) (by simp only; omega) (by simp only; omega))
  have hst : Hid (DpR L i s 1 s) := Lib.hid ⟨⟨i + 1, by omega, by omega⟩, by omega⟩
  go_enter Try.func35, Try.ntmps35
  go_wp2
  have k1 : (w.alloc (.cells #[.string nm, .int .i64 s, .int .i64 fl, .slice ba bm bc] 38)).cell? ⟨w.heap.size, 1, none⟩ = some (.int .i64 s) := by simp
  have k2 : (w.alloc (.cells #[.string nm, .int .i64 s, .int .i64 fl, .slice ba bm bc] 38)).cell? ⟨w.heap.size, 2, none⟩ = some (.int .i64 fl) := by simp
  clear c0 c1 c2 c3
  generalize w.alloc (.cells #[.string nm, .int .i64 s, .int .i64 fl, .slice ba bm bc] 38) = w1 at *
  go_loopw [6, 7] (fun i6 i7 wr => ∃ (d : Nat) (j : Int), i6 = .int .i64 d ∧ i7 = .int .i64 j ∧ -1 ≤ j ∧ Hid (DpR L i s d j) ∧ wr = w1) (fun _ i7 _ => (intOf i7 + 1).toNat)
  case atStart => exact ⟨1, s, rfl, rfl, by omega, hst, rfl⟩
  case round =>
    obtain ⟨d, j, rfl, rfl, hj, hR, rfl⟩ := hrel
    have hd : (d : Int) ≤ 102 := by have := hR.out.le; omega
    have hji := hR.out.ji
    by_cases hj0 : 0 ≤ j
    · obtain ⟨k, rfl⟩ : ∃ k : Nat, j = k := ⟨j.toNat, by omega⟩
      obtain ⟨⟨xn, xs, xf, xb⟩, hx⟩ : ∃ x, L[k]? = some x := ⟨L[k]'(by have := hn'.out; omega), by simp⟩
      obtain ⟨⟨x0, x1⟩, _, g', off', bv', eg, d0, d1, d2, d3, _⟩ := h'.out.at hx
      cases eg
      obtain ⟨y0, y1⟩ := hD'.out k _ (by omega) hx
      simp only at x0 x1 d1 y0 y1
      have hR' := Lib.hid (hR.out.step hx (by simpa using y1))
      have l1 : (k : Int) < (n : Int) := by omega
      clear d0 d2 d3 hx
      go_wp2
      go_roundw
      case rel => exact ⟨d + 1, xs, by go_num, rfl, y0, hR', trivial⟩
      case measure => simp [intOf]; omega
    · have ed := hR.out.last (by omega)
      rw [ed] at e
      clear ed
      have hb1s := Lib.hid hb1.out.size
      by_cases d8 : d ≤ 8
      · have d8i : (d : Int) ≤ 8 := by omega
        have d8' : decide ((d : Int) ≤ 8) = true := by simp; omega
        by_cases sn : s < 0
        · have e2 := Lib.hid (e.out.trans (by simp [d8, sn] : _ = true))
          have sn' : decide (s < 0) = true := by simpa using sn
          go_wp2
          go_big_quiet (fail)
          go_wp2
          go_ret
          exact ⟨congrArg (fun b => Ending.returned (Value.bool b)) e2.out.symm, hb1.out.trans ((drewK _ _).mono hb1.out.size)⟩
        · obtain ⟨k, rfl⟩ : ∃ k : Nat, s = k := ⟨s.toNat, by omega⟩
          obtain ⟨⟨xn, xs, xf, xb⟩, hx⟩ : ∃ x, L[k]? = some x := ⟨L[k]'(by have := hn'.out; omega), by simp⟩
          obtain ⟨_, ⟨x0, x1⟩, g', off', bv', eg, d0, d1, d2, d3, _⟩ := h'.out.at hx
          cases eg
          simp only at x0 x1 d2
          have sn' : decide ((k : Int) < 0) = false := by simp
          have l0 : (0 : Int) ≤ (k : Int) := by omega
          have l1 : (k : Int) < (n : Int) := by omega
          have hsf : superF L (k : Int) = xf := by unfold superF; rw [Int.toNat_natCast, hx]
          rw [hsf] at e
          clear d0 d1 d3 hx hsf
          by_cases fx : xf ≤ fl
          · have e2 := Lib.hid (e.out.trans (by simp [d8, fx] : _ = true))
            have fx' : decide (xf ≤ fl) = true := by simpa using fx
            have fx2 : decide (fl ≥ xf) = true := by simpa using fx
            go_wp2
            go_big_quiet (fail)
            go_wp2
            go_ret
            exact ⟨congrArg (fun b => Ending.returned (Value.bool b)) e2.out.symm, hb1.out.trans ((drewK _ _).mono hb1.out.size)⟩
          · have e2 := Lib.hid (e.out.trans (by simp [d8, fx] : _ = false))
            have fx' : decide (xf ≤ fl) = false := by simpa using fx
            have fx2 : decide (fl ≥ xf) = false := by simpa using fx
            go_wp2
            go_big_quiet (fail)
            go_wp2
            go_ret
            exact ⟨congrArg (fun b => Ending.returned (Value.bool b)) e2.out.symm, hb1.out.trans ((drewK _ _).mono hb1.out.size)⟩
      · have e2 := Lib.hid (e.out.trans (by simp [d8] : _ = false))
        have d8i : ¬ (d : Int) ≤ 8 := by omega
        have d8' : decide ((d : Int) ≤ 8) = false := by simp; omega
        go_wp2
        go_big_quiet (fail)
        go_wp2
        go_ret
        exact ⟨congrArg (fun b => Ending.returned (Value.bool b)) e2.out.symm, hb1.out.trans ((drewK _ _).mono hb1.out.size)⟩
end Wd
end Go.Proofs.Ytlbekicalinglaa
