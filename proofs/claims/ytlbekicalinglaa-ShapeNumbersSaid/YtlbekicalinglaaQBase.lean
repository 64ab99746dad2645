/- The landed package's chains. -/
import Derived.Test.YtlbekicalinglaaSLaw
namespace Go.Proofs.Ytlbekicalinglaa
open Go.RowKit
set_option linter.unusedVariables false
set_option maxRecDepth 20000
namespace Wd
theorem isc_y (ad : Option Addr) (n cap : Nat) (i : Int) (h0 : 0 ≤ i) (h1 : i < n) (w : World) :
    Calls Try.prog 29 #[.slice ad n cap, .int .i64 i] w fun e w' => e = .returned (.bool true) ∧ w' = w := by
  have h0' : decide (i ≥ 0) = true := by simpa using h0
  have h1' : decide (i < (n : Int)) = true := by simpa using h1
  go_enter Try.func29, Try.ntmps29
  go_wp2
  go_ret
  exact ⟨rfl, rfl⟩
theorem isc_n (ad : Option Addr) (n cap : Nat) (i : Int) (h : i < 0 ∨ (n : Int) ≤ i) (w : World) :
    Calls Try.prog 29 #[.slice ad n cap, .int .i64 i] w fun e w' => e = .returned (.bool false) ∧ w' = w := by
  by_cases h0 : 0 ≤ i
  · have h0' : decide (i ≥ 0) = true := by simpa using h0
    have h1' : decide (i < (n : Int)) = false := by simp; omega
    go_enter Try.func29, Try.ntmps29
    go_wp2
    go_ret
    exact ⟨rfl, rfl⟩
  · have h0' : decide (i ≥ 0) = false := by simp; omega
    go_enter Try.func29, Try.ntmps29
    go_wp2
    go_ret
    exact ⟨rfl, rfl⟩
set_option maxHeartbeats 16000000 in
theorem kchain {w : World} {v : Value} {L : List ClassA} (h : ClV w v L) (i : Int) (hi : In64 i) :
    Calls Try.prog 15 #[v, .int .i64 i] w fun e w' => ∃ v', e = .returned v' ∧ SL w' 3 v' (chain L i) ∧ Below w.heap.size w w' := by
  obtain ⟨i0, hi0, hz0, hz1, hz2⟩ := info_parts info3
  have hmx : 100000 ≤ maxLen := by decide
  obtain ⟨ad, cap, rfl, hcap, hm⟩ := h.form
  obtain ⟨n, hn⟩ : ∃ n, n = L.length := ⟨_, rfl⟩
  rw [← hn] at h hcap ⊢
  replace h := Lib.hid h
  have hn' := Lib.hid hn
  have hnm : n ≤ maxLen := by omega
  have hst : Hid (ChR w w L i i (.slice none 0 0) 0 []) := Lib.hid ⟨World.ownsRow_nil _ _ _ _, by simp, by simp, by simp [chain], Below.refl _ _, hi⟩
  clear hcap hm hi hn
  go_enter Try.func15, Try.ntmps15
  go_wp2
  go_loopw [1, 5] (fun i1 v5 wr => ∃ (j : Int) (C : List Int) (a : Option Addr) (m c : Nat), i1 = .int .i64 j ∧ v5 = .slice a m c ∧ Hid (ChR w wr L i j (.slice a m c) m C)) (fun i1 v5 _ => match v5 with | .slice _ m _ => 8 - m | _ => 0)
  case atStart => exact ⟨i, [], none, 0, 0, rfl, rfl, hst⟩
  case round =>
    obtain ⟨j, C, a, m, c, rfl, rfl, hR⟩ := hrel
    have hle : m ≤ 8 := hR.out.le
    obtain ⟨b0, b1⟩ := hR.out.ij
    by_cases h0 : 0 ≤ j ∧ j < n
    · obtain ⟨h0, h1⟩ := h0
      have PI := Lib.hid (isc_y ad n cap j h0 h1)
      by_cases h2 : m < 8
      · obtain ⟨k, rfl⟩ : ∃ k : Nat, j = k := ⟨j.toNat, by omega⟩
        obtain ⟨x, hx⟩ : ∃ x, L[k]? = some x := ⟨L[k]'(by have := hn'.out; omega), by simp⟩
        obtain ⟨s0, s1, g, off, bv, rfl, c0, c1, c2, c3, _⟩ := h.out.at hx
        have hx' := Lib.hid hx
        have h2' : decide (((m : Nat) : Int) < 8) = true := by simp; omega
        have hown := Lib.hid hR.out.own
        have hsz : Hid (w.heap.size ≤ wr.heap.size) := Lib.hid hR.out.bel.size
        have hk1 := Lib.hid c1
        have hs0 := Lib.hid s0
        clear c0 c1 c2 c3 s1 hx s0
        go_wp2_with (first | (go_at_call 29; ((with_reducible refine (PI.out _).mono ?_); rintro e1 w2 ⟨rfl, hw2⟩; subst w2)) | (at_builtin; refine wpList_append_lies _ rfl (.tmp 14) (.tmp 16) 29 rfl w.heap.size 3 i0 (.int .i64 0) 1 8 Try.underlying29 hi0 hz0 hz1 hz2 rfl (by decide) _ m _ (by simp [Act.eval]) (hown.out.alloc _) ⟨wr.heap.size, 0, none⟩ 1 1 (ints [(k : Int)]) (by simp [Act.eval]) (by simp) (one_at ((World.cell?_alloc_new _ _ _ 0).trans rfl)) (ints_one _) (by omega) (by omega) (by omega) (by have := hsz.out; simp; omega) _ rfl ?_; intro g1 cap1 w1 hown1 hgrow1 hat1 hlt1; have hR1 := Lib.hid (hR.out.more hx'.out h2 rfl hown1 hgrow1 hs0.out); have hc1 := cell_up hR1.out.bel hk1.out; clear hgrow1 hat1 hlt1 hown1))
        go_roundw
        case rel => exact ⟨_, _, _, _, _, rfl, rfl, hR1⟩
        case measure => simp; omega
      · have h2' : decide (((m : Nat) : Int) < 8) = false := by simp; omega
        have he : chainR L j (8 - m) = [] := by rw [show 8 - m = 0 by omega]; rfl
        have hf := Lib.hid (hR.out.last he)
        clear he
        go_wp2_with (first | (go_at_call 29; ((with_reducible refine (PI.out _).mono ?_); rintro e1 w2 ⟨rfl, hw2⟩; subst w2)))
        go_ret
        exact ⟨_, rfl, hf.out, hR.out.bel⟩
    · have PI := Lib.hid (isc_n ad n cap j (by omega))
      have he : chainR L j (8 - m) = [] := by
        rcases (show j < 0 ∨ (L.length : Int) ≤ j by have := hn'.out; omega) with h | h
        · exact chainR_neg _ h
        · exact chainR_over _ h
      have hf := Lib.hid (hR.out.last he)
      clear he
      go_wp2_with (first | (go_at_call 29; ((with_reducible refine (PI.out _).mono ?_); rintro e1 w2 ⟨rfl, hw2⟩; subst w2)))
      go_ret
      exact ⟨_, rfl, hf.out, hR.out.bel⟩
theorem kdepth {w : World} {v : Value} {L : List ClassA} (h : ClV w v L) (i : Int) (hi : In64 i) :
    Calls Try.prog 16 #[v, .int .i64 i] w fun e w' => e = .returned (.int .i64 ((chain L i).length : Nat)) ∧ Below w.heap.size w w' := by
  have P := kchain h i hi
  generalize chain L i = C at *
  go_enter Try.func16, Try.ntmps16
  go_wp2_with fail
  refine P.mono ?_
  clear P
  rintro e w1 ⟨v1, rfl, hS, hB⟩
  obtain ⟨a, c, rfl⟩ := hS.form
  obtain ⟨n, hn⟩ : ∃ n, n = C.length := ⟨_, rfl⟩
  have hn' := Lib.hid hn
  rw [← hn]
  clear hS h hi hn
  go_wp2
  go_ret
  exact ⟨by rw [← hn'.out]; rfl, hB⟩
/-- none of the first so many is it -/
theorem mem_none {C : List Int} {j : Nat} {x k : Int} (h : C[j]? = some x) (h0 : decide (k ∈ C.take j) = false) (he : ¬ k = x) : decide (k ∈ C.take (j + 1)) = false := by
  rw [mem_take h, h0]
  simp; omega
set_option maxHeartbeats 4000000 in
theorem kindex {w : World} {a : Option Addr} {n c : Nat} {C : List Int} (h : SL w 3 (.slice a n c) C) (hn : n = C.length) (hn8 : n ≤ 8) (k : Int) :
    Calls Try.prog 38 #[.slice a n c, .int .i64 k] w fun e w' => ∃ r : Int, e = .returned (.int .i64 r) ∧ decide (r ≥ 0) = decide (k ∈ C) ∧ w' = w := by
  replace h := Lib.hid h
  have hn' := Lib.hid hn
  have hst : Hid (decide (k ∈ C.take 0) = false) := Lib.hid (by simp)
  clear hn
  go_enter Try.func38, Try.ntmps38
  go_wp2
  go_loopw [8] (fun i8 wr => ∃ (j : Nat), j ≤ n ∧ i8 = .int .i64 j ∧ Hid (decide (k ∈ C.take j) = false) ∧ wr = w) (fun i8 _ => n - (intOf i8).toNat)
  case atStart => exact ⟨0, by omega, rfl, hst, rfl⟩
  case round =>
    obtain ⟨j, hj, rfl, hD, rfl⟩ := hrel
    by_cases hlt : j < n
    · have hlt' : decide ((j : Int) < (n : Int)) = true := by simp; omega
      have p0 : (0 : Int) ≤ (j : Int) := by omega
      have p1 : (j : Int) < (n : Int) := by omega
      obtain ⟨x, hx⟩ : ∃ x, C[j]? = some x := ⟨C[j]'(by have := hn'.out; omega), by simp⟩
      obtain ⟨g, rfl, hc⟩ := h.out.at hx
      have hx' := Lib.hid hx
      clear hx
      by_cases he : k = x
      · have he' : (k == x) = true := by simpa using he
        have hf : Hid (decide ((j : Int) ≥ 0) = decide (k ∈ C)) := Lib.hid (by
          rw [decide_eq_true (p := (j : Int) ≥ 0) (by omega)]
          exact (decide_eq_true (by rw [he]; exact List.mem_of_getElem? hx'.out)).symm)
        clear he
        go_wp2
        go_ret
        exact ⟨_, rfl, hf.out, rfl⟩
      · have he' : (k == x) = false := by simpa using he
        have hD' := Lib.hid (mem_none hx'.out hD.out he)
        go_wp2
        go_roundw
        case rel => exact ⟨j + 1, by omega, by go_num, hD', trivial⟩
        case measure => simp [intOf]; omega
    · have hlt' : decide ((j : Int) < (n : Int)) = false := by simp; omega
      have hf : Hid (decide ((-1 : Int) ≥ 0) = decide (k ∈ C)) := Lib.hid (by
        have := hD.out
        rw [show j = C.length by have := hn'.out; omega, List.take_length] at this
        rw [this]; rfl)
      go_wp2
      go_ret
      exact ⟨_, rfl, hf.out, rfl⟩
theorem kcontains {w : World} {a : Option Addr} {n c : Nat} {C : List Int} (h : SL w 3 (.slice a n c) C) (hn : n = C.length) (hn8 : n ≤ 8) (k : Int) (b : Bool) (hb : decide (k ∈ C) = b) :
    Calls Try.prog 30 #[.slice a n c, .int .i64 k] w fun e w' => e = .returned (.bool b) ∧ w' = w := by
  have P := kindex h hn hn8 k
  rw [hb] at P
  clear hb h hn
  go_enter Try.func30, Try.ntmps30
  go_wp2_with fail
  refine P.mono ?_
  clear P
  rintro e w1 ⟨r, rfl, hr, hw⟩
  subst w1
  cases b with
  | true =>
    go_wp2
    go_ret
    exact ⟨rfl, rfl⟩
  | false =>
    go_wp2
    go_ret
    exact ⟨rfl, rfl⟩
theorem kis {w : World} {v : Value} {L : List ClassA} (h : ClV w v L) (i k : Int) (hi : In64 i) (hk : In64 k) :
    Calls Try.prog 18 #[v, .int .i64 i, .int .i64 k] w fun e w' => e = .returned (.bool (decide (k ∈ chain L i))) ∧ Below w.heap.size w w' := by
  have hlen := chain_len L i
  have P := kchain h i hi
  obtain ⟨b, hb⟩ : ∃ b, decide (k ∈ chain L i) = b := ⟨_, rfl⟩
  rw [hb]
  generalize chain L i = C at *
  go_enter Try.func18, Try.ntmps18
  go_wp2_with fail
  refine P.mono ?_
  clear P
  rintro e w1 ⟨v1, rfl, hS, hB⟩
  obtain ⟨a, c, rfl⟩ := hS.form
  have PC := kcontains hS rfl hlen k b hb
  clear hS h hi hb
  go_wp2_with fail
  refine PC.mono ?_
  rintro e w2 ⟨rfl, hw⟩
  subst w2
  clear PC
  go_wp2
  go_ret
  exact ⟨rfl, hB⟩
end Wd
end Go.Proofs.Ytlbekicalinglaa
