/- The landed package's judgement of binds. -/
import Derived.Test.YtlbekicalinglaaSLaw
import Derived.Deep.DeepCutAuto
namespace Go.Proofs.Ytlbekicalinglaa
open Go.RowKit
set_option linter.unusedVariables false
set_option maxRecDepth 20000
namespace Wd
theorem any_at {B : List (Int × Int)} {j : Nat} {x : Int × Int} {s : Int} (h : B[j]? = some x) (e : x.1 = s) : B.any (fun x => decide (x.1 = s)) = true := by
  rw [List.any_eq_true]
  exact ⟨x, List.mem_of_getElem? h, by simpa using e⟩
theorem any_not {B : List (Int × Int)} {s : Int} (h : ∀ x ∈ B, x.1 ≠ s) : B.any (fun x => decide (x.1 = s)) = false := by
  rw [Bool.eq_false_iff]
  intro ha
  obtain ⟨x, hx, e⟩ := List.any_eq_true.1 ha
  exact h x hx (by simpa using e)
set_option maxHeartbeats 4000000 in
theorem kbindsname {w : World} {v : Value} {B : List (Int × Int)} (h : PrV w v B) (s : Int) (hs : In64 s) :
    Calls Try.prog 37 #[v, .int .i64 s] w fun e w' => e = .returned (.bool (B.any (fun x => decide (x.1 = s)))) ∧ Below w.heap.size w w' := by
  obtain ⟨ad, cap, rfl, hcap, hmx⟩ := h.form
  obtain ⟨n, hn⟩ : ∃ n, n = B.length := ⟨_, rfl⟩
  rw [← hn] at h hcap ⊢
  replace h := Lib.hid h
  have hn' := Lib.hid hn
  have hnm : n ≤ 9223372036854775807 := by have : maxLen ≤ 9223372036854775807 := by decide
                                           omega
  have hst : Hid (∀ x ∈ B.take 0, x.1 ≠ s) := Lib.hid (by simp)
  clear hmx hn
  go_enter Try.func37, Try.ntmps37
  go_wp2
  go_loopw [9] (fun i9 wr => ∃ (j : Nat), j ≤ n ∧ i9 = .int .i64 j ∧ Hid (∀ x ∈ B.take j, x.1 ≠ s) ∧ Hid (Below w.heap.size w wr)) (fun i9 _ => n - (intOf i9).toNat)
  case atStart => exact ⟨0, by omega, rfl, hst, Lib.hid (Below.refl _ _)⟩
  case round =>
    obtain ⟨j, hj, rfl, hD, hB⟩ := hrel
    by_cases hlt : j < n
    · have hlt' : decide ((j : Int) < (n : Int)) = true := by simp; omega
      have p0 : (0 : Int) ≤ (j : Int) := by omega
      have p1 : (j : Int) < (n : Int) := by omega
      obtain ⟨⟨xs, xm⟩, hx⟩ : ∃ x, B[j]? = some x := ⟨B[j]'(by have := hn'.out; omega), by simp⟩
      obtain ⟨⟨x0, x1⟩, ⟨y0, y1⟩, g', off', rfl, d0, d1⟩ := (h.out.up hB.out).at hx
      have hx' := Lib.hid hx
      clear hx
      simp only at x0 x1 y0 y1 d0 d1
      by_cases he : xs = s
      · have e := Lib.hid (any_at hx'.out he)
        have he' : (xs == s) = true := by simpa using he
        go_wp2
        go_ret
        exact ⟨congrArg (fun b => Ending.returned (Value.bool b)) e.out.symm, hB.out.alloc hB.out.size _⟩
      · have he' : (xs == s) = false := by simpa using he
        have hD' : Hid (∀ x ∈ B.take (j + 1), x.1 ≠ s) := Lib.hid (fun x hx => by
          rw [List.take_add_one, hx'.out] at hx
          rcases List.mem_append.1 hx with hx | hx
          · exact hD.out x hx
          · have e : x = (xs, xm) := by simpa using hx
            rw [e]; exact he)
        go_wp2
        go_roundw
        case rel => exact ⟨j + 1, by omega, by go_num, hD', Lib.hid (hB.out.alloc hB.out.size _)⟩
        case measure => simp [intOf]; omega
    · have hlt' : decide ((j : Int) < (n : Int)) = false := by simp; omega
      have e := Lib.hid (any_not (B := B) (s := s) (by have := hD.out; rw [show j = B.length by have := hn'.out; omega, List.take_length] at this; exact this))
      go_wp2
      go_ret
      exact ⟨congrArg (fun b => Ending.returned (Value.bool b)) e.out.symm, hB.out⟩
theorem binds_over {B : List (Int × Int)} {names methods : Int} (h : 16 < B.length) : bindsOk B names methods = false := by
  unfold bindsOk; rw [decide_eq_false (p := B.length ≤ 16) (by omega)]; simp
theorem take_any {B : List (Int × Int)} {k : Nat} {s : Int} (h : (B.take k).any (fun x => decide (x.1 = s)) = true) : ∃ j x, j < k ∧ B[j]? = some x ∧ x.1 = s := by
  obtain ⟨x, hx, e⟩ := List.any_eq_true.1 h
  obtain ⟨j, hj⟩ := List.getElem?_of_mem hx
  rw [List.getElem?_take] at hj
  by_cases hk : j < k
  · rw [if_pos hk] at hj
    exact ⟨j, x, hk, hj, by simpa using e⟩
  · rw [if_neg hk] at hj; cases hj
theorem take_none {B : List (Int × Int)} {s : Int} (h : B.any (fun x => decide (x.1 = s)) = false) : ∀ x ∈ B, x.1 ≠ s := by
  intro x hx e
  have : B.any (fun x => decide (x.1 = s)) = true := List.any_eq_true.2 ⟨x, hx, by simpa using e⟩
  rw [h] at this; cases this
set_option maxHeartbeats 16000000 in
theorem kbinds {w : World} {v : Value} {B : List (Int × Int)} (h : PrV w v B) (names methods : Int) (hn : In64 names) (hm : In64 methods) :
    Calls Try.prog 28 #[v, .int .i64 names, .int .i64 methods] w fun e w' => e = .returned (.bool (bindsOk B names methods)) ∧ Below w.heap.size w w' := by
  obtain ⟨ad, cap, rfl, hcap, hmx⟩ := h.form
  obtain ⟨n, hn⟩ : ∃ n, n = B.length := ⟨_, rfl⟩
  rw [← hn] at h hcap ⊢
  replace h := Lib.hid h
  have hn' := Lib.hid hn
  by_cases h16 : 16 < n
  · have e := Lib.hid (binds_over (names := names) (methods := methods) (by omega : 16 < B.length))
    have h16' : decide ((n : Int) > 16) = true := by simp; omega
    clear hn
    go_enter Try.func28, Try.ntmps28
    go_wp2
    go_ret
    exact ⟨congrArg (fun b => Ending.returned (Value.bool b)) e.out.symm, Below.refl _ _⟩
  have h16' : decide ((n : Int) > 16) = false := by simp; omega
  have hst : Hid (BdR B names methods 0) := Lib.hid (BdR.start B names methods)
  clear hmx hn
  go_enter Try.func28, Try.ntmps28
  go_wp2
  go_loopw [14] (fun i14 wr => ∃ (k : Nat), k ≤ n ∧ i14 = .int .i64 k ∧ Hid (BdR B names methods k) ∧ Hid (Below w.heap.size w wr)) (fun i14 _ => n - (intOf i14).toNat)
  case atStart => exact ⟨0, by omega, rfl, hst, Lib.hid (Below.refl _ _)⟩
  case round =>
    obtain ⟨k, hk, rfl, hR, hB⟩ := hrel
    by_cases hlt : k < n
    · have hlt' : decide ((k : Int) < (n : Int)) = true := by simp; omega
      have p0 : (0 : Int) ≤ (k : Int) := by omega
      have p1 : (k : Int) < (n : Int) := by omega
      have p2 : (k : Int) ≤ (cap : Int) := by omega
      obtain ⟨b, hb⟩ : ∃ b, B[k]? = some b := ⟨B[k]'(by have := hn'.out; omega), by simp⟩
      obtain ⟨⟨s0, s1⟩, ⟨m0, m1⟩, g, off, rfl, c0, c1⟩ := (h.out.up hB.out).at hb
      have hb' := Lib.hid hb
      clear hb
      obtain ⟨bs, bm⟩ := b
      simp only at s0 s1 m0 m1 c0 c1
      have hs0 := hB.out.size
      have hB' := Lib.hid (hB.out.alloc hs0 (.cells #[.int .i64 bs, .int .i64 bm] 57))
      by_cases q0 : bs < 0
      · have e := Lib.hid (bind_bad hb'.out (bindOk_not (Or.inl q0) : bindOk names methods (bs, bm) = false))
        have q0' : decide (bs < 0) = true := by simpa using q0
        go_wp2
        go_big_quiet (fail)
        go_wp2
        go_ret
        exact ⟨congrArg (fun b => Ending.returned (Value.bool b)) e.out.symm, hB'.out.trans ((drewK _ _).mono hB'.out.size)⟩
      have q0' : decide (bs < 0) = false := by simpa using q0
      by_cases q1 : names ≤ bs
      · have e := Lib.hid (bind_bad hb'.out (bindOk_not (Or.inr (Or.inl q1)) : bindOk names methods (bs, bm) = false))
        have q1' : decide (bs ≥ names) = true := by simpa using q1
        go_wp2
        go_big_quiet (fail)
        go_wp2
        go_ret
        exact ⟨congrArg (fun b => Ending.returned (Value.bool b)) e.out.symm, hB'.out.trans ((drewK _ _).mono hB'.out.size)⟩
      have q1' : decide (bs ≥ names) = false := by simpa using q1
      by_cases q2 : bm < 0
      · have e := Lib.hid (bind_bad hb'.out (bindOk_not (Or.inr (Or.inr (Or.inl q2))) : bindOk names methods (bs, bm) = false))
        have q2' : decide (bm < 0) = true := by simpa using q2
        go_wp2
        go_big_quiet (fail)
        go_wp2
        go_ret
        exact ⟨congrArg (fun b => Ending.returned (Value.bool b)) e.out.symm, hB'.out.trans ((drewK _ _).mono hB'.out.size)⟩
      have q2' : decide (bm < 0) = false := by simpa using q2
      by_cases q3 : methods ≤ bm
      · have e := Lib.hid (bind_bad hb'.out (bindOk_not (Or.inr (Or.inr (Or.inr q3))) : bindOk names methods (bs, bm) = false))
        have q3' : decide (bm ≥ methods) = true := by simpa using q3
        go_wp2
        go_big_quiet (fail)
        go_wp2
        go_ret
        exact ⟨congrArg (fun b => Ending.returned (Value.bool b)) e.out.symm, hB'.out.trans ((drewK _ _).mono hB'.out.size)⟩
      have q3' : decide (bm ≥ methods) = false := by simpa using q3
      have hok := Lib.hid (bindOk_of (b := (bs, bm)) (by omega) (by omega) (by omega) (by omega) : bindOk names methods (bs, bm) = true)
      have h' := Lib.hid ((h.out.up hB'.out).take k (by have := hn'.out; omega))
      have hs64 : Hid (In64 bs) := Lib.hid ⟨s0, s1⟩
      clear hs0
      cases ha : (B.take k).any (fun x => decide (x.1 = bs)) with
      | true =>
        obtain ⟨j, x, hj, hx, ex⟩ := take_any ha
        have e := Lib.hid (bind_twice (names := names) (methods := methods) hb'.out hx hj ex)
        have ha' := Lib.hid ha
        clear hx ex ha
        go_wp2
        go_region_with (first | (go_at_call 37; (with_reducible refine (kbindsname (h'.out.up ((Below.refl _ _).drew)) bs hs64.out).mono ?_); rintro e1 w2 ⟨he1, hw2⟩; rw [ha'.out] at he1; subst he1; have hq : Below (wr.alloc (.cells #[.int .i64 bs, .int .i64 bm] 57)).heap.size (wr.alloc (.cells #[.int .i64 bs, .int .i64 bm] 57)) w2 := ((Below.refl _ _).drew).trans hw2; have hB2 := Lib.hid (hB'.out.trans (hq.mono hB'.out.size)); clear hw2 hq))
        go_wp2
        go_ret
        exact ⟨congrArg (fun b => Ending.returned (Value.bool b)) e.out.symm, hB2.out⟩
      | false =>
        have hR' := Lib.hid (hR.out.step hb'.out hok.out (take_none ha))
        have ha' := Lib.hid ha
        clear ha
        go_wp2
        go_region_with (first | (go_at_call 37; (with_reducible refine (kbindsname (h'.out.up ((Below.refl _ _).drew)) bs hs64.out).mono ?_); rintro e1 w2 ⟨he1, hw2⟩; rw [ha'.out] at he1; subst he1; have hq : Below (wr.alloc (.cells #[.int .i64 bs, .int .i64 bm] 57)).heap.size (wr.alloc (.cells #[.int .i64 bs, .int .i64 bm] 57)) w2 := ((Below.refl _ _).drew).trans hw2; have hB2 := Lib.hid (hB'.out.trans (hq.mono hB'.out.size)); clear hw2 hq))
        go_wp2
        go_roundw
        case rel => exact ⟨k + 1, by omega, by go_num, hR', hB2⟩
        case measure => simp [intOf]; omega
    · have hlt' : decide ((k : Int) < (n : Int)) = false := by simp; omega
      have hR' : BdR B names methods B.length := by have := hR.out; rw [show k = B.length by have := hn'.out; omega] at this; exact this
      have e := hR'.last
      rw [decide_eq_true (show B.length ≤ 16 by have := hn'.out; omega)] at e
      replace e := Lib.hid e
      clear hR'
      go_wp2
      go_ret
      exact ⟨congrArg (fun b => Ending.returned (Value.bool b)) e.out.symm, hB.out⟩
end Wd
end Go.Proofs.Ytlbekicalinglaa
