/- The landed names: which are right, how many arguments they take. -/
import Derived.Test.YtbefmkkmkjogcaaLB
import Derived.Lib.CountLaws
namespace Go.Proofs.Ytbefmkkmkjogcaa
open Go.RowKit
set_option linter.unusedVariables false
set_option maxRecDepth 20000
namespace Wd
theorem sg_ok {x : UInt8} (h : sgB x = true) : okB x = false := by
  have key : ∀ n, n < 256 → inR n sgnB = true → (letterR n || decide (48 ≤ n ∧ n ≤ 57) || decide (n = 58)) = false := by decide
  exact key x.toNat x.toNat_lt h
theorem from_in : ∀ (L : List UInt8) (i s c : Nat), 0 < i → argsFrom L i s c = if L.all (fun x => sgB x || okB x) = true then some (s + L.countP sgB, c + L.count 58) else none
  | [], i, s, c, h => by simp [argsFrom]
  | x :: L, i, s, c, h => by
    rw [argsFrom]
    by_cases hs : sgB x = true
    · have h58 : ¬ x = 58 := by rintro rfl; exact absurd hs (by decide)
      have hs' : inR x.toNat ⟨#[43, 45, 42, 47, 60, 62, 61, 126, 38, 124, 37]⟩ = true := hs
      rw [if_pos hs', from_in L (i + 1) (s + 1) c (by omega)]
      have e1 : (x :: L).countP sgB = L.countP sgB + 1 := List.countP_cons_of_pos hs
      have e2 : (x :: L).count 58 = L.count 58 := List.count_cons_of_ne h58
      rw [e1, e2, List.all_cons, hs, Bool.true_or, Bool.true_and, show s + 1 + L.countP sgB = s + (L.countP sgB + 1) by omega]
    · have hs' : ¬ inR x.toNat ⟨#[43, 45, 42, 47, 60, 62, 61, 126, 38, 124, 37]⟩ = true := hs
      rw [if_neg hs']
      rw [Bool.not_eq_true] at hs
      by_cases h58 : x.toNat = 58
      · have e : x = 58 := UInt8.toNat_inj.1 h58
        have ho : okB x = true := by rw [e]; decide
        rw [if_pos ⟨h58, h⟩, from_in L (i + 1) s (c + 1) (by omega)]
        have e1 : (x :: L).countP sgB = L.countP sgB := List.countP_cons_of_neg (by rw [hs]; decide)
        have e2 : (x :: L).count 58 = L.count 58 + 1 := by rw [e]; exact List.count_cons_self
        rw [e1, e2, List.all_cons, ho, Bool.or_true, Bool.true_and, show c + 1 + L.count 58 = c + (L.count 58 + 1) by omega]
      · have h58' : ¬ x = 58 := fun e => h58 (by rw [e]; rfl)
        rw [if_neg (fun h => h58 h.1)]
        by_cases hk : letterR x.toNat = true ∨ 0 < i ∧ 48 ≤ x.toNat ∧ x.toNat ≤ 57
        · have ho : okB x = true := by
            unfold okB ltB dgB
            rcases hk with hk | hk
            · rw [hk]; rfl
            · rw [decide_eq_true hk.2]; simp
          rw [if_pos hk, from_in L (i + 1) s c (by omega)]
          have e1 : (x :: L).countP sgB = L.countP sgB := List.countP_cons_of_neg (by rw [hs]; decide)
          have e2 : (x :: L).count 58 = L.count 58 := List.count_cons_of_ne h58'
          rw [e1, e2, List.all_cons, ho, Bool.or_true, Bool.true_and]
        · have ho : okB x = false := by
            unfold okB ltB dgB
            rw [decide_eq_false h58, Bool.or_false, Bool.or_eq_false_iff]
            exact ⟨by rw [← Bool.not_eq_true]; exact fun h => hk (Or.inl h), decide_eq_false (fun h' => hk (Or.inr ⟨h, h'⟩))⟩
          rw [if_neg hk]
          simp [ho, hs]
def rightB (b : ByteArray) : Bool := decide (1 ≤ b.size ∧ b.size ≤ 16) && (wordB b || signsB b)
def cntB (b : ByteArray) : Nat := b.data.toList.count 58
/-- what the landed package says of arguments -/
def argsL (b : ByteArray) : Int := if rightB b = true then (if headB sgB b = true then 1 else (cntB b : Int)) else -1
theorem all_sg : ∀ {L : List UInt8}, L.all sgB = true ↔ L.countP sgB = L.length := by
  intro L
  rw [List.all_eq_true, List.countP_eq_length]
theorem args_eq (b : ByteArray) : argsR b = argsL b := by
  rcases Classical.em (1 ≤ b.size ∧ b.size ≤ 16) with hz | hz
  case inr =>
    rw [args_short hz]
    unfold argsL rightB
    rw [decide_eq_false hz]; rfl
  have hs : b.data.toList.length = b.size := Array.length_toList
  unfold argsR argsL rightB wordB signsB cntB
  rw [if_pos hz, decide_eq_true hz, Bool.true_and]
  obtain ⟨x, R, hL⟩ : ∃ x R, b.data.toList = x :: R := by
    cases hL : b.data.toList with
    | nil => rw [hL] at hs; simp at hs; omega
    | cons x R => exact ⟨x, R, rfl⟩
  have h1 : ∀ p, headB p b = p x := fun p => by unfold headB; rw [hL]
  rw [h1, h1, hL, argsFrom]
  rw [hL] at hs
  generalize b.size = n at *
  clear hL h1
  simp only [List.length_cons] at hs
  by_cases hx : sgB x = true
  · have hx' : inR x.toNat ⟨#[43, 45, 42, 47, 60, 62, 61, 126, 38, 124, 37]⟩ = true := hx
    have hok := sg_ok hx
    have hlt : ltB x = false := by unfold okB at hok; simp at hok; exact hok.1.1
    rw [if_pos hx', from_in R 1 1 0 (by omega), hlt, if_pos hx]
    simp only [Bool.false_and, Bool.false_or, List.all_cons, hx, Bool.true_and]
    by_cases ha : R.all sgB = true
    · have hc := all_sg.1 ha
      have hb : R.all (fun x => sgB x || okB x) = true := by
        rw [List.all_eq_true] at ha ⊢
        intro y hy; rw [ha y hy]; rfl
      rw [if_pos hb, ha, hc]
      simp only [Bool.true_and, decide_eq_true_eq]
      by_cases h2 : n ≤ 2
      · rw [if_pos (by omega), if_pos h2]
      · rw [if_neg (by omega), if_neg h2, if_pos (by omega)]
    · have hc : ¬ R.countP sgB = R.length := fun h => ha (all_sg.2 h)
      rw [Bool.not_eq_true] at ha
      rw [ha, Bool.false_and, if_neg Bool.false_ne_true]
      by_cases hb : R.all (fun x => sgB x || okB x) = true
      · rw [if_pos hb]
        simp only
        rw [if_neg (by omega), if_pos (by omega)]
      · rw [if_neg hb]
  · have hx' : ¬ inR x.toNat ⟨#[43, 45, 42, 47, 60, 62, 61, 126, 38, 124, 37]⟩ = true := hx
    rw [if_neg hx', if_neg (by omega)]
    rw [if_neg hx]
    rw [Bool.not_eq_true] at hx
    simp only [List.all_cons, hx, Bool.false_and, Bool.or_false]
    by_cases hl : ltB x = true
    · have hl' : letterR x.toNat = true ∨ 0 < 0 ∧ 48 ≤ x.toNat ∧ x.toNat ≤ 57 := Or.inl hl
      have ho : okB x = true := by unfold okB; rw [hl]; rfl
      have h58 : ¬ x = 58 := by rintro rfl; exact absurd hl (by decide)
      rw [if_pos hl', from_in R 1 0 0 (by omega), hl, ho]
      simp only [Bool.true_and, Nat.zero_add, List.count_cons_of_ne h58]
      by_cases ha : R.all okB = true
      · have hc : R.countP sgB = 0 := by
          rw [List.countP_eq_zero]
          intro y hy hys
          have := sg_ok hys
          rw [List.all_eq_true.1 ha y hy] at this
          cases this
        have hb : R.all (fun x => sgB x || okB x) = true := by
          rw [List.all_eq_true] at ha ⊢
          intro y hy; rw [ha y hy, Bool.or_true]
        rw [if_pos hb, if_pos ha, hc]
        simp only
        rw [if_neg (by omega), if_neg (by omega)]
      · rw [if_neg ha]
        by_cases hb : R.all (fun x => sgB x || okB x) = true
        · rw [if_pos hb]
          have hc : R.countP sgB ≠ 0 := by
            intro h0
            apply ha
            rw [List.all_eq_true] at hb ⊢
            intro y hy
            have := hb y hy
            rw [List.countP_eq_zero] at h0
            have h0 := h0 y hy
            simp only [Bool.or_eq_true] at this
            exact this.resolve_left h0
          have hle : R.countP sgB ≤ R.length := List.countP_le_length
          simp only
          rw [if_neg (by omega), if_pos (by omega)]
        · rw [if_neg hb]
    · have hl' : ¬ (letterR x.toNat = true ∨ 0 < 0 ∧ 48 ≤ x.toNat ∧ x.toNat ≤ 57) := fun h => by
        rcases h with h | h
        · exact hl h
        · omega
      rw [Bool.not_eq_true] at hl
      rw [if_neg hl', hl]
      simp
theorem right_eq (b : ByteArray) : rightB b = decide (0 ≤ argsR b) := by
  rw [args_eq]
  unfold argsL
  by_cases h : rightB b = true
  · rw [if_pos h, h]
    split
    · rfl
    · symm; rw [decide_eq_true_eq]; omega
  · rw [if_neg h]
    rw [Bool.not_eq_true] at h
    rw [h]; rfl
theorem right_c (b : ByteArray) (w : World) : Calls Try.prog 14 #[.string b] w fun e w' => e = .returned (.bool (decide (0 ≤ argsR b))) ∧ w' = w := by
  rw [← right_eq]
  unfold rightB
  by_cases h1 : 1 ≤ b.size
  · have h1' : (1 : Int) ≤ (b.size : Int) := by omega
    by_cases h2 : b.size ≤ 16
    · have h2' : (b.size : Int) ≤ 16 := by omega
      have PW := Lib.hid (word_c b h1 h2)
      have PS := Lib.hid (signs_c b h2)
      rw [decide_eq_true ⟨h1, h2⟩, Bool.true_and]
      generalize signsB b = y at *
      cases hx : wordB b with
      | true =>
        rw [hx] at PW
        clear hx
        go_enter Try.func14, Try.ntmps14
        go_wp2_with (first | (go_at_call 21; ((with_reducible refine (PW.out _).mono ?_); rintro e1 w2 ⟨rfl, hw2⟩; subst w2)) | (go_at_call 22; ((with_reducible refine (PS.out _).mono ?_); rintro e1 w2 ⟨rfl, hw2⟩; subst w2)))
        go_ret
        exact ⟨rfl, rfl⟩
      | false =>
        rw [hx] at PW
        clear hx
        go_enter Try.func14, Try.ntmps14
        go_wp2_with (first | (go_at_call 21; ((with_reducible refine (PW.out _).mono ?_); rintro e1 w2 ⟨rfl, hw2⟩; subst w2)) | (go_at_call 22; ((with_reducible refine (PS.out _).mono ?_); rintro e1 w2 ⟨rfl, hw2⟩; subst w2)))
        go_ret
        exact ⟨rfl, rfl⟩
    · have h2' : ¬ (b.size : Int) ≤ 16 := by omega
      rw [decide_eq_false (fun h => h2 h.2), Bool.false_and]
      go_enter Try.func14, Try.ntmps14
      go_wp2
      go_ret
      exact ⟨rfl, rfl⟩
  · have h1' : ¬ (1 : Int) ≤ (b.size : Int) := by omega
    rw [decide_eq_false (fun h => h1 h.1), Bool.false_and]
    go_enter Try.func14, Try.ntmps14
    go_wp2
    go_ret
    exact ⟨rfl, rfl⟩
theorem cnt_c (b : ByteArray) (w : World) : Calls Try.prog 25 #[.string b, .string ⟨#[58]⟩] w fun e w' => e = .returned (.int .i64 (cntB b : Nat)) ∧ w' = w := by
  go_enter Try.func25, Try.ntmps25
  go_wp2
  rw [run_callFunc_extern Try.func34 (by kernel_rfl) (by kernel_rfl) (by kernel_rfl) (e := Extern.BytealgCount.count) (by kernel_rfl), Lib.run_countString]
  simp only [Result.andThen]
  rw [Oper.upon_value]
  go_wp2
  go_ret
  exact ⟨rfl, rfl⟩
theorem kargs_c (b : ByteArray) (w : World) : Calls Try.prog 19 #[.string b] w fun e w' => e = .returned (.int .i64 (argsR b)) ∧ w' = w := by
  have PR := Lib.hid (right_c b)
  have PC := Lib.hid (cnt_c b)
  rw [← right_eq] at PR
  rw [args_eq]
  cases hr : rightB b with
  | false =>
    have e : argsL b = -1 := by unfold argsL; rw [hr]; rfl
    rw [hr] at PR
    rw [e]
    clear e hr
    go_enter Try.func19, Try.ntmps19
    go_wp2_with (first | (go_at_call 14; ((with_reducible refine (PR.out _).mono ?_); rintro e1 w2 ⟨rfl, hw2⟩; subst w2)))
    go_ret
    exact ⟨rfl, rfl⟩
  | true =>
    have h0 : 0 < b.size := by
      unfold rightB at hr
      rw [Bool.and_eq_true, decide_eq_true_eq] at hr
      exact hr.1.1
    have PS := Lib.hid (sign_c b[0])
    rw [hr] at PR
    cases hx : sgB b[0] with
    | true =>
      have e : argsL b = 1 := by unfold argsL; rw [hr, headB_eq _ h0, hx]; rfl
      rw [hx] at PS
      rw [e]
      clear e hr hx
      go_enter Try.func19, Try.ntmps19
      go_wp2_with (first | (go_at_call 14; ((with_reducible refine (PR.out _).mono ?_); rintro e1 w2 ⟨rfl, hw2⟩; subst w2)) | (go_at_call 24; ((with_reducible refine (PS.out _).mono ?_); rintro e1 w2 ⟨rfl, hw2⟩; subst w2)))
      go_ret
      exact ⟨rfl, rfl⟩
    | false =>
      have e : argsL b = (cntB b : Nat) := by unfold argsL; rw [hr, headB_eq _ h0, hx]; rfl
      rw [hx] at PS
      rw [e]
      clear e hr hx
      generalize cntB b = c at *
      go_enter Try.func19, Try.ntmps19
      go_wp2_with (first | (go_at_call 14; ((with_reducible refine (PR.out _).mono ?_); rintro e1 w2 ⟨rfl, hw2⟩; subst w2)) | (go_at_call 24; ((with_reducible refine (PS.out _).mono ?_); rintro e1 w2 ⟨rfl, hw2⟩; subst w2)) | (go_at_call 25; ((with_reducible refine (PC.out _).mono ?_); rintro e1 w2 ⟨rfl, hw2⟩; subst w2)))
      go_ret
      exact ⟨rfl, rfl⟩
end Wd
end Go.Proofs.Ytbefmkkmkjogcaa
