/- Texts joined: LR, VB, OInst, OMeth, USU, SLaw, QBase. -/
import Derived.Test.YteiejjmhmmkdhaaJ8
import Derived.Test.YteiejjmhmmkdhaaJ9
import Derived.Lib.CountLaws
/- The landed names: which are right, how many arguments they take. -/
namespace Go.Proofs.Yteiejjmhmmkdhaa
open Go.RowKit
set_option linter.unusedVariables false
set_option maxRecDepth 20000
namespace Wd
theorem sg_ok {x : UInt8} (h : sgB x = true) : okB x = false := by
  have key : ∀ n, n < 256 → inR n sgnB = true → (letterR n || decide (48 ≤ n ∧ n ≤ 57) || decide (n = 58)) = false := by decide
  exact key x.toNat x.toNat_lt h
theorem from_in : ∀ (L : List UInt8) (i s c : Nat), 0 < i → argsFrom L i s c = if L.all (fun x => sgB x || okB x) = true then some (s + L.countP sgB, c + L.count 58) else none
  | [], i, s, c, h => by simp [argsFrom]
  | x :: L, i, s, c, h => by
    rw [argsFrom]
    by_cases hs : sgB x = true
    · have h58 : ¬ x = 58 := by rintro rfl; exact absurd hs (by decide)
      have hs' : inR x.toNat ⟨#[43, 45, 42, 47, 60, 62, 61, 126, 38, 124, 37]⟩ = true := hs
      rw [if_pos hs', from_in L (i + 1) (s + 1) c (by omega)]
      have e1 : (x :: L).countP sgB = L.countP sgB + 1 := List.countP_cons_of_pos hs
      have e2 : (x :: L).count 58 = L.count 58 := List.count_cons_of_ne h58
      rw [e1, e2, List.all_cons, hs, Bool.true_or, Bool.true_and, show s + 1 + L.countP sgB = s + (L.countP sgB + 1) by omega]
    · have hs' : ¬ inR x.toNat ⟨#[43, 45, 42, 47, 60, 62, 61, 126, 38, 124, 37]⟩ = true := hs
      rw [if_neg hs']
      rw [Bool.not_eq_true] at hs
      by_cases h58 : x.toNat = 58
      · have e : x = 58 := UInt8.toNat_inj.1 h58
        have ho : okB x = true := by rw [e]; decide
        rw [if_pos ⟨h58, h⟩, from_in L (i + 1) s (c + 1) (by omega)]
        have e1 : (x :: L).countP sgB = L.countP sgB := List.countP_cons_of_neg (by rw [hs]; decide)
        have e2 : (x :: L).count 58 = L.count 58 + 1 := by rw [e]; exact List.count_cons_self
        rw [e1, e2, List.all_cons, ho, Bool.or_true, Bool.true_and, show c + 1 + L.count 58 = c + (L.count 58 + 1) by omega]
      · have h58' : ¬ x = 58 := fun e => h58 (by rw [e]; rfl)
        rw [if_neg (fun h => h58 h.1)]
        by_cases hk : letterR x.toNat = true ∨ 0 < i ∧ 48 ≤ x.toNat ∧ x.toNat ≤ 57
        · have ho : okB x = true := by
            unfold okB ltB dgB
            rcases hk with hk | hk
            · rw [hk]; rfl
            · rw [decide_eq_true hk.2]; simp
          rw [if_pos hk, from_in L (i + 1) s c (by omega)]
          have e1 : (x :: L).countP sgB = L.countP sgB := List.countP_cons_of_neg (by rw [hs]; decide)
          have e2 : (x :: L).count 58 = L.count 58 := List.count_cons_of_ne h58'
          rw [e1, e2, List.all_cons, ho, Bool.or_true, Bool.true_and]
        · have ho : okB x = false := by
            unfold okB ltB dgB
            rw [decide_eq_false h58, Bool.or_false, Bool.or_eq_false_iff]
            exact ⟨by rw [← Bool.not_eq_true]; exact fun h => hk (Or.inl h), decide_eq_false (fun h' => hk (Or.inr ⟨h, h'⟩))⟩
          rw [if_neg hk]
          simp [ho, hs]
def rightB (b : ByteArray) : Bool := decide (1 ≤ b.size ∧ b.size ≤ 16) && (wordB b || signsB b)
def cntB (b : ByteArray) : Nat := b.data.toList.count 58
/-- what the landed package says of arguments -/
def argsL (b : ByteArray) : Int := if rightB b = true then (if headB sgB b = true then 1 else (cntB b : Int)) else -1
theorem all_sg : ∀ {L : List UInt8}, L.all sgB = true ↔ L.countP sgB = L.length := by
  intro L
  rw [List.all_eq_true, List.countP_eq_length]
theorem args_eq (b : ByteArray) : argsR b = argsL b := by
  rcases Classical.em (1 ≤ b.size ∧ b.size ≤ 16) with hz | hz
  case inr =>
    rw [args_short hz]
    unfold argsL rightB
    rw [decide_eq_false hz]; rfl
  have hs : b.data.toList.length = b.size := Array.length_toList
  unfold argsR argsL rightB wordB signsB cntB
  rw [if_pos hz, decide_eq_true hz, Bool.true_and]
  obtain ⟨x, R, hL⟩ : ∃ x R, b.data.toList = x :: R := by
    cases hL : b.data.toList with
    | nil => rw [hL] at hs; simp at hs; omega
    | cons x R => exact ⟨x, R, rfl⟩
  have h1 : ∀ p, headB p b = p x := fun p => by unfold headB; rw [hL]
  rw [h1, h1, hL, argsFrom]
  rw [hL] at hs
  generalize b.size = n at *
  clear hL h1
  simp only [List.length_cons] at hs
  by_cases hx : sgB x = true
  · have hx' : inR x.toNat ⟨#[43, 45, 42, 47, 60, 62, 61, 126, 38, 124, 37]⟩ = true := hx
    have hok := sg_ok hx
    have hlt : ltB x = false := by unfold okB at hok; simp at hok; exact hok.1.1
    rw [if_pos hx', from_in R 1 1 0 (by omega), hlt, if_pos hx]
    simp only [Bool.false_and, Bool.false_or, List.all_cons, hx, Bool.true_and]
    by_cases ha : R.all sgB = true
    · have hc := all_sg.1 ha
      have hb : R.all (fun x => sgB x || okB x) = true := by
        rw [List.all_eq_true] at ha ⊢
        intro y hy; rw [ha y hy]; rfl
      rw [if_pos hb, ha, hc]
      simp only [Bool.true_and, decide_eq_true_eq]
      by_cases h2 : n ≤ 2
      · rw [if_pos (by omega), if_pos h2]
      · rw [if_neg (by omega), if_neg h2, if_pos (by omega)]
    · have hc : ¬ R.countP sgB = R.length := fun h => ha (all_sg.2 h)
      rw [Bool.not_eq_true] at ha
      rw [ha, Bool.false_and, if_neg Bool.false_ne_true]
      by_cases hb : R.all (fun x => sgB x || okB x) = true
      · rw [if_pos hb]
        simp only
        rw [if_neg (by omega), if_pos (by omega)]
      · rw [if_neg hb]
  · have hx' : ¬ inR x.toNat ⟨#[43, 45, 42, 47, 60, 62, 61, 126, 38, 124, 37]⟩ = true := hx
    rw [if_neg hx', if_neg (by omega)]
    rw [if_neg hx]
    rw [Bool.not_eq_true] at hx
    simp only [List.all_cons, hx, Bool.false_and, Bool.or_false]
    by_cases hl : ltB x = true
    · have hl' : letterR x.toNat = true ∨ 0 < 0 ∧ 48 ≤ x.toNat ∧ x.toNat ≤ 57 := Or.inl hl
      have ho : okB x = true := by unfold okB; rw [hl]; rfl
      have h58 : ¬ x = 58 := by rintro rfl; exact absurd hl (by decide)
      rw [if_pos hl', from_in R 1 0 0 (by omega), hl, ho]
      simp only [Bool.true_and, Nat.zero_add, List.count_cons_of_ne h58]
      by_cases ha : R.all okB = true
      · have hc : R.countP sgB = 0 := by
          rw [List.countP_eq_zero]
          intro y hy hys
          have := sg_ok hys
          rw [List.all_eq_true.1 ha y hy] at this
          cases this
        have hb : R.all (fun x => sgB x || okB x) = true := by
          rw [List.all_eq_true] at ha ⊢
          intro y hy; rw [ha y hy, Bool.or_true]
        rw [if_pos hb, if_pos ha, hc]
        simp only
        rw [if_neg (by omega), if_neg (by omega)]
      · rw [if_neg ha]
        by_cases hb : R.all (fun x => sgB x || okB x) = true
        · rw [if_pos hb]
          have hc : R.countP sgB ≠ 0 := by
            intro h0
            apply ha
            rw [List.all_eq_true] at hb ⊢
            intro y hy
            have := hb y hy
            rw [List.countP_eq_zero] at h0
            have h0 := h0 y hy
            simp only [Bool.or_eq_true] at this
            exact this.resolve_left h0
          have hle : R.countP sgB ≤ R.length := List.countP_le_length
          simp only
          rw [if_neg (by omega), if_pos (by omega)]
        · rw [if_neg hb]
    · have hl' : ¬ (letterR x.toNat = true ∨ 0 < 0 ∧ 48 ≤ x.toNat ∧ x.toNat ≤ 57) := fun h => by
        rcases h with h | h
        · exact hl h
        · omega
      rw [Bool.not_eq_true] at hl
      rw [if_neg hl', hl]
      simp
theorem right_eq (b : ByteArray) : rightB b = decide (0 ≤ argsR b) := by
  rw [args_eq]
  unfold argsL
  by_cases h : rightB b = true
  · rw [if_pos h, h]
    split
    · rfl
    · symm; rw [decide_eq_true_eq]; omega
  · rw [if_neg h]
    rw [Bool.not_eq_true] at h
    rw [h]; rfl
theorem right_c (b : ByteArray) (w : World) : Calls Try.prog 45 #[.string b] w fun e w' => e = .returned (.bool (decide (0 ≤ argsR b))) ∧ w' = w := by
  rw [← right_eq]
  unfold rightB
  by_cases h1 : 1 ≤ b.size
  · have h1' : (1 : Int) ≤ (b.size : Int) := by omega
    by_cases h2 : b.size ≤ 16
    · have h2' : (b.size : Int) ≤ 16 := by omega
      have PW := Lib.hid (word_c b h1 h2)
      have PS := Lib.hid (signs_c b h2)
      rw [decide_eq_true ⟨h1, h2⟩, Bool.true_and]
      generalize signsB b = y at *
      cases hx : wordB b with
      | true =>
        rw [hx] at PW
        clear hx
        go_enter Try.func45, Try.ntmps45
        go_wp2_with (first | (go_at_call 55; ((with_reducible refine (PW.out _).mono ?_); rintro e1 w2 ⟨rfl, hw2⟩; subst w2)) | (go_at_call 56; ((with_reducible refine (PS.out _).mono ?_); rintro e1 w2 ⟨rfl, hw2⟩; subst w2)))
        go_ret
        exact ⟨rfl, rfl⟩
      | false =>
        rw [hx] at PW
        clear hx
        go_enter Try.func45, Try.ntmps45
        go_wp2_with (first | (go_at_call 55; ((with_reducible refine (PW.out _).mono ?_); rintro e1 w2 ⟨rfl, hw2⟩; subst w2)) | (go_at_call 56; ((with_reducible refine (PS.out _).mono ?_); rintro e1 w2 ⟨rfl, hw2⟩; subst w2)))
        go_ret
        exact ⟨rfl, rfl⟩
    · have h2' : ¬ (b.size : Int) ≤ 16 := by omega
      rw [decide_eq_false (fun h => h2 h.2), Bool.false_and]
      go_enter Try.func45, Try.ntmps45
      go_wp2
      go_ret
      exact ⟨rfl, rfl⟩
  · have h1' : ¬ (1 : Int) ≤ (b.size : Int) := by omega
    rw [decide_eq_false (fun h => h1 h.1), Bool.false_and]
    go_enter Try.func45, Try.ntmps45
    go_wp2
    go_ret
    exact ⟨rfl, rfl⟩
theorem cnt_c (b : ByteArray) (w : World) : Calls Try.prog 80 #[.string b, .string ⟨#[58]⟩] w fun e w' => e = .returned (.int .i64 (cntB b : Nat)) ∧ w' = w := by
  go_enter Try.func80, Try.ntmps80
  go_wp2
  rw [run_callFunc_extern Try.func89 (by kernel_rfl) (by kernel_rfl) (by kernel_rfl) (e := Extern.BytealgCount.count) (by kernel_rfl), Lib.run_countString]
  simp only [Result.andThen]
  rw [Oper.upon_value]
  go_wp2
  go_ret
  exact ⟨rfl, rfl⟩
theorem kargs_c (b : ByteArray) (w : World) : Calls Try.prog 68 #[.string b] w fun e w' => e = .returned (.int .i64 (argsR b)) ∧ w' = w := by
  have PR := Lib.hid (right_c b)
  have PC := Lib.hid (cnt_c b)
  rw [← right_eq] at PR
  rw [args_eq]
  cases hr : rightB b with
  | false =>
    have e : argsL b = -1 := by unfold argsL; rw [hr]; rfl
    rw [hr] at PR
    rw [e]
    clear e hr
    go_enter Try.func68, Try.ntmps68
    go_wp2_with (first | (go_at_call 45; ((with_reducible refine (PR.out _).mono ?_); rintro e1 w2 ⟨rfl, hw2⟩; subst w2)))
    go_ret
    exact ⟨rfl, rfl⟩
  | true =>
    have h0 : 0 < b.size := by
      unfold rightB at hr
      rw [Bool.and_eq_true, decide_eq_true_eq] at hr
      exact hr.1.1
    have PS := Lib.hid (sign_c b[0])
    rw [hr] at PR
    cases hx : sgB b[0] with
    | true =>
      have e : argsL b = 1 := by unfold argsL; rw [hr, headB_eq _ h0, hx]; rfl
      rw [hx] at PS
      rw [e]
      clear e hr hx
      go_enter Try.func68, Try.ntmps68
      go_wp2_with (first | (go_at_call 45; ((with_reducible refine (PR.out _).mono ?_); rintro e1 w2 ⟨rfl, hw2⟩; subst w2)) | (go_at_call 73; ((with_reducible refine (PS.out _).mono ?_); rintro e1 w2 ⟨rfl, hw2⟩; subst w2)))
      go_ret
      exact ⟨rfl, rfl⟩
    | false =>
      have e : argsL b = (cntB b : Nat) := by unfold argsL; rw [hr, headB_eq _ h0, hx]; rfl
      rw [hx] at PS
      rw [e]
      clear e hr hx
      generalize cntB b = c at *
      go_enter Try.func68, Try.ntmps68
      go_wp2_with (first | (go_at_call 45; ((with_reducible refine (PR.out _).mono ?_); rintro e1 w2 ⟨rfl, hw2⟩; subst w2)) | (go_at_call 73; ((with_reducible refine (PS.out _).mono ?_); rintro e1 w2 ⟨rfl, hw2⟩; subst w2)) | (go_at_call 80; ((with_reducible refine (PC.out _).mono ?_); rintro e1 w2 ⟨rfl, hw2⟩; subst w2)))
      go_ret
      exact ⟨rfl, rfl⟩
end Wd
end Go.Proofs.Yteiejjmhmmkdhaa

/- The landed programs: the class of an object; is a text there; the names; how much of each. -/
namespace Go.Proofs.Yteiejjmhmmkdhaa
open Go.RowKit
set_option linter.unusedVariables false
set_option maxRecDepth 20000
namespace Wd
set_option maxHeartbeats 8000000 in
theorem uclass_c {w : World} {v cv : Value} {o : ObjA} {C : List ClassA} (h : ObK w v o) (hC : ClV w cv C) (h62 : ∀ c ∈ C, c.fields ≤ 62) :
    Calls Try.prog 51 #[v, cv] w fun e w' => e = .returned (.bool (objHead o C)) ∧ Below w.heap.size w w' := by
  obtain ⟨fa, fc, rfl, hf⟩ := h.ex
  obtain ⟨ca, cc, rfl, hc1, hc2⟩ := hC.form
  have hle := len_le (Nat.le_trans hc1 hc2)
  obtain ⟨c0, c1⟩ := h.c64
  have hB := Lib.hid ((Below.refl w.heap.size w).alloc (Nat.le_refl _) (.cells #[.int .i64 o.cls, .slice fa o.flds.length fc] 40))
  have PI := Lib.hid (uisOne_c o.cls (C.length : Int))
  by_cases h0 : o.cls < 1 ∨ (C.length : Int) ≤ o.cls
  · have e : Hid (objHead o C = false) := Lib.hid (by rcases h0 with h0 | h0; exact head_low h0; exact head_high h0)
    generalize objHead o C = r at *
    by_cases hz : o.cls = 0 ∧ 0 < C.length
    · obtain ⟨hz1, hz2⟩ := hz
      rw [hz1, show decide ((0 : Int) ≤ 0) = true from rfl, decide_eq_true (show (0 : Int) < (C.length : Int) by omega)] at PI
      rw [hz1] at hB ⊢
      clear h0 hz1 hz2 h hf hC h62 c0 c1
      go_enter Try.func51, Try.ntmps51
      go_wp2_with (first | (go_at_call 39; ((with_reducible refine (PI.out _).mono ?_); rintro e1 w2 ⟨rfl, hw2⟩; subst w2)))
      go_ret
      exact ⟨congrArg (fun b => Ending.returned (Value.bool b)) e.out.symm, hB.out⟩
    · have hx : (decide (0 ≤ o.cls) && decide (o.cls < (C.length : Int))) = false := by
        rw [Bool.and_eq_false_iff, decide_eq_false_iff_not, decide_eq_false_iff_not]; omega
      rw [hx] at PI
      clear h0 hz h hf hC h62 c0 c1 hx
      go_enter Try.func51, Try.ntmps51
      go_wp2_with (first | (go_at_call 39; ((with_reducible refine (PI.out _).mono ?_); rintro e1 w2 ⟨rfl, hw2⟩; subst w2)))
      go_ret
      exact ⟨congrArg (fun b => Ending.returned (Value.bool b)) e.out.symm, hB.out⟩
  have g0 : 1 ≤ o.cls := by omega
  have g1 : o.cls < (C.length : Int) := by omega
  rw [decide_eq_true (show (0 : Int) ≤ o.cls by omega), decide_eq_true g1] at PI
  have n0 : (o.cls == 0) = false := by simp; omega
  by_cases h1 : o.cls = 1
  · have n1 : (o.cls == 1) = true := by simpa using h1
    have e : Hid (objHead o C = decide (o.flds.length ≤ 62)) := Lib.hid (by unfold objHead; rw [if_neg h0, if_neg (by omega)])
    have e2 : Hid (objHead o C = decide ((o.flds.length : Int) ≤ 62)) := Lib.hid (by rw [e.out]; exact decide_eq_decide.2 (by omega))
    generalize objHead o C = r at *
    clear h0 h1 h hf hC h62 c0 c1 e g0 g1
    go_enter Try.func51, Try.ntmps51
    go_wp2_with (first | (go_at_call 39; ((with_reducible refine (PI.out _).mono ?_); rintro e1 w2 ⟨rfl, hw2⟩; subst w2)))
    go_ret
    exact ⟨congrArg (fun b => Ending.returned (Value.bool b)) e2.out.symm, hB.out⟩
  · have n1 : (o.cls == 1) = false := by simpa using h1
    obtain ⟨q, hq⟩ : ∃ q : Nat, o.cls = (q : Int) := ⟨o.cls.toNat, by omega⟩
    obtain ⟨x, hx⟩ : ∃ x, C[q]? = some x := ⟨C[q]'(by omega), by simp⟩
    have hx62 := h62 x (List.mem_of_getElem? hx)
    have e : Hid (objHead o C = ((o.flds.length : Int) == x.fields)) := Lib.hid (by
      unfold objHead
      rw [if_neg h0, hq, clsF_at hx]
      by_cases he : (o.flds.length : Int) = x.fields
      · rw [if_neg (fun h => h.2 he), he, beq_self_eq_true, decide_eq_true_eq]; omega
      · rw [if_pos ⟨by omega, he⟩]; symm; simpa using he)
    obtain ⟨_, _, g, off, bv, rfl, _, _, d2, _, _⟩ := hC.at hx
    have d2' := cell_up ((Below.refl w.heap.size w).alloc (Nat.le_refl _) (.cells #[.int .i64 o.cls, .slice fa o.flds.length fc] 40)) d2
    have q0 : (0 : Int) ≤ (q : Int) := by omega
    have q1 : (q : Int) < (C.length : Int) := by omega
    rw [hq] at PI n0 n1 hB d2' ⊢
    generalize objHead o C = r at *
    clear h0 h1 h hf hC h62 c0 c1 g0 g1 d2 hx
    go_enter Try.func51, Try.ntmps51
    go_wp2_with (first | (go_at_call 39; ((with_reducible refine (PI.out _).mono ?_); rintro e1 w2 ⟨rfl, hw2⟩; subst w2)))
    go_region
    go_wp2
    go_ret
    exact ⟨congrArg (fun b => Ending.returned (Value.bool b)) e.out.symm, hB.out.drew⟩
theorem NmV.takeV {w : World} {ad : Option Addr} {n cap : Nat} {L : List ByteArray} (h : NmV w (.slice ad n cap) L) (k : Nat) (hk : k ≤ L.length) : NmV w (.slice ad k cap) (L.take k) := by
  obtain ⟨ad', cap', e, h1, h2, h3⟩ := h.ex
  cases e
  have hl : (L.take k).length = k := by rw [List.length_take]; omega
  refine ⟨ad, cap, by rw [hl], by omega, h2, fun j x hx => h3 j x ?_⟩
  rw [List.getElem?_take] at hx
  split at hx
  · exact hx
  · cases hx
set_option maxHeartbeats 8000000 in
theorem uindex_c {w : World} {v : Value} {L : List ByteArray} (h : NmV w v L) (x : ByteArray) :
    Calls Try.prog 57 #[v, .string x] w fun e w' => (∃ i : Int, e = .returned (.int .i64 i) ∧ (0 ≤ i ↔ x ∈ L)) ∧ w' = w := by
  obtain ⟨ad, cap, rfl, hcap, hmx, _⟩ := h.ex
  obtain ⟨n, hnn⟩ : ∃ n, n = L.length := ⟨_, rfl⟩
  rw [← hnn] at h hcap ⊢
  replace h := Lib.hid h
  have hn' := Lib.hid hnn
  have hle : (n : Int) ≤ 9223372036854775807 := by have := Nat.le_trans hcap hmx; unfold maxLen at this; omega
  have hst : Hid (∀ y ∈ L.take 0, y ≠ x) := Lib.hid (by simp)
  clear hnn
  go_enter Try.func57, Try.ntmps57
  go_wp2
  go_loopw [8] (fun i wr => ∃ (k : Nat), k ≤ n ∧ i = .int .i64 k ∧ Hid (∀ y ∈ L.take k, y ≠ x) ∧ wr = w) (fun i _ => n - (intOf i).toNat)
  case atStart => exact ⟨0, by omega, rfl, hst, rfl⟩
  case round =>
    clear hst
    obtain ⟨k, hk, rfl, hD, rfl⟩ := hrel
    by_cases hlt : k < n
    · have hlt' : decide ((k : Int) < (n : Int)) = true := by simp; omega
      have p0 : (0 : Int) ≤ (k : Int) := by omega
      have p1 : (k : Int) < (n : Int) := by omega
      obtain ⟨y, hy⟩ : ∃ y, L[k]? = some y := ⟨L[k]'(by have := hn'.out; omega), by simp⟩
      obtain ⟨g, off, rfl, d0⟩ := NmV.at h.out hy
      have hy' := Lib.hid hy
      clear hy
      by_cases he : x = y
      · have e : Hid (0 ≤ (k : Int) ↔ x ∈ L) := Lib.hid ⟨fun _ => by rw [he]; exact List.mem_of_getElem? hy'.out, fun _ => by omega⟩
        have he' : (x.toList == y.toList) = true := bl_eq he
        clear he
        go_wp2
        go_ret
        exact ⟨⟨_, rfl, e.out⟩, rfl⟩
      · have he' : (x.toList == y.toList) = false := bl_ne he
        have hD' : Hid (∀ z ∈ L.take (k + 1), z ≠ x) := Lib.hid (fun z hz => by
          rw [take_next hy'.out] at hz
          rcases List.mem_append.1 hz with hz | hz
          · exact hD.out z hz
          · rw [List.mem_singleton.1 hz]; exact fun e => he e.symm)
        clear he
        go_wp2
        go_roundw
        case rel => exact ⟨k + 1, by omega, by go_num, hD', trivial⟩
        case measure => simp [intOf]; omega
    · have e : Hid (0 ≤ (-1 : Int) ↔ x ∈ L) := Lib.hid (by
        have hd := hD.out
        rw [show k = L.length by have := hn'.out; omega, List.take_length] at hd
        exact ⟨fun h => absurd h (by decide), fun h => absurd rfl (hd x h)⟩)
      have hlt' : decide ((k : Int) < (n : Int)) = false := by simp; omega
      go_wp2
      go_ret
      exact ⟨⟨_, rfl, e.out⟩, rfl⟩
theorem ucontains_c {w : World} {v : Value} {L : List ByteArray} (h : NmV w v L) (x : ByteArray) (b : Bool) (hb : b = true ↔ x ∈ L) :
    Calls Try.prog 46 #[v, .string x] w fun e w' => e = .returned (.bool b) ∧ w' = w := by
  have PI := Lib.hid (uindex_c h x)
  replace hb := Lib.hid hb
  clear h
  go_enter Try.func46, Try.ntmps46
  go_wp2_with (first | (go_at_call 57; ((with_reducible refine PI.out.mono ?_); rintro e1 w2 ⟨⟨i, rfl, hi⟩, hw2⟩; subst w2; replace hi := Lib.hid hi)))
  go_ret
  exact ⟨congrArg (fun b => Ending.returned (Value.bool b)) (show decide (i ≥ 0) = b by cases b with | true => exact decide_eq_true (hi.out.2 (hb.out.1 rfl)) | false => exact decide_eq_false (fun h => absurd (hb.out.2 (hi.out.1 h)) (by decide))), rfl⟩
set_option maxHeartbeats 8000000 in
theorem unames_c {w : World} {v : Value} {L : List ByteArray} (h : NmV w v L) :
    Calls Try.prog 35 #[v] w fun e w' => e = .returned (.bool (namesB L)) ∧ w' = w := by
  obtain ⟨ad, cap, rfl, hcap, hmx, _⟩ := h.ex
  obtain ⟨n, hnn⟩ : ∃ n, n = L.length := ⟨_, rfl⟩
  rw [← hnn] at h hcap ⊢
  replace h := Lib.hid h
  have hn' := Lib.hid hnn
  have hst := Lib.hid (NsR.start L)
  have hle : (n : Int) ≤ 9223372036854775807 := by have := Nat.le_trans hcap hmx; unfold maxLen at this; omega
  clear hnn
  go_enter Try.func35, Try.ntmps35
  go_wp2
  go_loopw [7] (fun i7 wr => ∃ (k : Nat), k ≤ n ∧ i7 = .int .i64 k ∧ Hid (NsR L k) ∧ wr = w) (fun i7 _ => n - (intOf i7).toNat)
  case atStart => exact ⟨0, by omega, rfl, hst, rfl⟩
  case round =>
    clear hst
    obtain ⟨k, hk, rfl, hR, rfl⟩ := hrel
    by_cases hlt : k < n
    · have hlt' : decide ((k : Int) < (n : Int)) = true := by simp; omega
      have p0 : (0 : Int) ≤ (k : Int) := by omega
      have p1 : (k : Int) < (n : Int) := by omega
      have p2 : (k : Int) ≤ (cap : Int) := by omega
      obtain ⟨x, hx⟩ : ∃ x, L[k]? = some x := ⟨L[k]'(by have := hn'.out; omega), by simp⟩
      obtain ⟨g, off, rfl, c0⟩ := NmV.at h.out hx
      have hx' := Lib.hid hx
      have PR := Lib.hid (right_c x)
      have PC := Lib.hid (ucontains_c (h.out.takeV k (by have := hn'.out; omega)) x)
      clear hx
      by_cases ha : argsR x < 0
      · have e := Lib.hid (names_bad hx'.out ha)
        rw [decide_eq_false (show ¬ 0 ≤ argsR x by omega)] at PR
        clear ha
        go_wp2_with (first | (go_at_call 45; ((with_reducible refine (PR.out _).mono ?_); rintro e1 w2 ⟨rfl, hw2⟩; subst w2)))
        go_ret
        exact ⟨congrArg (fun b => Ending.returned (Value.bool b)) e.out.symm, rfl⟩
      · rw [decide_eq_true (show 0 ≤ argsR x by omega)] at PR
        have haH : Hid (0 ≤ argsR x) := Lib.hid (by omega)
        clear ha
        by_cases hm : x ∈ L.take k
        · have e : Hid (namesB L = false) := Lib.hid (by
            obtain ⟨j, hj, ej⟩ := List.mem_iff_getElem.1 hm
            rw [List.length_take] at hj
            have hj2 : j < k ∧ j < L.length := by omega
            have hy : L[j]? = some (L[j]'hj2.2) := by simp
            refine names_twice hx'.out hj2.1 hy ?_
            rw [List.getElem_take] at ej
            exact ej)
          replace PC := Lib.hid (PC.out true ⟨fun _ => hm, fun _ => rfl⟩)
          clear hm
          go_wp2_with (first | (go_at_call 45; ((with_reducible refine (PR.out _).mono ?_); rintro e1 w2 ⟨rfl, hw2⟩; subst w2)) | (go_at_call 46; ((with_reducible refine PC.out.mono ?_); rintro e1 w2 ⟨rfl, hw2⟩; subst w2)))
          go_ret
          exact ⟨congrArg (fun b => Ending.returned (Value.bool b)) e.out.symm, rfl⟩
        · have hR' := Lib.hid (hR.out.step hx'.out haH.out (fun y hy e => hm (by rw [← e]; exact hy)))
          replace PC := Lib.hid (PC.out false ⟨fun h => absurd h (by decide), fun h => absurd h hm⟩)
          clear hm
          go_wp2_with (first | (go_at_call 45; ((with_reducible refine (PR.out _).mono ?_); rintro e1 w2 ⟨rfl, hw2⟩; subst w2)) | (go_at_call 46; ((with_reducible refine PC.out.mono ?_); rintro e1 w2 ⟨rfl, hw2⟩; subst w2)))
          go_roundw
          case rel => exact ⟨k + 1, by omega, by go_num, hR', trivial⟩
          case measure => simp [intOf]; omega
    · have e : Hid (namesB L = true) := Lib.hid (NsR.last (by have := hR.out; rw [show k = L.length by have := hn'.out; omega] at this; exact this))
      have hlt' : decide ((k : Int) < (n : Int)) = false := by simp; omega
      go_wp2
      go_ret
      exact ⟨congrArg (fun b => Ending.returned (Value.bool b)) e.out.symm, rfl⟩
end Wd
end Go.Proofs.Yteiejjmhmmkdhaa

/- The document's own instructions: is one right where it stands? -/
namespace Go.Proofs.Yteiejjmhmmkdhaa
open Go.RowKit
set_option linter.unusedVariables false
set_option maxRecDepth 20000
namespace Wd
theorem ins_other {m : MethA} {pc op arg : Int} (h : op ≠ 0 ∧ op ≠ 10 ∧ op ≠ 1 ∧ op ≠ 11 ∧ op ≠ 2 ∧ op ≠ 12 ∧ op ≠ 13 ∧ op ≠ 20 ∧ op ≠ 18 ∧ op ≠ 15 ∧ op ≠ 17 ∧ op ≠ 16 ∧ op ≠ 21) : insR m pc op arg = decide (op ≤ 21) := by
  unfold insR
  rw [if_neg (by omega), if_neg (by omega), if_neg (by omega), if_neg (by omega), if_neg (by omega), if_neg (by omega), if_neg (by omega), if_neg (by omega), if_neg (by omega)]
end Wd
end Go.Proofs.Yteiejjmhmmkdhaa

/- The document's own instructions: is a method right? -/
namespace Go.Proofs.Yteiejjmhmmkdhaa
open Go.RowKit
set_option linter.unusedVariables false
set_option maxRecDepth 20000
namespace Wd
/-- a program in a box of its own -/
structure UnB (w : World) (q : Nat) (u : Value) (U : UnitA) (na ka ma oa : Option Addr) (nc kc mc oc : Nat) : Prop where
  e : u = .agg #[.slice na U.names.length nc, .slice ka U.classes.length kc, .slice ma U.methods.length mc, .slice oa U.objects.length oc, .int .i64 U.main]
  c0 : w.cell? ⟨q, 0, none⟩ = some (.slice na U.names.length nc)
  c1 : w.cell? ⟨q, 1, none⟩ = some (.slice ka U.classes.length kc)
  c2 : w.cell? ⟨q, 2, none⟩ = some (.slice ma U.methods.length mc)
  c3 : w.cell? ⟨q, 3, none⟩ = some (.slice oa U.objects.length oc)
  c4 : w.cell? ⟨q, 4, none⟩ = some (.int .i64 U.main)
  un : UnK w u U
theorem UnB.born {w : World} {U : UnitA} {na ka ma oa : Option Addr} {nc kc mc oc : Nat} (h : UnK w (.agg #[.slice na U.names.length nc, .slice ka U.classes.length kc, .slice ma U.methods.length mc, .slice oa U.objects.length oc, .int .i64 U.main]) U) : UnB (w.alloc (.cells #[.slice na U.names.length nc, .slice ka U.classes.length kc, .slice ma U.methods.length mc, .slice oa U.objects.length oc, .int .i64 U.main] 28)) w.heap.size (.agg #[.slice na U.names.length nc, .slice ka U.classes.length kc, .slice ma U.methods.length mc, .slice oa U.objects.length oc, .int .i64 U.main]) U na ka ma oa nc kc mc oc :=
  ⟨rfl, by simp, by simp, by simp, by simp, by simp, h.up ((Below.refl _ _).alloc (Nat.le_refl _) _)⟩
theorem UnB.up {w w1 : World} {q : Nat} {u : Value} {U : UnitA} {na ka ma oa : Option Addr} {nc kc mc oc : Nat} (h : UnB w q u U na ka ma oa nc kc mc oc) (b : Below w.heap.size w w1) : UnB w1 q u U na ka ma oa nc kc mc oc :=
  ⟨h.e, cell_up b h.c0, cell_up b h.c1, cell_up b h.c2, cell_up b h.c3, cell_up b h.c4, h.un.up b⟩
def metT (m : MethA) (nn nc nm : Nat) : Int := if m.lits.all (fun x => litR x nn nc nm) = false then 12 else if insF m (m.code.length / 2) 0 = false then 12 else 0
theorem met_long {m : MethA} {nn nc nm : Nat} (h : m.code.length > 128 ∨ m.lits.length > 16 ∨ m.args < 0 ∨ m.temps < 0 ∨ m.args > 8 ∨ m.temps > 8 - m.args) : metR m nn nc nm = 3 := if_pos h
theorem met_len {m : MethA} {nn nc nm : Nat} (h : ¬ (m.code.length > 128 ∨ m.lits.length > 16 ∨ m.args < 0 ∨ m.temps < 0 ∨ m.args > 8 ∨ m.temps > 8 - m.args)) (h2 : m.code.length < 2 ∨ m.code.length % 2 ≠ 0) : metR m nn nc nm = 12 := by
  unfold metR; rw [if_neg h, if_pos h2]
theorem met_last {m : MethA} {nn nc nm : Nat} (h : ¬ (m.code.length > 128 ∨ m.lits.length > 16 ∨ m.args < 0 ∨ m.temps < 0 ∨ m.args > 8 ∨ m.temps > 8 - m.args)) (h2 : ¬ (m.code.length < 2 ∨ m.code.length % 2 ≠ 0)) (h3 : byAt m.code (m.code.length - 2) ≠ 14 ∧ byAt m.code (m.code.length - 2) ≠ 19 ∧ byAt m.code (m.code.length - 2) ≠ 16) : metR m nn nc nm = 12 := by
  unfold metR; rw [if_neg h, if_neg h2, if_pos h3]
theorem met_t {m : MethA} {nn nc nm : Nat} (h : ¬ (m.code.length > 128 ∨ m.lits.length > 16 ∨ m.args < 0 ∨ m.temps < 0 ∨ m.args > 8 ∨ m.temps > 8 - m.args)) (h2 : ¬ (m.code.length < 2 ∨ m.code.length % 2 ≠ 0)) (h3 : ¬ (byAt m.code (m.code.length - 2) ≠ 14 ∧ byAt m.code (m.code.length - 2) ≠ 19 ∧ byAt m.code (m.code.length - 2) ≠ 16)) : metR m nn nc nm = metT m nn nc nm := by
  unfold metR; rw [if_neg h, if_neg h2, if_neg h3]; rfl
theorem metT_lit {m : MethA} {nn nc nm : Nat} (h : m.lits.all (fun x => litR x nn nc nm) = false) : metT m nn nc nm = 12 := if_pos h
theorem metT_ins {m : MethA} {nn nc nm : Nat} (h : m.lits.all (fun x => litR x nn nc nm) = true) (h2 : insF m (m.code.length / 2) 0 = false) : metT m nn nc nm = 12 := by
  unfold metT; rw [if_neg (by rw [h]; decide), if_pos h2]
theorem metT_ok {m : MethA} {nn nc nm : Nat} (h : m.lits.all (fun x => litR x nn nc nm) = true) (h2 : insF m (m.code.length / 2) 0 = true) : metT m nn nc nm = 0 := by
  unfold metT; rw [if_neg (by rw [h]; decide), if_neg (by rw [h2]; decide)]
theorem all_next {α : Type} {L : List α} {f : α → Bool} {k : Nat} {x : α} (h : L[k]? = some x) : (L.drop k).all f = (f x && (L.drop (k + 1)).all f) := by
  obtain ⟨hk, e⟩ := List.getElem?_eq_some_iff.1 h
  rw [← e, List.drop_eq_getElem_cons hk, List.all_cons]
theorem ins_next {m : MethA} {N j : Nat} (h : j < N) : insF m (N - j) (2 * j) = (insR m ((2 * j : Nat) : Int) (byAt m.code (2 * j)) (byAt m.code (2 * j + 1)) && insF m (N - (j + 1)) (2 * (j + 1))) := by
  rw [show N - j = (N - (j + 1)) + 1 by omega, insF, show 2 * j + 2 = 2 * (j + 1) by omega]
/-- all that follows the first tests -/
structure MSt (w0 wr : World) (q q2 : Nat) (v u : Value) (m : MethA) (U : UnitA) (la ca na ka ma oa : Option Addr) (lc cc nc kc mc oc : Nat) : Prop where
  b : MeB wr q v m la ca lc cc
  u : UnB wr q2 u U na ka ma oa nc kc mc oc
  bel : Below w0.heap.size w0 wr
theorem MSt.up {w0 w w1 : World} {q q2 : Nat} {v u : Value} {m : MethA} {U : UnitA} {la ca na ka ma oa : Option Addr} {lc cc nc kc mc oc : Nat} (h : MSt w0 w q q2 v u m U la ca na ka ma oa lc cc nc kc mc oc) (b : Below w.heap.size w w1) : MSt w0 w1 q q2 v u m U la ca na ka ma oa lc cc nc kc mc oc :=
  ⟨h.b.up b, h.u.up b, h.bel.trans (b.mono h.bel.size)⟩
end Wd
end Go.Proofs.Yteiejjmhmmkdhaa

/- Is a program right? (the document's own) -/
namespace Go.Proofs.Yteiejjmhmmkdhaa
open Go.RowKit
set_option linter.unusedVariables false
set_option maxRecDepth 20000
namespace Wd
/-- the first thing that is wrong -/
def firstE : List Int → Int
  | [] => 0
  | e :: L => if e = 0 then firstE L else e
def eBinds (B : List (Int × Int)) : Int := if (ofD B D0).isSome = true then 0 else 14
def nmAt (L : List ByteArray) (i : Int) : ByteArray := L.getD i.toNat ⟨#[]⟩
def agAt (L : List MethA) (i : Int) : Int := match L[i.toNat]? with
  | some x => x.args
  | none => 0
def eArg (U : UnitA) (b : Int × Int) : Int := if argsR (nmAt U.names b.1) = agAt U.methods b.2 then 0 else 15
def eArgs (U : UnitA) : List ClassA → List Int
  | [] => []
  | c :: C => c.binds.map (eArg U) ++ eArgs U C
def longB (U : UnitA) : Bool := decide (48 < U.names.length) || (decide (U.methods.length < 1) || (decide (32 < U.methods.length) || (decide (U.objects.length < 1) || decide (40 < U.objects.length))))
def mainE (U : UnitA) : Int := if 0 ≤ U.main ∧ U.main < (U.methods.length : Int) ∧ agAt U.methods U.main = 0 then 0 else 15
def restO (U : UnitA) (k : Nat) : List Int := (U.objects.drop k).map (fun x => if objB x U.classes U.objects.length = true then (0 : Int) else 16) ++ [mainE U]
def restA (U : UnitA) (k : Nat) : List Int := eArgs U (U.classes.drop k) ++ restO U 0
def restM (U : UnitA) (k : Nat) : List Int := (U.methods.drop k).map (fun m => metR m U.names.length U.classes.length U.methods.length) ++ restA U 0
def restC (U : UnitA) (k : Nat) : List Int := (U.classes.drop k).map (fun c => eBinds c.binds) ++ restM U 0
/-- what is wrong with a program; 0: nothing -/
def unitR (U : UnitA) : Int := firstE ((if longB U = true then (3 : Int) else 0) :: (if namesB U.names = true then (0 : Int) else 13) :: shapeR U.classes U.names.length U.methods.length :: restC U 0)
/-- so far nothing is wrong; X: what is still looked at -/
structure StU (U : UnitA) (X : List Int) : Prop where
  mk ::
  eq : unitR U = firstE X
theorem StU.ok {U : UnitA} {X : List Int} {e : Int} (h : StU U (e :: X)) (he : e = 0) : StU U X := ⟨by rw [h.eq, firstE, if_pos he]⟩
theorem StU.bad {U : UnitA} {X : List Int} {e : Int} (h : StU U (e :: X)) (he : ¬ e = 0) : unitR U = e := by rw [h.eq, firstE, if_neg he]
theorem StU.start (U : UnitA) : StU U ((if longB U = true then (3 : Int) else 0) :: (if namesB U.names = true then (0 : Int) else 13) :: shapeR U.classes U.names.length U.methods.length :: restC U 0) := ⟨rfl⟩
theorem drop_all {T : Type} {L : List T} {k : Nat} (h : k = L.length) : L.drop k = [] := by subst h; exact List.drop_length
/-- classes that are right: each bind is -/
theorem from_binds {L : List ClassA} {names methods : Int} : ∀ (C : List ClassA) (i : Nat), shapeFrom L names methods i C = 0 → ∀ c ∈ C, bindsOk c.binds names methods = true
  | [], _, _, c, h => by cases h
  | d :: C, i, e, c, h => by
    rw [shapeFrom] at e
    split at e
    · cases e
    · split at e
      · cases e
      · split at e
        · cases e
        · split at e
          · cases e
          · rename_i hb
            rcases List.mem_cons.1 h with rfl | h
            · simpa using hb
            · exact from_binds C (i + 1) e c h
theorem shape_binds {L : List ClassA} {names methods : Int} (e : shapeR L names methods = 0) {k : Nat} {c : ClassA} (hc : L[k]? = some c) {j : Nat} {b : Int × Int} (hb : c.binds[j]? = some b) : 0 ≤ b.1 ∧ b.1 < names ∧ 0 ≤ b.2 ∧ b.2 < methods := by
  unfold shapeR at e
  split at e
  · cases e
  · split at e
    · cases e
    · have h1 := from_binds L 0 e c (List.mem_of_getElem? hc)
      unfold bindsOk at h1
      simp only [Bool.and_eq_true, List.all_eq_true] at h1
      have h2 := h1.1.1 b (List.mem_of_getElem? hb)
      unfold bindOk at h2
      simp only [Bool.and_eq_true, decide_eq_true_iff] at h2
      omega
theorem eBinds_14 {B : List (Int × Int)} (e : ¬ eBinds B = 0) : eBinds B = 14 := by
  unfold eBinds at e ⊢
  split
  · rename_i h; rw [if_pos h] at e; exact absurd rfl e
  · rfl
/-- a program lies boxed -/
structure V1 (w wr : World) (U : UnitA) (na : Option Addr) (nc : Nat) (ca : Option Addr) (cc : Nat) (ma : Option Addr) (mc : Nat) (oa : Option Addr) (oc : Nat) (l1 l2 l3 l4 : Nat) : Prop where
  mk ::
  cells : wr.cell? ⟨w.heap.size, 0, none⟩ = some (.slice na l1 nc) ∧ wr.cell? ⟨w.heap.size, 1, none⟩ = some (.slice ca l2 cc) ∧ wr.cell? ⟨w.heap.size, 2, none⟩ = some (.slice ma l3 mc) ∧ wr.cell? ⟨w.heap.size, 3, none⟩ = some (.slice oa l4 oc) ∧ wr.cell? ⟨w.heap.size, 4, none⟩ = some (.int .i64 U.main)
  views : NmV wr (.slice na l1 nc) U.names ∧ ClV wr (.slice ca l2 cc) U.classes ∧ MtV wr (.slice ma l3 mc) U.methods ∧ ObV wr (.slice oa l4 oc) U.objects
  lens : l1 = U.names.length ∧ l2 = U.classes.length ∧ l3 = U.methods.length ∧ l4 = U.objects.length
  les : l1 ≤ maxLen ∧ l2 ≤ maxLen ∧ l3 ≤ maxLen ∧ l4 ≤ maxLen
  caps : l1 ≤ nc ∧ l2 ≤ cc ∧ l3 ≤ mc ∧ l4 ≤ oc
  bel : Below w.heap.size w wr
section
variable {w wr w2 : World} {U : UnitA} {na ca ma oa : Option Addr} {nc cc mc oc l1 l2 l3 l4 : Nat}
theorem V1.up (h : V1 w wr U na nc ca cc ma mc oa oc l1 l2 l3 l4) (b : Below wr.heap.size wr w2) : V1 w w2 U na nc ca cc ma mc oa oc l1 l2 l3 l4 := by
  obtain ⟨a0, a1, a2, a3, a4⟩ := h.cells
  obtain ⟨v0, v1, v2, v3⟩ := h.views
  exact ⟨⟨cell_up b a0, cell_up b a1, cell_up b a2, cell_up b a3, cell_up b a4⟩, ⟨v0.up b, v1.up b, v2.up b, v3.up b⟩, h.lens, h.les, h.caps, h.bel.trans (b.mono h.bel.size)⟩
theorem V1.drew (h : V1 w wr U na nc ca cc ma mc oa oc l1 l2 l3 l4) : V1 w wr.drew U na nc ca cc ma mc oa oc l1 l2 l3 l4 := h.up ((Below.refl _ _).drew)
theorem V1.unk (h : V1 w wr U na nc ca cc ma mc oa oc l1 l2 l3 l4) : UnK wr (.agg #[.slice na l1 nc, .slice ca l2 cc, .slice ma l3 mc, .slice oa l4 oc, .int .i64 U.main]) U := by
  obtain ⟨v0, v1, v2, v3⟩ := h.views
  obtain ⟨e1, e2, e3, e4⟩ := h.lens
  subst e1; subst e2; subst e3; subst e4
  exact ⟨⟨na, nc, ca, cc, ma, mc, oa, oc, rfl, ⟨v0, v1, v2, v3⟩⟩⟩
end
end Wd
end Go.Proofs.Yteiejjmhmmkdhaa

/- What the laws ask of the package's judgement of classes. -/
namespace Go.Proofs.Yteiejjmhmmkdhaa
open Go.RowKit
set_option linter.unusedVariables false
set_option maxRecDepth 20000
namespace Wd
theorem SL.up {w w' : World} {e : TypeId} {v : Value} {L : List Int} (h : SL w e v L) (b : Below w.heap.size w w') : SL w' e v L := SL.keep h b
theorem SL.at {w : World} {e : TypeId} {a : Option Addr} {n c : Nat} {L : List Int} (h : SL w e (.slice a n c) L) {k : Nat} {x : Int} (hx : L[k]? = some x) : ∃ g, a = some ⟨g, 0, none⟩ ∧ w.cell? ⟨g, k, none⟩ = some (.int .i64 x) := by
  have hk := (List.getElem?_eq_some_iff.1 hx).1
  rcases h.cases with ⟨e1, e2⟩ | ⟨g, cap, e1, _, _, _, ho⟩
  · subst e2; simp at hx
  · cases e1
    exact ⟨g, rfl, row_cell ho hx⟩
end Wd
end Go.Proofs.Yteiejjmhmmkdhaa

/- The landed package's chains. -/
namespace Go.Proofs.Yteiejjmhmmkdhaa
open Go.RowKit
set_option linter.unusedVariables false
set_option maxRecDepth 20000
namespace Wd
theorem isc_y (ad : Option Addr) (n cap : Nat) (i : Int) (h0 : 0 ≤ i) (h1 : i < n) (w : World) :
    Calls Try.prog 74 #[.slice ad n cap, .int .i64 i] w fun e w' => e = .returned (.bool true) ∧ w' = w := by
  have h0' : decide (i ≥ 0) = true := by simpa using h0
  have h1' : decide (i < (n : Int)) = true := by simpa using h1
  go_enter Try.func74, Try.ntmps74
  go_wp2
  go_ret
  exact ⟨rfl, rfl⟩
theorem isc_n (ad : Option Addr) (n cap : Nat) (i : Int) (h : i < 0 ∨ (n : Int) ≤ i) (w : World) :
    Calls Try.prog 74 #[.slice ad n cap, .int .i64 i] w fun e w' => e = .returned (.bool false) ∧ w' = w := by
  by_cases h0 : 0 ≤ i
  · have h0' : decide (i ≥ 0) = true := by simpa using h0
    have h1' : decide (i < (n : Int)) = false := by simp; omega
    go_enter Try.func74, Try.ntmps74
    go_wp2
    go_ret
    exact ⟨rfl, rfl⟩
  · have h0' : decide (i ≥ 0) = false := by simp; omega
    go_enter Try.func74, Try.ntmps74
    go_wp2
    go_ret
    exact ⟨rfl, rfl⟩
set_option maxHeartbeats 16000000 in
theorem kchain {w : World} {v : Value} {L : List ClassA} (h : ClV w v L) (i : Int) (hi : In64 i) :
    Calls Try.prog 82 #[v, .int .i64 i] w fun e w' => ∃ v', e = .returned v' ∧ SL w' 3 v' (chain L i) ∧ Below w.heap.size w w' := by
  obtain ⟨i0, hi0, hz0, hz1, hz2⟩ := info_parts info3
  have hmx : 100000 ≤ maxLen := by decide
  obtain ⟨ad, cap, rfl, hcap, hm⟩ := h.form
  obtain ⟨n, hn⟩ : ∃ n, n = L.length := ⟨_, rfl⟩
  rw [← hn] at h hcap ⊢
  replace h := Lib.hid h
  have hn' := Lib.hid hn
  have hnm : n ≤ maxLen := by omega
  have hst : Hid (ChR w w L i i (.slice none 0 0) 0 []) := Lib.hid ⟨World.ownsRow_nil _ _ _ _, by simp, by simp, by simp [chain], Below.refl _ _, hi⟩
  clear hcap hm hi hn
  go_enter Try.func82, Try.ntmps82
  go_wp2
  go_loopw [1, 5] (fun i1 v5 wr => ∃ (j : Int) (C : List Int) (a : Option Addr) (m c : Nat), i1 = .int .i64 j ∧ v5 = .slice a m c ∧ Hid (ChR w wr L i j (.slice a m c) m C)) (fun i1 v5 _ => match v5 with | .slice _ m _ => 8 - m | _ => 0)
  case atStart => exact ⟨i, [], none, 0, 0, rfl, rfl, hst⟩
  case round =>
    obtain ⟨j, C, a, m, c, rfl, rfl, hR⟩ := hrel
    have hle : m ≤ 8 := hR.out.le
    obtain ⟨b0, b1⟩ := hR.out.ij
    by_cases h0 : 0 ≤ j ∧ j < n
    · obtain ⟨h0, h1⟩ := h0
      have PI := Lib.hid (isc_y ad n cap j h0 h1)
      by_cases h2 : m < 8
      · obtain ⟨k, rfl⟩ : ∃ k : Nat, j = k := ⟨j.toNat, by omega⟩
        obtain ⟨x, hx⟩ : ∃ x, L[k]? = some x := ⟨L[k]'(by have := hn'.out; omega), by simp⟩
        obtain ⟨s0, s1, g, off, bv, rfl, c0, c1, c2, c3, _⟩ := h.out.at hx
        have hx' := Lib.hid hx
        have h2' : decide (((m : Nat) : Int) < 8) = true := by simp; omega
        have hown := Lib.hid hR.out.own
        have hsz : Hid (w.heap.size ≤ wr.heap.size) := Lib.hid hR.out.bel.size
        have hk1 := Lib.hid c1
        have hs0 := Lib.hid s0
        clear c0 c1 c2 c3 s1 hx s0
        go_wp2_with (first | (go_at_call 74; ((with_reducible refine (PI.out _).mono ?_); rintro e1 w2 ⟨rfl, hw2⟩; subst w2)) | (at_builtin; refine wpList_append_lies _ rfl (.tmp 14) (.tmp 16) 22 rfl w.heap.size 3 i0 (.int .i64 0) 1 8 Try.underlying22 hi0 hz0 hz1 hz2 rfl (by decide) _ m _ (by simp [Act.eval]) (hown.out.alloc _) ⟨wr.heap.size, 0, none⟩ 1 1 (ints [(k : Int)]) (by simp [Act.eval]) (by simp) (one_at ((World.cell?_alloc_new _ _ _ 0).trans rfl)) (ints_one _) (by omega) (by omega) (by omega) (by have := hsz.out; simp; omega) _ rfl ?_; intro g1 cap1 w1 hown1 hgrow1 hat1 hlt1; have hR1 := Lib.hid (hR.out.more hx'.out h2 rfl hown1 hgrow1 hs0.out); have hc1 := cell_up hR1.out.bel hk1.out; clear hgrow1 hat1 hlt1 hown1))
        go_roundw
        case rel => exact ⟨_, _, _, _, _, rfl, rfl, hR1⟩
        case measure => simp; omega
      · have h2' : decide (((m : Nat) : Int) < 8) = false := by simp; omega
        have he : chainR L j (8 - m) = [] := by rw [show 8 - m = 0 by omega]; rfl
        have hf := Lib.hid (hR.out.last he)
        clear he
        go_wp2_with (first | (go_at_call 74; ((with_reducible refine (PI.out _).mono ?_); rintro e1 w2 ⟨rfl, hw2⟩; subst w2)))
        go_ret
        exact ⟨_, rfl, hf.out, hR.out.bel⟩
    · have PI := Lib.hid (isc_n ad n cap j (by omega))
      have he : chainR L j (8 - m) = [] := by
        rcases (show j < 0 ∨ (L.length : Int) ≤ j by have := hn'.out; omega) with h | h
        · exact chainR_neg _ h
        · exact chainR_over _ h
      have hf := Lib.hid (hR.out.last he)
      clear he
      go_wp2_with (first | (go_at_call 74; ((with_reducible refine (PI.out _).mono ?_); rintro e1 w2 ⟨rfl, hw2⟩; subst w2)))
      go_ret
      exact ⟨_, rfl, hf.out, hR.out.bel⟩
theorem kdepth {w : World} {v : Value} {L : List ClassA} (h : ClV w v L) (i : Int) (hi : In64 i) :
    Calls Try.prog 75 #[v, .int .i64 i] w fun e w' => e = .returned (.int .i64 ((chain L i).length : Nat)) ∧ Below w.heap.size w w' := by
  have P := kchain h i hi
  generalize chain L i = C at *
  go_enter Try.func75, Try.ntmps75
  go_wp2_with fail
  refine P.mono ?_
  clear P
  rintro e w1 ⟨v1, rfl, hS, hB⟩
  obtain ⟨a, c, rfl⟩ := hS.form
  obtain ⟨n, hn⟩ : ∃ n, n = C.length := ⟨_, rfl⟩
  have hn' := Lib.hid hn
  rw [← hn]
  clear hS h hi hn
  go_wp2
  go_ret
  exact ⟨by rw [← hn'.out]; rfl, hB⟩
end Wd
end Go.Proofs.Yteiejjmhmmkdhaa
