/- The package's mill: turn, Alloc, Scan, Shade, Flip. -/
import Derived.Test.YtjobeomadkaeoaaGMove
namespace Go.Proofs.Ytjobeomadkaeoaa
open Go.RowKit
set_option linter.unusedVariables false
namespace Wd
theorem MA.lt {w : World} {p n : Nat} {A : Mst} {F : Nat → Prop} (h : MA w p n A F) : ∀ k, F k → k < w.heap.size := by
  obtain ⟨q, gc, FR, cs, fs, ns, rfl, hS, hT, hC, hG, h1, h2⟩ := h
  exact hS.lt h1
theorem MA.keep {w w' : World} {p n : Nat} {A : Mst} {F : Nat → Prop} (h : MA w p n A F) (hk : ∀ k, F k → w'.heap[k]? = w.heap[k]?) : MA w' p n A F := by
  obtain ⟨q, gc, FR, cs, fs, ns, rfl, hS, hT, hC, hG, h1, h2⟩ := h
  exact ⟨q, gc, FR, cs, fs, ns, rfl, hS.same hk, hT, hC, hG, h1, h2⟩
theorem MA.below {w w' : World} {p n : Nat} {A : Mst} {F : Nat → Prop} (h : MA w p n A F) (b : Below w.heap.size w w') : MA w' p n A F := h.keep (fun k hk => b.block k (h.lt k hk))
theorem MA.good {w : World} {p n : Nat} {A : Mst} {F : Nat → Prop} (h : MA w p n A F) : Good n A ∧ n ≤ 512 := by
  obtain ⟨q, gc, FR, cs, fs, ns, rfl, hS, hT, hC, hG, h1, h2⟩ := h
  exact ⟨hG, h2⟩
/-- the first of row x becomes the last of row y -/
theorem gturn_k {w : World} {p n x y : Nat} {A : Mst} {F : Nat → Prop} (h : MA w p n A F) (hx : x < 4) (hy : y < 4) (hxy : x ≠ y) :
    Calls Try.prog 28 #[.pointer (some ⟨p, 0, none⟩), .int .i64 (x : Int), .int .i64 (y : Int)] w fun e w' => e = .returned (.int .i64 (firstR A x)) ∧ MA w' p n (firstA A x y) F ∧ Ch F w w' := by
  have hx4 : (x : Int) < 4 := by omega
  have hM := Lib.hid h
  obtain ⟨q, gc, FR, cs, fs, ns, rfl, hS, hT, hC, hG, h1, h2⟩ := h
  have hn := hS.cn x hx
  have hf := hS.cf x hx
  rw [hT.en x hx] at hn
  rcases hA : A x with _ | ⟨i, T⟩
  · have e1 : firstR A x = -1 := by unfold firstR; rw [hA]
    have e2 : firstA A x y = A := by unfold firstA; rw [hA]
    rw [e1, e2]
    rw [hA] at hn
    have hn' : w.cell? ⟨p, 6 + x, none⟩ = some (.int .i64 0) := hn
    clear e1 e2 hn hS hT hC hG h1 h2 hA
    go_enter Try.func28, Try.ntmps28
    go_wp2
    go_ret
    exact ⟨rfl, hM.out, Ch.refl _ _⟩
  · have hm : i ∈ A x := by rw [hA]; simp
    have hi := (good_mem hG).1 (mem_LL.2 ⟨x, hx, hm⟩)
    obtain ⟨k, rfl⟩ : ∃ k : Nat, i = k := ⟨i.toNat, by omega⟩
    have e1 : firstR A x = k := by unfold firstR; rw [hA]
    have e2 : firstA A x y = mvA A x y [] T k := by unfold firstA mvA; rw [hA]; rfl
    rw [e1, e2]
    have P0 := Lib.hid (gmove_c (P := []) hM.out hx hy hxy hA)
    rw [hT.ef x hx k T hA] at hf
    have n0 : (((A x).length : Int) == 0) = false := by rw [hA]; simp; omega
    generalize (A x).length = m at *
    clear e1 e2 hS hT hC hG h1 h2 hA hm hi
    go_enter Try.func28, Try.ntmps28
    go_wp2_with (first | (go_at_call 27; ((with_reducible refine P0.out.mono ?_); rintro e w' ⟨he, d1, d2⟩; subst he)))
    go_ret
    exact ⟨rfl, d1, d2⟩
theorem galloc_k {w : World} {p n : Nat} {A : Mst} {F : Nat → Prop} (h : MA w p n A F) :
    Calls Try.prog 15 #[.pointer (some ⟨p, 0, none⟩)] w fun e w' => e = .returned (.int .i64 (firstR A 0)) ∧ MA w' p n (firstA A 0 1) F ∧ Ch F w w' := by
  have P0 : Hid (Calls Try.prog 28 #[.pointer (some ⟨p, 0, none⟩), .int .i64 0, .int .i64 1] w fun e w' => e = .returned (.int .i64 (firstR A 0)) ∧ MA w' p n (firstA A 0 1) F ∧ Ch F w w') := Lib.hid (gturn_k h (x := 0) (y := 1) (by omega) (by omega) (by omega))
  clear h
  go_enter Try.func15, Try.ntmps15
  go_wp2_with (first | (go_at_call 28; ((with_reducible refine P0.out.mono ?_); rintro e w' ⟨he, d1, d2⟩; subst he)))
  go_ret
  exact ⟨rfl, d1, d2⟩
theorem gscan_k {w : World} {p n : Nat} {A : Mst} {F : Nat → Prop} (h : MA w p n A F) :
    Calls Try.prog 13 #[.pointer (some ⟨p, 0, none⟩)] w fun e w' => e = .returned (.int .i64 (firstR A 2)) ∧ MA w' p n (firstA A 2 1) F ∧ Ch F w w' := by
  have P0 : Hid (Calls Try.prog 28 #[.pointer (some ⟨p, 0, none⟩), .int .i64 2, .int .i64 1] w fun e w' => e = .returned (.int .i64 (firstR A 2)) ∧ MA w' p n (firstA A 2 1) F ∧ Ch F w w') := Lib.hid (gturn_k h (x := 2) (y := 1) (by omega) (by omega) (by omega))
  clear h
  go_enter Try.func13, Try.ntmps13
  go_wp2_with (first | (go_at_call 28; ((with_reducible refine P0.out.mono ?_); rintro e w' ⟨he, d1, d2⟩; subst he)))
  go_ret
  exact ⟨rfl, d1, d2⟩
theorem filter_mid {P Q : List Int} {i : Int} (h : (P ++ i :: Q).Nodup) : (P ++ i :: Q).filter (· ≠ i) = P ++ Q := by
  have n1 := List.nodup_append.1 h
  have hp : ∀ a ∈ P, decide (a ≠ i) = true := fun a ha => by simpa using n1.2.2 a ha i (by simp)
  have hq : ∀ a ∈ Q, decide (a ≠ i) = true := fun a ha => by
    have := (List.nodup_cons.1 n1.2.1).1
    have : a ≠ i := fun e => this (e ▸ ha)
    simpa using this
  rw [List.filter_append, List.filter_cons, List.filter_eq_self.2 hp, List.filter_eq_self.2 hq]
  simp
theorem gshade_k {w : World} {p n : Nat} {A : Mst} {F : Nat → Prop} (i : Int) (h : MA w p n A F) :
    Calls Try.prog 12 #[.pointer (some ⟨p, 0, none⟩), .int .i64 i] w fun e w' => e = .returned (.bool (decide (colorR A i = 3))) ∧ MA w' p n (shadeA A i) F ∧ Ch F w w' := by
  have P0 := Lib.hid (gcolor_k i h)
  by_cases hc : colorR A i = 3
  · have hm := colorR_in hc
    obtain ⟨P, Q, hA⟩ := List.append_of_mem hm
    have hG := h.good.1
    have hi := (good_mem hG).1 (mem_LL.2 ⟨3, by omega, hm⟩)
    obtain ⟨k, rfl⟩ : ∃ k : Nat, i = k := ⟨i.toNat, by omega⟩
    have e2 : shadeA A k = mvA A 3 2 P Q k := by
      unfold shadeA mvA
      rw [if_pos hc, hA, filter_mid (by rw [← hA]; exact nd3 hG)]
    rw [e2, decide_eq_true hc]
    have P1 : Hid (Calls Try.prog 27 #[.pointer (some ⟨p, 0, none⟩), .int .i64 (k : Int), .int .i64 2] w fun e w' => e = .returned (.tuple #[]) ∧ MA w' p n (mvA A 3 2 P Q k) F ∧ Ch F w w') := Lib.hid (gmove_c (y := 2) h (by omega) (by omega) (by omega) hA)
    rw [hc] at P0
    clear e2 hG hA hm hi hc h
    go_enter Try.func12, Try.ntmps12
    go_wp2_with (first | (go_at_call 16; ((with_reducible refine P0.out.mono ?_); rintro e w' ⟨rfl, hw'⟩; subst w')) | (go_at_call 27; ((with_reducible refine P1.out.mono ?_); rintro e w' ⟨he, d1, d2⟩; subst he)))
    go_ret
    exact ⟨rfl, d1, d2⟩
  · have e2 : shadeA A i = A := by unfold shadeA; rw [if_neg hc]
    have hn : (colorR A i != 3) = true := by simpa using hc
    have hn' : (colorR A i == 3) = false := by simpa using hc
    rw [e2, decide_eq_false hc]
    replace h := Lib.hid h
    generalize colorR A i = c at *
    clear e2 hc
    go_enter Try.func12, Try.ntmps12
    go_wp2_with (first | (go_at_call 16; ((with_reducible refine P0.out.mono ?_); rintro e w' ⟨rfl, hw'⟩; subst w')))
    go_ret
    exact ⟨rfl, h.out, Ch.refl _ _⟩
/-- the first k of row x are behind row y -/
def stepA (A : Mst) (x y k : Nat) : Mst := upA (upA A x ((A x).drop k)) y (A y ++ (A x).take k)
theorem stepA_0 (A : Mst) (x y : Nat) : stepA A x y 0 = A := by
  unfold stepA upA; funext j
  by_cases c : j = y
  · subst c; simp
  · by_cases d : j = x
    · subst d; simp; intro h; exact absurd h c
    · simp [c, d]
theorem stepA_x {A : Mst} {x y k : Nat} (hxy : x ≠ y) : stepA A x y k x = (A x).drop k := by simp [stepA, upA, hxy]
theorem stepA_y {A : Mst} {x y k : Nat} : stepA A x y k y = A y ++ (A x).take k := by simp [stepA, upA]
theorem stepA_z {A : Mst} {x y k z : Nat} (h1 : z ≠ x) (h2 : z ≠ y) : stepA A x y k z = A z := by simp [stepA, upA, h1, h2]
theorem stepA_s {A : Mst} {x y k : Nat} (hxy : x ≠ y) (hk : k < (A x).length) : firstA (stepA A x y k) x y = stepA A x y (k + 1) := by
  have e : stepA A x y k x = (A x)[k] :: (A x).drop (k + 1) := by rw [stepA_x hxy, List.drop_eq_getElem_cons hk]
  unfold firstA
  rw [e]
  simp only
  funext j
  rw [stepA_y]
  by_cases c : j = y
  · subst c; rw [stepA_y]; simp [upA]
  · by_cases d : j = x
    · subst d; rw [stepA_x hxy]; simp [upA, c]
    · rw [stepA_z d c]; simp only [upA, if_neg c, if_neg d]; exact stepA_z d c
theorem stepA_all {A : Mst} : stepA (stepA A 3 0 (A 3).length) 1 3 (A 1).length = upA (upA (upA A 0 (A 0 ++ A 3)) 3 (A 1)) 1 [] := by
  funext j
  have e1 : stepA A 3 0 (A 3).length 1 = A 1 := stepA_z (by omega) (by omega)
  have e3 : stepA A 3 0 (A 3).length 3 = [] := by rw [stepA_x (by omega)]; simp
  have e0 : stepA A 3 0 (A 3).length 0 = A 0 ++ A 3 := by rw [stepA_y]; simp
  by_cases c1 : j = 1
  · subst c1; rw [stepA_x (by omega), e1]; simp [upA]
  · by_cases c3 : j = 3
    · subst c3; rw [stepA_y, e1, e3]; simp [upA]
    · rw [stepA_z c1 c3]
      simp only [upA, if_neg c1, if_neg c3]
      by_cases c0 : j = 0
      · subst c0; rw [e0]; simp
      · rw [if_neg c0]; exact stepA_z c3 c0
theorem SL.ch {w w' : World} {e : TypeId} {v : Value} {L : List Int} {F : Nat → Prop} (h : SL w e v L) (c : Ch F w w') (hF : ∀ g, v.ownBlock = some g → ¬ F g) : SL w' e v L := by
  obtain ⟨h1, h2⟩ := h
  refine ⟨h1, ?_⟩
  rcases h2 with hh | ⟨g, cap, cur, e1, e2, e3, e4⟩
  · exact Or.inl hh
  · refine Or.inr ⟨g, cap, cur, e1, e2, ?_, e4⟩
    have hlt : g < w.heap.size := by
      apply Classical.byContradiction
      intro hn
      rw [Array.getElem?_eq_none (by omega)] at e3
      cases e3
    rw [c.block g hlt (hF g (by rw [e1]; rfl))]
    exact e3
/-- a mill while it is turned -/
structure TSt (w : World) (p n : Nat) (A : Mst) (F : Nat → Prop) (u : Value) (L : List Int) (wr : World) : Prop where
  ma : MA wr p n A F
  ch : Ch F w wr
  sl : SL wr 3 u L
theorem TSt.step {w wr w1 : World} {p n : Nat} {A A' : Mst} {F : Nat → Prop} {u : Value} {L : List Int} (h : TSt w p n A F u L wr) (hF : ∀ g, u.ownBlock = some g → ¬ F g) (hm : MA w1 p n A' F) (c : Ch F wr w1) : TSt w p n A' F u L w1 :=
  ⟨hm, h.ch.trans c, h.sl.ch c hF⟩
theorem Below.toCh {w w' : World} (F : Nat → Prop) (b : Below w.heap.size w w') : Ch F w w' := ⟨b.os, b.tape, b.output, b.size, fun k hk _ => b.block k hk⟩
theorem MA.count {w : World} {p n : Nat} {A : Mst} {F : Nat → Prop} (h : MA w p n A F) {k : Nat} (hk : k < 4) : w.cell? ⟨p, 6 + k, none⟩ = some (.int .i64 (A k).length) := by
  obtain ⟨q, gc, FR, cs, fs, ns, rfl, hS, hT, hC, hG, h1, h2⟩ := h
  rw [hS.cn k hk, hT.en k hk]
set_option maxHeartbeats 4000000 in
theorem gflip_k {w : World} {p n : Nat} {A : Mst} {F : Nat → Prop} (h : MA w p n A F) :
    Calls Try.prog 14 #[.pointer (some ⟨p, 0, none⟩)] w fun e w' => ∃ u, e = .returned u ∧ MA w' p n (flipA A) F ∧ Ch F w w' ∧ SL w' 3 u (flipR A) ∧ (∀ g, u.ownBlock = some g → w.heap.size ≤ g) := by
  have hn : w.cell? ⟨p, 8, none⟩ = some (.int .i64 (A 2).length) := h.count (k := 2) (by omega)
  by_cases h2 : A 2 = []
  · have e1 : flipR A = A 3 := by unfold flipR; rw [if_pos h2]
    have e2 : flipA A = stepA (stepA A 3 0 (A 3).length) 1 3 (A 1).length := by unfold flipA; rw [if_pos h2, stepA_all]
    rw [e1, e2]
    have hn' : w.cell? ⟨p, 8, none⟩ = some (.int .i64 0) := by rw [h2] at hn; exact hn
    have P0 := glist_k 3 h
    rw [show rowA A 3 = A 3 from rfl] at P0
    replace P0 := Lib.hid P0
    have l3 := good_le h.good.1 3 (by omega)
    have l1 := good_le h.good.1 1 (by omega)
    have n5 := h.good.2
    have hlt := Lib.hid h.lt
    have hB : ∀ wr, Below w.heap.size w wr → MA wr p n A F := fun wr hb => h.below hb
    replace hB := Lib.hid hB
    have s1 : ∀ k, k < (A 3).length → firstA (stepA A 3 0 k) 3 0 = stepA A 3 0 (k + 1) := fun k hk => stepA_s (by omega) hk
    have x1 : stepA A 3 0 (A 3).length 1 = A 1 := stepA_z (by omega) (by omega)
    have s2 : ∀ k, k < (A 1).length → firstA (stepA (stepA A 3 0 (A 3).length) 1 3 k) 1 3 = stepA (stepA A 3 0 (A 3).length) 1 3 (k + 1) := fun k hk => stepA_s (by omega) (by rw [x1]; exact hk)
    replace s1 := Lib.hid s1
    replace s2 := Lib.hid s2
    replace x1 := Lib.hid x1
    clear e1 e2 hn h
    go_enter Try.func14, Try.ntmps14
    go_wp2_with (first | (go_at_call 19; ((with_reducible refine P0.out.mono ?_); rintro e w1 ⟨u, he, d1, d2, d3⟩; subst he; obtain ⟨a, c, rfl⟩ := d1.form; have hF : Hid (∀ g, (Value.slice a (A 3).length c).ownBlock = some g → ¬ F g) := Lib.hid (fun g hg hf => by have := d3 g hg; have := hlt.out g hf; omega); have T0 : Hid (TSt w p n (stepA A 3 0 0) F (.slice a (A 3).length c) (A 3) w1) := Lib.hid ⟨by rw [stepA_0]; exact hB.out w1 d2, Below.toCh F d2, d1⟩; replace d3 := Lib.hid d3; clear d1 d2 hn' P0)))
    go_loopw [14] (fun i wr => ∃ k : Nat, k ≤ (A 3).length ∧ i = .int .i64 k ∧ TSt w p n (stepA A 3 0 k) F (.slice a (A 3).length c) (A 3) wr) (fun i _ => (A 3).length - (intOf i).toNat)
    case atStart => exact ⟨0, by omega, rfl, T0.out⟩
    case round =>
      obtain ⟨k, hk, rfl, hR⟩ := hrel
      by_cases hlt2 : k < (A 3).length
      · have hlt' : decide ((k : Int) < ((A 3).length : Int)) = true := by simp; omega
        have hw : IntKind.i64.wrap ((k : Int) + 1) = (k : Int) + 1 := by rw [IntKind.wrap_i64]; omega
        have P1 : Hid (Calls Try.prog 28 #[.pointer (some ⟨p, 0, none⟩), .int .i64 3, .int .i64 0] wr fun e w' => e = .returned (.int .i64 (firstR (stepA A 3 0 k) 3)) ∧ MA w' p n (firstA (stepA A 3 0 k) 3 0) F ∧ Ch F wr w') := Lib.hid (gturn_k hR.ma (x := 3) (y := 0) (by omega) (by omega) (by omega))
        replace hR := Lib.hid hR
        go_wp2_with (first | (go_at_call 28; ((with_reducible refine P1.out.mono ?_); rintro e w2 ⟨he, d1, d2⟩; subst he; rw [s1.out k hlt2] at d1; have hR2 := Lib.hid (hR.out.step hF.out d1 d2); clear d1 d2 P1 hR)))
        go_roundw
        case rel => exact ⟨k + 1, by omega, by go_num, hR2.out⟩
        case measure => simp [intOf]; omega
      · have e : k = (A 3).length := by omega
        subst e
        have hn1 : wr.cell? ⟨p, 7, none⟩ = some (.int .i64 (A 1).length) := by
          have := hR.ma.count (k := 1) (by omega)
          rw [x1.out] at this
          exact this
        have T1 : Hid (TSt w p n (stepA (stepA A 3 0 (A 3).length) 1 3 0) F (.slice a (A 3).length c) (A 3) wr) := Lib.hid ⟨by rw [stepA_0]; exact hR.ma, hR.ch, hR.sl⟩
        clear hR T0
        go_wp2
        clear hn1
        go_loopw [24] (fun i wr => ∃ k : Nat, k ≤ (A 1).length ∧ i = .int .i64 k ∧ TSt w p n (stepA (stepA A 3 0 (A 3).length) 1 3 k) F (.slice a (A 3).length c) (A 3) wr) (fun i _ => (A 1).length - (intOf i).toNat)
        case atStart => exact ⟨0, by omega, rfl, T1.out⟩
        case round =>
          obtain ⟨k, hk2, rfl, hR⟩ := hrel
          by_cases hlt3 : k < (A 1).length
          · have hlt' : decide ((k : Int) < ((A 1).length : Int)) = true := by simp; omega
            have hw : IntKind.i64.wrap ((k : Int) + 1) = (k : Int) + 1 := by rw [IntKind.wrap_i64]; omega
            have P1 : Hid (Calls Try.prog 28 #[.pointer (some ⟨p, 0, none⟩), .int .i64 1, .int .i64 3] _ fun e w' => e = .returned (.int .i64 (firstR (stepA (stepA A 3 0 (A 3).length) 1 3 k) 1)) ∧ MA w' p n (firstA (stepA (stepA A 3 0 (A 3).length) 1 3 k) 1 3) F ∧ Ch F _ w') := Lib.hid (gturn_k hR.ma (x := 1) (y := 3) (by omega) (by omega) (by omega))
            replace hR := Lib.hid hR
            go_wp2_with (first | (go_at_call 28; ((with_reducible refine P1.out.mono ?_); rintro e w2 ⟨he, d1, d2⟩; subst he; rw [s2.out k hlt3] at d1; have hR2 := Lib.hid (hR.out.step hF.out d1 d2); clear d1 d2 P1 hR)))
            go_roundw
            case rel => exact ⟨k + 1, by omega, by go_num, hR2.out⟩
            case measure => simp [intOf]; omega
          · have e : k = (A 1).length := by omega
            subst e
            replace hR := Lib.hid hR
            go_wp2
            go_ret
            exact ⟨_, rfl, hR.out.ma, hR.out.ch, hR.out.sl, d3.out⟩
  · have e1 : flipR A = [] := by unfold flipR; rw [if_neg h2]
    have e2 : flipA A = A := by unfold flipA; rw [if_neg h2]
    rw [e1, e2]
    have h2' : 0 < (A 2).length := List.length_pos_iff.2 h2
    have d1 : decide (((A 2).length : Int) > 0) = true := by simp; omega
    have d2 : decide (0 < ((A 2).length : Int)) = true := by simp; omega
    generalize (A 2).length = m at *
    replace h := Lib.hid h
    clear e1 e2
    go_enter Try.func14, Try.ntmps14
    go_wp2
    go_ret
    exact ⟨_, rfl, h.out, Ch.refl _ _, World.ownsRow_nil _ _ _ _, fun g hg => by cases hg⟩
end Wd
end Go.Proofs.Ytjobeomadkaeoaa
