/- Texts joined: GTurn, GNew, GKK, TLaw, TInv, TMap, TMath, UBase, UOps, UNew, UPut, UKK, HPure, HLeaf, HPub. -/
import Derived.Test.YtdaojohdmidemaaGreatJ8
import Derived.Test.YtdaojohdmidemaaGreatJ10
import Derived.OpenShut
import Derived.Deep.RegionHeld3
import Derived.Laws.Bits128
import Derived.Maps.Own
import Derived.Maps.OwnOps
import Derived.Maps.OwnSet
import Derived.DeepKeys4
import Derived.Deep.MidRow
import Derived.Carry
import Derived.Laws.BitsAllLaws
import Derived.Laws.BitsLemmas
import Derived.RowKit
import Derived.WalkKit
import Derived.WalkSpells
import Derived.WalkLawsBesides
import Derived.Handy
import Derived.Lib.Hide
import Derived.BigQuiet
/- The package's mill: turn, Alloc, Scan, Shade, Flip. -/
namespace Go.Proofs.YtdaojohdmidemaaGreat
set_option maxRecDepth 20000
open Go.RowKit
set_option linter.unusedVariables false
namespace Wd
theorem MA.lt {w : World} {p n : Nat} {A : Mst} {F : Nat → Prop} (h : MA w p n A F) : ∀ k, F k → k < w.heap.size := by
  obtain ⟨q, gc, FR, cs, fs, ns, rfl, hS, hT, hC, hG, h1, h2⟩ := h
  exact hS.lt h1
theorem MA.keep {w w' : World} {p n : Nat} {A : Mst} {F : Nat → Prop} (h : MA w p n A F) (hk : ∀ k, F k → w'.heap[k]? = w.heap[k]?) : MA w' p n A F := by
  obtain ⟨q, gc, FR, cs, fs, ns, rfl, hS, hT, hC, hG, h1, h2⟩ := h
  exact ⟨q, gc, FR, cs, fs, ns, rfl, hS.same hk, hT, hC, hG, h1, h2⟩
theorem MA.below {w w' : World} {p n : Nat} {A : Mst} {F : Nat → Prop} (h : MA w p n A F) (b : Below w.heap.size w w') : MA w' p n A F := h.keep (fun k hk => b.block k (h.lt k hk))
theorem MA.good {w : World} {p n : Nat} {A : Mst} {F : Nat → Prop} (h : MA w p n A F) : Good n A ∧ n ≤ 512 := by
  obtain ⟨q, gc, FR, cs, fs, ns, rfl, hS, hT, hC, hG, h1, h2⟩ := h
  exact ⟨hG, h2⟩
/-- the first of row x becomes the last of row y -/
theorem gturn_k {w : World} {p n x y : Nat} {A : Mst} {F : Nat → Prop} (h : MA w p n A F) (hx : x < 4) (hy : y < 4) (hxy : x ≠ y) :
    Calls Tryz.prog 87 #[.pointer (some ⟨p, 0, none⟩), .int .i64 (x : Int), .int .i64 (y : Int)] w fun e w' => e = .returned (.int .i64 (firstR A x)) ∧ MA w' p n (firstA A x y) F ∧ Ch F w w' := by
  have hx4 : (x : Int) < 4 := by omega
  have hM := Lib.hid h
  obtain ⟨q, gc, FR, cs, fs, ns, rfl, hS, hT, hC, hG, h1, h2⟩ := h
  have hn := hS.cn x hx
  have hf := hS.cf x hx
  rw [hT.en x hx] at hn
  rcases hA : A x with _ | ⟨i, T⟩
  · have e1 : firstR A x = -1 := by unfold firstR; rw [hA]
    have e2 : firstA A x y = A := by unfold firstA; rw [hA]
    rw [e1, e2]
    rw [hA] at hn
    have hn' : w.cell? ⟨p, 6 + x, none⟩ = some (.int .i64 0) := hn
    clear e1 e2 hn hS hT hC hG h1 h2 hA
    go_enter Tryz.func87, Tryz.ntmps87
    go_wp2
    go_ret
    exact ⟨rfl, hM.out, Ch.refl _ _⟩
  · have hm : i ∈ A x := by rw [hA]; simp
    have hi := (good_mem hG).1 (mem_LL.2 ⟨x, hx, hm⟩)
    obtain ⟨k, rfl⟩ : ∃ k : Nat, i = k := ⟨i.toNat, by omega⟩
    have e1 : firstR A x = k := by unfold firstR; rw [hA]
    have e2 : firstA A x y = mvA A x y [] T k := by unfold firstA mvA; rw [hA]; rfl
    rw [e1, e2]
    have P0 := Lib.hid (gmove_c (P := []) hM.out hx hy hxy hA)
    rw [hT.ef x hx k T hA] at hf
    have n0 : (((A x).length : Int) == 0) = false := by rw [hA]; simp; omega
    generalize (A x).length = m at *
    clear e1 e2 hS hT hC hG h1 h2 hA hm hi
    go_enter Tryz.func87, Tryz.ntmps87
    go_wp2_with (first | (go_at_call 102; ((with_reducible refine P0.out.mono ?_); rintro e w' ⟨he, d1, d2⟩; subst he)))
    go_ret
    exact ⟨rfl, d1, d2⟩
theorem galloc_k {w : World} {p n : Nat} {A : Mst} {F : Nat → Prop} (h : MA w p n A F) :
    Calls Tryz.prog 45 #[.pointer (some ⟨p, 0, none⟩)] w fun e w' => e = .returned (.int .i64 (firstR A 0)) ∧ MA w' p n (firstA A 0 1) F ∧ Ch F w w' := by
  have P0 : Hid (Calls Tryz.prog 87 #[.pointer (some ⟨p, 0, none⟩), .int .i64 0, .int .i64 1] w fun e w' => e = .returned (.int .i64 (firstR A 0)) ∧ MA w' p n (firstA A 0 1) F ∧ Ch F w w') := Lib.hid (gturn_k h (x := 0) (y := 1) (by omega) (by omega) (by omega))
  clear h
  go_enter Tryz.func45, Tryz.ntmps45
  go_wp2_with (first | (go_at_call 87; ((with_reducible refine P0.out.mono ?_); rintro e w' ⟨he, d1, d2⟩; subst he)))
  go_ret
  exact ⟨rfl, d1, d2⟩
theorem gscan_k {w : World} {p n : Nat} {A : Mst} {F : Nat → Prop} (h : MA w p n A F) :
    Calls Tryz.prog 64 #[.pointer (some ⟨p, 0, none⟩)] w fun e w' => e = .returned (.int .i64 (firstR A 2)) ∧ MA w' p n (firstA A 2 1) F ∧ Ch F w w' := by
  have P0 : Hid (Calls Tryz.prog 87 #[.pointer (some ⟨p, 0, none⟩), .int .i64 2, .int .i64 1] w fun e w' => e = .returned (.int .i64 (firstR A 2)) ∧ MA w' p n (firstA A 2 1) F ∧ Ch F w w') := Lib.hid (gturn_k h (x := 2) (y := 1) (by omega) (by omega) (by omega))
  clear h
  go_enter Tryz.func64, Tryz.ntmps64
  go_wp2_with (first | (go_at_call 87; ((with_reducible refine P0.out.mono ?_); rintro e w' ⟨he, d1, d2⟩; subst he)))
  go_ret
  exact ⟨rfl, d1, d2⟩
theorem filter_mid {P Q : List Int} {i : Int} (h : (P ++ i :: Q).Nodup) : (P ++ i :: Q).filter (· ≠ i) = P ++ Q := by
  have n1 := List.nodup_append.1 h
  have hp : ∀ a ∈ P, decide (a ≠ i) = true := fun a ha => by simpa using n1.2.2 a ha i (by simp)
  have hq : ∀ a ∈ Q, decide (a ≠ i) = true := fun a ha => by
    have := (List.nodup_cons.1 n1.2.1).1
    have : a ≠ i := fun e => this (e ▸ ha)
    simpa using this
  rw [List.filter_append, List.filter_cons, List.filter_eq_self.2 hp, List.filter_eq_self.2 hq]
  simp
theorem gshade_k {w : World} {p n : Nat} {A : Mst} {F : Nat → Prop} (i : Int) (h : MA w p n A F) :
    Calls Tryz.prog 97 #[.pointer (some ⟨p, 0, none⟩), .int .i64 i] w fun e w' => e = .returned (.bool (decide (colorR A i = 3))) ∧ MA w' p n (shadeA A i) F ∧ Ch F w w' := by
  have P0 := Lib.hid (gcolor_k i h)
  by_cases hc : colorR A i = 3
  · have hm := colorR_in hc
    obtain ⟨P, Q, hA⟩ := List.append_of_mem hm
    have hG := h.good.1
    have hi := (good_mem hG).1 (mem_LL.2 ⟨3, by omega, hm⟩)
    obtain ⟨k, rfl⟩ : ∃ k : Nat, i = k := ⟨i.toNat, by omega⟩
    have e2 : shadeA A k = mvA A 3 2 P Q k := by
      unfold shadeA mvA
      rw [if_pos hc, hA, filter_mid (by rw [← hA]; exact nd3 hG)]
    rw [e2, decide_eq_true hc]
    have P1 : Hid (Calls Tryz.prog 102 #[.pointer (some ⟨p, 0, none⟩), .int .i64 (k : Int), .int .i64 2] w fun e w' => e = .returned (.tuple #[]) ∧ MA w' p n (mvA A 3 2 P Q k) F ∧ Ch F w w') := Lib.hid (gmove_c (y := 2) h (by omega) (by omega) (by omega) hA)
    rw [hc] at P0
    clear e2 hG hA hm hi hc h
    go_enter Tryz.func97, Tryz.ntmps97
    go_wp2_with (first | (go_at_call 84; ((with_reducible refine P0.out.mono ?_); rintro e w' ⟨rfl, hw'⟩; subst w')) | (go_at_call 102; ((with_reducible refine P1.out.mono ?_); rintro e w' ⟨he, d1, d2⟩; subst he)))
    go_ret
    exact ⟨rfl, d1, d2⟩
  · have e2 : shadeA A i = A := by unfold shadeA; rw [if_neg hc]
    have hn : (colorR A i != 3) = true := by simpa using hc
    have hn' : (colorR A i == 3) = false := by simpa using hc
    rw [e2, decide_eq_false hc]
    replace h := Lib.hid h
    generalize colorR A i = c at *
    clear e2 hc
    go_enter Tryz.func97, Tryz.ntmps97
    go_wp2_with (first | (go_at_call 84; ((with_reducible refine P0.out.mono ?_); rintro e w' ⟨rfl, hw'⟩; subst w')))
    go_ret
    exact ⟨rfl, h.out, Ch.refl _ _⟩
/-- the first k of row x are behind row y -/
def stepA (A : Mst) (x y k : Nat) : Mst := upA (upA A x ((A x).drop k)) y (A y ++ (A x).take k)
theorem stepA_0 (A : Mst) (x y : Nat) : stepA A x y 0 = A := by
  unfold stepA upA; funext j
  by_cases c : j = y
  · subst c; simp
  · by_cases d : j = x
    · subst d; simp; intro h; exact absurd h c
    · simp [c, d]
theorem stepA_x {A : Mst} {x y k : Nat} (hxy : x ≠ y) : stepA A x y k x = (A x).drop k := by simp [stepA, upA, hxy]
theorem stepA_y {A : Mst} {x y k : Nat} : stepA A x y k y = A y ++ (A x).take k := by simp [stepA, upA]
theorem stepA_z {A : Mst} {x y k z : Nat} (h1 : z ≠ x) (h2 : z ≠ y) : stepA A x y k z = A z := by simp [stepA, upA, h1, h2]
theorem stepA_s {A : Mst} {x y k : Nat} (hxy : x ≠ y) (hk : k < (A x).length) : firstA (stepA A x y k) x y = stepA A x y (k + 1) := by
  have e : stepA A x y k x = (A x)[k] :: (A x).drop (k + 1) := by rw [stepA_x hxy, List.drop_eq_getElem_cons hk]
  unfold firstA
  rw [e]
  simp only
  funext j
  rw [stepA_y]
  by_cases c : j = y
  · subst c; rw [stepA_y]; simp [upA]
  · by_cases d : j = x
    · subst d; rw [stepA_x hxy]; simp [upA, c]
    · rw [stepA_z d c]; simp only [upA, if_neg c, if_neg d]; exact stepA_z d c
theorem stepA_all {A : Mst} : stepA (stepA A 3 0 (A 3).length) 1 3 (A 1).length = upA (upA (upA A 0 (A 0 ++ A 3)) 3 (A 1)) 1 [] := by
  funext j
  have e1 : stepA A 3 0 (A 3).length 1 = A 1 := stepA_z (by omega) (by omega)
  have e3 : stepA A 3 0 (A 3).length 3 = [] := by rw [stepA_x (by omega)]; simp
  have e0 : stepA A 3 0 (A 3).length 0 = A 0 ++ A 3 := by rw [stepA_y]; simp
  by_cases c1 : j = 1
  · subst c1; rw [stepA_x (by omega), e1]; simp [upA]
  · by_cases c3 : j = 3
    · subst c3; rw [stepA_y, e1, e3]; simp [upA]
    · rw [stepA_z c1 c3]
      simp only [upA, if_neg c1, if_neg c3]
      by_cases c0 : j = 0
      · subst c0; rw [e0]; simp
      · rw [if_neg c0]; exact stepA_z c3 c0
theorem SL.ch {w w' : World} {e : TypeId} {v : Value} {L : List Int} {F : Nat → Prop} (h : SL w e v L) (c : Ch F w w') (hF : ∀ g, v.ownBlock = some g → ¬ F g) : SL w' e v L := by
  obtain ⟨h1, h2⟩ := h
  refine ⟨h1, ?_⟩
  rcases h2 with hh | ⟨g, cap, cur, e1, e2, e3, e4⟩
  · exact Or.inl hh
  · refine Or.inr ⟨g, cap, cur, e1, e2, ?_, e4⟩
    have hlt : g < w.heap.size := by
      apply Classical.byContradiction
      intro hn
      rw [Array.getElem?_eq_none (by omega)] at e3
      cases e3
    rw [c.block g hlt (hF g (by rw [e1]; rfl))]
    exact e3
/-- a mill while it is turned -/
structure TSt (w : World) (p n : Nat) (A : Mst) (F : Nat → Prop) (u : Value) (L : List Int) (wr : World) : Prop where
  ma : MA wr p n A F
  ch : Ch F w wr
  sl : SL wr 3 u L
theorem TSt.step {w wr w1 : World} {p n : Nat} {A A' : Mst} {F : Nat → Prop} {u : Value} {L : List Int} (h : TSt w p n A F u L wr) (hF : ∀ g, u.ownBlock = some g → ¬ F g) (hm : MA w1 p n A' F) (c : Ch F wr w1) : TSt w p n A' F u L w1 :=
  ⟨hm, h.ch.trans c, h.sl.ch c hF⟩
theorem Below.toCh {w w' : World} (F : Nat → Prop) (b : Below w.heap.size w w') : Ch F w w' := ⟨b.os, b.tape, b.output, b.size, fun k hk _ => b.block k hk⟩
theorem MA.count {w : World} {p n : Nat} {A : Mst} {F : Nat → Prop} (h : MA w p n A F) {k : Nat} (hk : k < 4) : w.cell? ⟨p, 6 + k, none⟩ = some (.int .i64 (A k).length) := by
  obtain ⟨q, gc, FR, cs, fs, ns, rfl, hS, hT, hC, hG, h1, h2⟩ := h
  rw [hS.cn k hk, hT.en k hk]
set_option maxHeartbeats 4000000 in
theorem gflip_k {w : World} {p n : Nat} {A : Mst} {F : Nat → Prop} (h : MA w p n A F) :
    Calls Tryz.prog 68 #[.pointer (some ⟨p, 0, none⟩)] w fun e w' => ∃ u, e = .returned u ∧ MA w' p n (flipA A) F ∧ Ch F w w' ∧ SL w' 3 u (flipR A) ∧ (∀ g, u.ownBlock = some g → w.heap.size ≤ g) := by
  have hn : w.cell? ⟨p, 8, none⟩ = some (.int .i64 (A 2).length) := h.count (k := 2) (by omega)
  by_cases h2 : A 2 = []
  · have e1 : flipR A = A 3 := by unfold flipR; rw [if_pos h2]
    have e2 : flipA A = stepA (stepA A 3 0 (A 3).length) 1 3 (A 1).length := by unfold flipA; rw [if_pos h2, stepA_all]
    rw [e1, e2]
    have hn' : w.cell? ⟨p, 8, none⟩ = some (.int .i64 0) := by rw [h2] at hn; exact hn
    have P0 := glist_k 3 h
    rw [show rowA A 3 = A 3 from rfl] at P0
    replace P0 := Lib.hid P0
    have l3 := good_le h.good.1 3 (by omega)
    have l1 := good_le h.good.1 1 (by omega)
    have n5 := h.good.2
    have hlt := Lib.hid h.lt
    have hB : ∀ wr, Below w.heap.size w wr → MA wr p n A F := fun wr hb => h.below hb
    replace hB := Lib.hid hB
    have s1 : ∀ k, k < (A 3).length → firstA (stepA A 3 0 k) 3 0 = stepA A 3 0 (k + 1) := fun k hk => stepA_s (by omega) hk
    have x1 : stepA A 3 0 (A 3).length 1 = A 1 := stepA_z (by omega) (by omega)
    have s2 : ∀ k, k < (A 1).length → firstA (stepA (stepA A 3 0 (A 3).length) 1 3 k) 1 3 = stepA (stepA A 3 0 (A 3).length) 1 3 (k + 1) := fun k hk => stepA_s (by omega) (by rw [x1]; exact hk)
    replace s1 := Lib.hid s1
    replace s2 := Lib.hid s2
    replace x1 := Lib.hid x1
    clear e1 e2 hn h
    go_enter Tryz.func68, Tryz.ntmps68
    go_wp2_with (first | (go_at_call 99; ((with_reducible refine P0.out.mono ?_); rintro e w1 ⟨u, he, d1, d2, d3⟩; subst he; obtain ⟨a, c, rfl⟩ := d1.form; have hF : Hid (∀ g, (Value.slice a (A 3).length c).ownBlock = some g → ¬ F g) := Lib.hid (fun g hg hf => by have := d3 g hg; have := hlt.out g hf; omega); have T0 : Hid (TSt w p n (stepA A 3 0 0) F (.slice a (A 3).length c) (A 3) w1) := Lib.hid ⟨by rw [stepA_0]; exact hB.out w1 d2, Below.toCh F d2, d1⟩; replace d3 := Lib.hid d3; clear d1 d2 hn' P0)))
    go_loopw [14] (fun i wr => ∃ k : Nat, k ≤ (A 3).length ∧ i = .int .i64 k ∧ TSt w p n (stepA A 3 0 k) F (.slice a (A 3).length c) (A 3) wr) (fun i _ => (A 3).length - (intOf i).toNat)
    case atStart => exact ⟨0, by omega, rfl, T0.out⟩
    case round =>
      obtain ⟨k, hk, rfl, hR⟩ := hrel
      by_cases hlt2 : k < (A 3).length
      · have hlt' : decide ((k : Int) < ((A 3).length : Int)) = true := by simp; omega
        have hw : IntKind.i64.wrap ((k : Int) + 1) = (k : Int) + 1 := by rw [IntKind.wrap_i64]; omega
        have P1 : Hid (Calls Tryz.prog 87 #[.pointer (some ⟨p, 0, none⟩), .int .i64 3, .int .i64 0] wr fun e w' => e = .returned (.int .i64 (firstR (stepA A 3 0 k) 3)) ∧ MA w' p n (firstA (stepA A 3 0 k) 3 0) F ∧ Ch F wr w') := Lib.hid (gturn_k hR.ma (x := 3) (y := 0) (by omega) (by omega) (by omega))
        replace hR := Lib.hid hR
        go_wp2_with (first | (go_at_call 87; ((with_reducible refine P1.out.mono ?_); rintro e w2 ⟨he, d1, d2⟩; subst he; rw [s1.out k hlt2] at d1; have hR2 := Lib.hid (hR.out.step hF.out d1 d2); clear d1 d2 P1 hR)))
        go_roundw
        case rel => exact ⟨k + 1, by omega, by go_num, hR2.out⟩
        case measure => simp [intOf]; omega
      · have e : k = (A 3).length := by omega
        subst e
        have hn1 : wr.cell? ⟨p, 7, none⟩ = some (.int .i64 (A 1).length) := by
          have := hR.ma.count (k := 1) (by omega)
          rw [x1.out] at this
          exact this
        have T1 : Hid (TSt w p n (stepA (stepA A 3 0 (A 3).length) 1 3 0) F (.slice a (A 3).length c) (A 3) wr) := Lib.hid ⟨by rw [stepA_0]; exact hR.ma, hR.ch, hR.sl⟩
        clear hR T0
        go_wp2
        clear hn1
        go_loopw [24] (fun i wr => ∃ k : Nat, k ≤ (A 1).length ∧ i = .int .i64 k ∧ TSt w p n (stepA (stepA A 3 0 (A 3).length) 1 3 k) F (.slice a (A 3).length c) (A 3) wr) (fun i _ => (A 1).length - (intOf i).toNat)
        case atStart => exact ⟨0, by omega, rfl, T1.out⟩
        case round =>
          obtain ⟨k, hk2, rfl, hR⟩ := hrel
          by_cases hlt3 : k < (A 1).length
          · have hlt' : decide ((k : Int) < ((A 1).length : Int)) = true := by simp; omega
            have hw : IntKind.i64.wrap ((k : Int) + 1) = (k : Int) + 1 := by rw [IntKind.wrap_i64]; omega
            have P1 : Hid (Calls Tryz.prog 87 #[.pointer (some ⟨p, 0, none⟩), .int .i64 1, .int .i64 3] _ fun e w' => e = .returned (.int .i64 (firstR (stepA (stepA A 3 0 (A 3).length) 1 3 k) 1)) ∧ MA w' p n (firstA (stepA (stepA A 3 0 (A 3).length) 1 3 k) 1 3) F ∧ Ch F _ w') := Lib.hid (gturn_k hR.ma (x := 1) (y := 3) (by omega) (by omega) (by omega))
            replace hR := Lib.hid hR
            go_wp2_with (first | (go_at_call 87; ((with_reducible refine P1.out.mono ?_); rintro e w2 ⟨he, d1, d2⟩; subst he; rw [s2.out k hlt3] at d1; have hR2 := Lib.hid (hR.out.step hF.out d1 d2); clear d1 d2 P1 hR)))
            go_roundw
            case rel => exact ⟨k + 1, by omega, by go_num, hR2.out⟩
            case measure => simp [intOf]; omega
          · have e : k = (A 1).length := by omega
            subst e
            replace hR := Lib.hid hR
            go_wp2
            go_ret
            exact ⟨_, rfl, hR.out.ma, hR.out.ch, hR.out.sl, d3.out⟩
  · have e1 : flipR A = [] := by unfold flipR; rw [if_neg h2]
    have e2 : flipA A = A := by unfold flipA; rw [if_neg h2]
    rw [e1, e2]
    have h2' : 0 < (A 2).length := List.length_pos_iff.2 h2
    have d1 : decide (((A 2).length : Int) > 0) = true := by simp; omega
    have d2 : decide (0 < ((A 2).length : Int)) = true := by simp; omega
    generalize (A 2).length = m at *
    replace h := Lib.hid h
    clear e1 e2
    go_enter Tryz.func68, Tryz.ntmps68
    go_wp2
    go_ret
    exact ⟨_, rfl, h.out, Ch.refl _ _, World.ownsRow_nil _ _ _ _, fun g hg => by cases hg⟩
end Wd
end Go.Proofs.YtdaojohdmidemaaGreat

/- The package's mill: a new one. -/
namespace Go.Proofs.YtdaojohdmidemaaGreat
set_option maxRecDepth 20000
open Go.RowKit
set_option linter.unusedVariables false
namespace Wd
theorem gnew_none {w : World} (n : Int) (hn : n < 1 ∨ 512 < n) :
    Calls Tryz.prog 40 #[.int .i64 n] w fun e w' => e = .returned (.pointer .none) ∧ w' = w := by
  rcases hn with hn | hn
  · have d1 : decide (n < 1) = true := by simp; omega
    go_enter Tryz.func40, Tryz.ntmps40
    go_wp2
    go_ret
    exact ⟨rfl, rfl⟩
  · have d1 : decide (n < 1) = false := by simp; omega
    have d2 : decide (n > 512) = true := by simp; omega
    have d3 : decide (512 < n) = true := by simp; omega
    go_enter Tryz.func40, Tryz.ntmps40
    go_wp2
    go_ret
    exact ⟨rfl, rfl⟩
theorem made_ms {W : World} {p q gc n : Nat} {FR : Nat → Prop} {Z : Array Value} (hZ : Z = madeCells #[.int .i64 0] n)
    (hp : W.heap[p]? = some (.cells #[.pointer (some ⟨q, 0, none⟩), .slice (some ⟨gc, 0, none⟩) n n, .int .i64 0, .int .i64 0, .int .i64 0, .int .i64 0, .int .i64 0, .int .i64 0, .int .i64 0, .int .i64 0] 119 (0, 0)))
    (hg : W.heap[gc]? = some (.cells Z 3 (0, 0))) (hR : RA W q n (rng n) FR) (e : p ≠ gc) (ep : ¬ FR p) (eg : ¬ FR gc) :
    MS W p q gc n FR (rng n) (fun _ => 0) (fun _ => 0) (fun _ => 0) := by
  have hz : ∀ k, k < n → Z[k]? = some (.int .i64 0) := by
    intro k hk
    have : (madeCells #[Value.int .i64 0] n).toList[k]? = some (.int .i64 0) := by rw [toList_madeCells_one]; simp [hk]
    rw [hZ, ← Array.getElem?_toList]
    exact this
  refine ⟨by simp [World.cell?, hp], by simp [World.cell?, hp], fun k hk => ?_, fun k hk => ?_, fun k hk => ?_, fun k => by simp [World.frozen?, hp], fun k => by simp [World.frozen?, hg], hR, e, ep, eg⟩
  · rcases (show k = 0 ∨ k = 1 ∨ k = 2 ∨ k = 3 by omega) with rfl | rfl | rfl | rfl <;> simp [World.cell?, hp]
  · rcases (show k = 0 ∨ k = 1 ∨ k = 2 ∨ k = 3 by omega) with rfl | rfl | rfl | rfl <;> simp [World.cell?, hp]
  · simp [World.cell?, hg, hz k hk]
theorem LL_start (n : Nat) : LL (startA n) = rng n := by unfold LL startA; simp [upA]
theorem start_ma {W : World} {p q gc n : Nat} {FR : Nat → Prop} (h : MS W p q gc n FR (rng n) (fun _ => 0) (fun _ => 0) (upd (fun _ => 0) 0 n)) (h1 : 1 ≤ n) (h2 : n ≤ 512) : MA W p n (startA n) (FM p gc FR) := by
  refine ⟨q, gc, FR, _, _, _, rfl, by rw [LL_start]; exact h, ⟨fun k hk i T e => ?_, fun k hk => ?_⟩, fun k hk => ?_, good_start n, h1, h2⟩
  · by_cases c : k = 0
    · subst c
      simp only [startA, upA, if_true] at e
      obtain ⟨m, rfl⟩ : ∃ m, n = m + 1 := ⟨n - 1, by omega⟩
      unfold rng at e
      rw [List.range_succ_eq_map] at e
      exact (List.cons.inj e).1
    · simp only [startA, upA, if_neg c] at e
      cases e
  · by_cases c : k = 0
    · subst c
      rw [upd_same]
      simp [startA, upA, rng_len]
    · rw [upd_ne _ _ c]
      simp [startA, upA, c]
  · refine (good_color (good_start n) (x := 0) (by omega) ?_).symm
    simp only [startA, upA, if_true]
    unfold rng
    exact List.mem_map.2 ⟨k, by simpa using hk, rfl⟩
set_option maxHeartbeats 4000000 in
theorem gnew_k {w : World} (n : Nat) (h1 : 1 ≤ n) (h2 : n ≤ 512) :
    Calls Tryz.prog 40 #[.int .i64 n] w fun e w' => ∃ p F, e = .returned (.pointer (some ⟨p, 0, none⟩)) ∧ MA w' p n (startA n) F ∧ (∀ k, F k → w.heap.size ≤ k) ∧ Below w.heap.size w w' := by
  have d1 : decide ((n : Int) < 1) = false := by simp; omega
  have d2 : decide (512 < (n : Int)) = false := by simp; omega
  have d3 : decide ((n : Int) > 512) = false := by simp; omega
  obtain ⟨i0, hi0, hz0, hz1, hz2⟩ := info_parts info3
  obtain ⟨Z, hZ, hmk⟩ : ∃ Z : Array Value, Z = madeCells #[.int .i64 0] n ∧ ∀ w, (Instr.makeSlice 56 (.int .i64 (n : Int)) (.int .i64 (n : Int))).run Tryz.prog w = .ok (.slice (some ⟨w.heap.size, 0, none⟩) n n) (w.alloc (.cells Z 3)) := by
    refine ⟨_, rfl, fun w => ?_⟩
    have := run_make (P := Tryz.prog) w 56 3 i0 (.int .i64 0) Tryz.underlying56 hi0 hz0 .i64 .i64 n n (by omega) (by omega) (by rw [hz2]; omega) (by omega)
    rw [hz1] at this
    simpa [Value.cells] using this
  replace hZ := Lib.hid hZ
  go_enter Tryz.func40, Tryz.ntmps40
  go_wp2
  go_region_with (first | (go_at_call 85; ((with_reducible refine (new_k n h1 (by omega)).mono ?_); rintro e w1 ⟨q, FR, he, r1, r2, r3⟩; subst he)))
  · have hlt := r1.lt
    have hlt' := hlt
    have b1 : Below w.heap.size w w1 := (Below.refl w.heap.size w).drew.trans r3
    have bs := b1.size
    have b : Below w.heap.size w ((w1.alloc (.cells Z 3)).alloc (.cells #[.pointer (some ⟨q, 0, none⟩), .slice (some ⟨w1.heap.size, 0, none⟩) n n, .int .i64 0, .int .i64 0, .int .i64 0, .int .i64 0, .int .i64 0, .int .i64 0, .int .i64 0, .int .i64 0] 119)) := (b1.alloc b1.size _).alloc (by simp; omega) _
    have r2' : ∀ k, FR k → w.heap.size ≤ k := r2
    have s1 : (w1.alloc (.cells Z 3)).heap.size = w1.heap.size + 1 := by simp
    have hp : ((w1.alloc (.cells Z 3)).alloc (.cells #[.pointer (some ⟨q, 0, none⟩), .slice (some ⟨w1.heap.size, 0, none⟩) n n, .int .i64 0, .int .i64 0, .int .i64 0, .int .i64 0, .int .i64 0, .int .i64 0, .int .i64 0, .int .i64 0] 119)).heap[w1.heap.size + 1]? = some (.cells #[.pointer (some ⟨q, 0, none⟩), .slice (some ⟨w1.heap.size, 0, none⟩) n n, .int .i64 0, .int .i64 0, .int .i64 0, .int .i64 0, .int .i64 0, .int .i64 0, .int .i64 0, .int .i64 0] 119 (0, 0)) := by rw [← s1]; exact heap_alloc_new _ _
    have hg : ((w1.alloc (.cells Z 3)).alloc (.cells #[.pointer (some ⟨q, 0, none⟩), .slice (some ⟨w1.heap.size, 0, none⟩) n n, .int .i64 0, .int .i64 0, .int .i64 0, .int .i64 0, .int .i64 0, .int .i64 0, .int .i64 0, .int .i64 0] 119)).heap[w1.heap.size]? = some (.cells Z 3 (0, 0)) := by rw [Below.heap_alloc _ _ _ (by simp)]; exact heap_alloc_new _ _
    have hR : RA ((w1.alloc (.cells Z 3)).alloc (.cells #[.pointer (some ⟨q, 0, none⟩), .slice (some ⟨w1.heap.size, 0, none⟩) n n, .int .i64 0, .int .i64 0, .int .i64 0, .int .i64 0, .int .i64 0, .int .i64 0, .int .i64 0, .int .i64 0] 119)) q n (rng n) FR := r1.same (fun k hk => by have := hlt k hk; rw [Below.heap_alloc _ _ _ (by simp; omega), Below.heap_alloc _ _ _ this])
    clear s1
    have S0 := made_ms hZ.out hp hg hR (by omega) (fun h => by have := hlt _ h; omega) (fun h => by have := hlt' _ h; omega)
    have far : ∀ k, FM (w1.heap.size + 1) (w1.heap.size) FR k → w.heap.size ≤ k := by
      rintro k (rfl | rfl | hk)
      · omega
      · omega
      · exact r2' k hk
    clear hp hg hR hlt hlt' r1 r2 r2' r3 b1 hZ hmk bs
    generalize ((w1.alloc (.cells Z 3)).alloc (.cells #[.pointer (some ⟨q, 0, none⟩), .slice (some ⟨w1.heap.size, 0, none⟩) n n, .int .i64 0, .int .i64 0, .int .i64 0, .int .i64 0, .int .i64 0, .int .i64 0, .int .i64 0, .int .i64 0] 119)) = W at b S0 ⊢
    have n0 : W.cell? ⟨w1.heap.size + 1, 6, none⟩ = some (.int .i64 0) := S0.cn 0 (by omega)
    have z0 := S0.zp 6
    replace b := Lib.hid b
    replace S0 := Lib.hid S0
    replace far := Lib.hid far
    generalize w1.heap.size + 1 = p at *
    go_wp2
    go_ret
    refine ⟨p, ?_⟩
    exact ⟨rfl, _, start_ma (S0.out.setN (k := 0) (by omega) n) h1 h2, far.out, below_ch b.out ((Ch.refl _ _).set _ (Or.inl rfl) _) far.out⟩
  · have hlt := r1.lt
    have r2' : ∀ k, FR k → w.heap.size + 1 ≤ k := fun k hk => by have := r2 k hk; simpa using this
    have b0 : Below w.heap.size w (w.drew.alloc (.cells Z 3)) := (Below.refl w.heap.size w).drew.alloc (Nat.le_refl _) _
    have b1 : Below w.heap.size w w1 := b0.trans (r3.mono b0.size)
    have bs : w.heap.size + 1 ≤ w1.heap.size := by have := r3.size; simpa using this
    have b : Below w.heap.size w (w1.alloc (.cells #[.pointer (some ⟨q, 0, none⟩), .slice (some ⟨w.heap.size, 0, none⟩) n n, .int .i64 0, .int .i64 0, .int .i64 0, .int .i64 0, .int .i64 0, .int .i64 0, .int .i64 0, .int .i64 0] 119)) := b1.alloc b1.size _
    have hp : (w1.alloc (.cells #[.pointer (some ⟨q, 0, none⟩), .slice (some ⟨w.heap.size, 0, none⟩) n n, .int .i64 0, .int .i64 0, .int .i64 0, .int .i64 0, .int .i64 0, .int .i64 0, .int .i64 0, .int .i64 0] 119)).heap[w1.heap.size]? = some (.cells #[.pointer (some ⟨q, 0, none⟩), .slice (some ⟨w.heap.size, 0, none⟩) n n, .int .i64 0, .int .i64 0, .int .i64 0, .int .i64 0, .int .i64 0, .int .i64 0, .int .i64 0, .int .i64 0] 119 (0, 0)) := heap_alloc_new _ _
    have hg : (w1.alloc (.cells #[.pointer (some ⟨q, 0, none⟩), .slice (some ⟨w.heap.size, 0, none⟩) n n, .int .i64 0, .int .i64 0, .int .i64 0, .int .i64 0, .int .i64 0, .int .i64 0, .int .i64 0, .int .i64 0] 119)).heap[w.heap.size]? = some (.cells Z 3 (0, 0)) := by
      rw [Below.heap_alloc _ _ _ (by omega), r3.block _ (by simp)]; exact heap_alloc_new w.drew _
    have hR : RA (w1.alloc (.cells #[.pointer (some ⟨q, 0, none⟩), .slice (some ⟨w.heap.size, 0, none⟩) n n, .int .i64 0, .int .i64 0, .int .i64 0, .int .i64 0, .int .i64 0, .int .i64 0, .int .i64 0, .int .i64 0] 119)) q n (rng n) FR := r1.same (fun k hk => by have := hlt k hk; rw [Below.heap_alloc _ _ _ this])
    have hs : w.drew.heap.size = w.heap.size := rfl
    have hlt' : ∀ k, FR k → w.heap.size + 1 ≤ k := r2'
    replace r2' : ∀ k, FR k → w.heap.size ≤ k := fun k hk => by have := r2' k hk; omega
    have S0 := made_ms hZ.out hp hg hR (by omega) (fun h => by have := hlt _ h; omega) (fun h => by have := hlt' _ h; omega)
    have far : ∀ k, FM (w1.heap.size) (w.heap.size) FR k → w.heap.size ≤ k := by
      rintro k (rfl | rfl | hk)
      · omega
      · omega
      · exact r2' k hk
    clear hp hg hR hlt hlt' r1 r2 r2' r3 b1 hZ hmk bs
    generalize (w1.alloc (.cells #[.pointer (some ⟨q, 0, none⟩), .slice (some ⟨w.heap.size, 0, none⟩) n n, .int .i64 0, .int .i64 0, .int .i64 0, .int .i64 0, .int .i64 0, .int .i64 0, .int .i64 0, .int .i64 0] 119)) = W at b S0 ⊢
    have n0 : W.cell? ⟨w1.heap.size, 6, none⟩ = some (.int .i64 0) := S0.cn 0 (by omega)
    have z0 := S0.zp 6
    replace b := Lib.hid b
    replace S0 := Lib.hid S0
    replace far := Lib.hid far
    generalize w1.heap.size = p at *
    go_wp2
    go_ret
    refine ⟨p, ?_⟩
    exact ⟨rfl, _, start_ma (S0.out.setN (k := 0) (by omega) n) h1 h2, far.out, below_ch b.out ((Ch.refl _ _).set _ (Or.inl rfl) _) far.out⟩
end Wd
end Go.Proofs.YtdaojohdmidemaaGreat

/- The package's mill keeps what the laws ask of a mill. -/
namespace Go.Proofs.YtdaojohdmidemaaGreat
set_option maxRecDepth 20000
open Go.RowKit
set_option linter.unusedVariables false
namespace Wd
theorem newer_same (F : Nat → Prop) (s : Nat) : Newer F F s := fun _ h => Or.inl h
theorem below_eq {w w' : World} (e : w' = w) : Below w.heap.size w w' := e ▸ Below.refl _ _
theorem KM : MillK MA where
  lt := fun h => h.lt
  keep := fun h hk => h.keep hk
  alloc := fun h => (galloc_k h).mono (by rintro e w' ⟨rfl, d1, d2⟩; exact ⟨_, rfl, d1, d2, newer_same _ _⟩)
  scan := fun h => (gscan_k h).mono (by rintro e w' ⟨rfl, d1, d2⟩; exact ⟨_, rfl, d1, d2, newer_same _ _⟩)
  shade := fun i h _ _ => (gshade_k i h).mono (by rintro e w' ⟨rfl, d1, d2⟩; exact ⟨_, rfl, d1, d2, newer_same _ _⟩)
  flip := fun h => (gflip_k h).mono (by
    rintro e w' ⟨u, rfl, d1, d2, d3, d4⟩
    exact ⟨u, _, rfl, d1, d2, newer_same _ _, d3, fun g hg => ⟨d4 g hg, fun hF => by have := h.lt g hF; have := d4 g hg; omega⟩⟩)
  color := fun i h _ _ => (gcolor_k i h).mono (by rintro e w' ⟨rfl, h⟩; exact ⟨rfl, below_eq h⟩)
  count := fun c h _ _ => (gcount_k c h).mono (by rintro e w' ⟨rfl, h⟩; exact ⟨rfl, below_eq h⟩)
  list := fun c h _ _ => (glist_k c h).mono (by rintro e w' ⟨u, rfl, d1, d2, d3⟩; exact ⟨u, rfl, d1, d2, d3⟩)
  new := fun n h1 h2 => gnew_k n h1 h2
  none := fun n _ _ h => (gnew_none n h).mono (by rintro e w' ⟨rfl, h⟩; exact ⟨rfl, below_eq h⟩)
end Wd
end Go.Proofs.YtdaojohdmidemaaGreat

/- What the laws ask of a table of identities, whoever keeps it. -/
namespace Go.Proofs.YtdaojohdmidemaaGreat
set_option maxRecDepth 20000
open Go.RowKit
set_option linter.unusedVariables false
namespace Wd
abbrev TAt := World → Nat → Tst → (Nat → Prop) → Prop
/-- what the laws ask of the package's table: 'TA w p T F': at block p lies a table, its identities' places are T; it lies in the blocks F -/
structure TableK (TA : TAt) : Prop where
  lt : ∀ {w p T F}, TA w p T F → ∀ k, F k → k < w.heap.size
  keep : ∀ {w w' p T F}, TA w p T F → (∀ k, F k → w'.heap[k]? = w.heap[k]?) → TA w' p T F
  take : ∀ {w p T F} (pl : Pl), TA w p T F → plOk pl → Calls Tryz.prog 47 #[.pointer (some ⟨p, 0, none⟩), plV pl] w fun e w' => ∃ F', e = .returned (.int .i64 (takeI T pl)) ∧ TA w' p (takeT T pl) F' ∧ Ch F w w' ∧ Newer F F' w.heap.size
  give : ∀ {w p T F} (i : Int), TA w p T F → (-9223372036854775808 ≤ i) → (i ≤ 9223372036854775807) → Calls Tryz.prog 70 #[.pointer (some ⟨p, 0, none⟩), .int .i64 i] w fun e w' => ∃ F', e = .returned (.bool (hasT T i)) ∧ TA w' p (giveT T i) F' ∧ Ch F w w' ∧ Newer F F' w.heap.size
  swap : ∀ {w p T F} (i j : Int), TA w p T F → (-9223372036854775808 ≤ i) → (i ≤ 9223372036854775807) → (-9223372036854775808 ≤ j) → (j ≤ 9223372036854775807) → Calls Tryz.prog 57 #[.pointer (some ⟨p, 0, none⟩), .int .i64 i, .int .i64 j] w fun e w' => ∃ F', e = .returned (.bool (swapB T i j)) ∧ TA w' p (swapT T i j) F' ∧ Ch F w w' ∧ Newer F F' w.heap.size
  at' : ∀ {w p T F} (i : Int), TA w p T F → (-9223372036854775808 ≤ i) → (i ≤ 9223372036854775807) → Calls Tryz.prog 83 #[.pointer (some ⟨p, 0, none⟩), .int .i64 i] w fun e w' => e = .returned (.tuple #[plV (atP T i), .bool (hasT T i)]) ∧ Below w.heap.size w w'
  of : ∀ {w p T F} (pl : Pl), TA w p T F → plOk pl → Calls Tryz.prog 69 #[.pointer (some ⟨p, 0, none⟩), plV pl] w fun e w' => e = .returned (.tuple #[.int .i64 (ofI T pl), .bool (ofR T pl).isSome]) ∧ Below w.heap.size w w'
  ids : ∀ {w p T F}, TA w p T F → Calls Tryz.prog 82 #[.pointer (some ⟨p, 0, none⟩)] w fun e w' => ∃ u, e = .returned u ∧ SL w' 3 u (idsT T) ∧ Below w.heap.size w w' ∧ (∀ g, u.ownBlock = some g → w.heap.size ≤ g)
  new : ∀ {w}, Calls Tryz.prog 38 #[] w fun e w' => ∃ p F, e = .returned (.pointer (some ⟨p, 0, none⟩)) ∧ TA w' p noT F ∧ (∀ k, F k → w.heap.size ≤ k) ∧ Below w.heap.size w w'
section
variable {TA : TAt} {w0 wr wA w1 w2 : World} {p b : Nat} {T T' : Tst} {F F' : Nat → Prop}
end
/-- a table of the package's, of the call's own -/
structure PT (TA : TAt) (w0 wr : World) (p : Nat) (T : Tst) (F : Nat → Prop) : Prop where
  ta : TA wr p T F
  bel : Below w0.heap.size w0 wr
  fF : ∀ k, F k → w0.heap.size ≤ k
section
variable {TA : TAt} {w0 wr wA w1 : World} {p : Nat} {T T' : Tst} {F F' : Nat → Prop}
theorem PT.keep (K : TableK TA) (h : PT TA w0 wr p T F) (g : Below wr.heap.size wr wA) : PT TA w0 wA p T F :=
  ⟨K.keep h.ta (fun k hk => g.block k (K.lt h.ta k hk)), h.bel.trans (g.mono h.bel.size), h.fF⟩
theorem PT.step (h : PT TA w0 wr p T F) (hm : TA w1 p T' F') (c : Ch F wr w1) (hn : Newer F F' wr.heap.size) : PT TA w0 w1 p T' F' := by
  refine ⟨hm, below_ch h.bel c h.fF, fun k hk => ?_⟩
  rcases hn k hk with h' | h'
  · exact h.fF k h'
  · exact Nat.le_trans h.bel.size h'
end
theorem idsT_len (T : Tst) : (idsT T).length ≤ 1024 := idsK_len T 1024
end Wd
end Go.Proofs.YtdaojohdmidemaaGreat

/- What holds of a table of identities at any time; places in memory of the call's own. -/
namespace Go.Proofs.YtdaojohdmidemaaGreat
set_option maxRecDepth 20000
open Go.RowKit
set_option linter.unusedVariables false
namespace Wd
/-- a table of the package's, and places in memory of the call's own -/
structure PB (TA : TAt) (w0 wr : World) (p : Nat) (T : Tst) (F : Nat → Prop) (L : List (Nat × Pl)) : Prop where
  pt : PT TA w0 wr p T F
  bx : ∀ e, e ∈ L → wr.cell? ⟨e.1, 0, none⟩ = some (.int .i64 e.2.1) ∧ wr.cell? ⟨e.1, 1, none⟩ = some (.int .i64 e.2.2) ∧ ¬ F e.1
section
variable {TA : TAt} {w0 wr wA w1 : World} {p : Nat} {T T' : Tst} {F F' : Nat → Prop} {L : List (Nat × Pl)}
theorem PB.of (h : PT TA w0 wr p T F) : PB TA w0 wr p T F [] := ⟨h, fun e he => by cases he⟩
theorem PB.keep (K : TableK TA) (h : PB TA w0 wr p T F L) (g : Below wr.heap.size wr wA) : PB TA w0 wA p T F L := by
  refine ⟨h.pt.keep K g, fun e he => ?_⟩
  obtain ⟨c0, c1, nf⟩ := h.bx e he
  exact ⟨(g.cell (World.block_lt_of_cell? wr _ c0)).trans c0, (g.cell (World.block_lt_of_cell? wr _ c1)).trans c1, nf⟩
theorem PB.step (h : PB TA w0 wr p T F L) (hm : TA w1 p T' F') (c : Ch F wr w1) (hn : Newer F F' wr.heap.size) : PB TA w0 w1 p T' F' L := by
  refine ⟨h.pt.step hm c hn, fun e he => ?_⟩
  obtain ⟨c0, c1, nf⟩ := h.bx e he
  have hlt : e.1 < wr.heap.size := World.block_lt_of_cell? wr _ c0
  have hb := c.block e.1 hlt nf
  refine ⟨(World.cell?_of_block (a := ⟨e.1, 0, none⟩) hb).trans c0, (World.cell?_of_block (a := ⟨e.1, 1, none⟩) hb).trans c1, fun hF => ?_⟩
  rcases hn e.1 hF with h' | h'
  · exact nf h'
  · omega
theorem PB.made (K : TableK TA) (h : PB TA w0 wr p T F L) (q : Pl) (t : TypeId) : PB TA w0 (wr.alloc (.cells #[.int .i64 q.1, .int .i64 q.2] t)) p T F ((wr.heap.size, q) :: L) := by
  have h1 := h.keep K ((Below.refl wr.heap.size wr).alloc (Nat.le_refl _) (.cells #[.int .i64 q.1, .int .i64 q.2] t))
  refine ⟨h1.pt, fun e he => ?_⟩
  rcases List.mem_cons.1 he with rfl | he
  · exact ⟨by simp, by simp, fun hF => by have := K.lt h.pt.ta _ hF; simp at this⟩
  · exact h1.bx e he
end
theorem atP_has {T : Tst} {i : Int} (h : hasT T i = true) : ∃ k : Nat, i = k ∧ k < 1024 ∧ (∃ p, T k = some p ∧ atP T i = p) := by
  obtain ⟨k, rfl, hk, _, p, hp⟩ := hasT_some h
  refine ⟨k, rfl, hk, p, hp, ?_⟩
  unfold atP
  rw [if_pos h, show (k : Int).toNat = k by simp, hp]
  rfl
theorem atP_no {T : Tst} {i : Int} (h : hasT T i = false) : atP T i = (0, 0) := by
  unfold atP
  rw [if_neg (by simp [h])]
end Wd
end Go.Proofs.YtdaojohdmidemaaGreat

/- A map of places to identities, of the call's own: what a look, a store and a delete do to it. -/
namespace Go.Proofs.YtdaojohdmidemaaGreat
set_option maxRecDepth 20000
open Go.RowKit Go.Maps
set_option linter.unusedVariables false
namespace Wd
theorem rowPlU : (83 : TypeId) < Tryz.prog.types.size := of_decide_eq_true (by kernel_rfl)
theorem widePlU : (match Tryz.prog.underlying 83 with | some (.array _ _) | some (.struct _) => true | _ => false) = true := by rw [Tryz.underlying83]
theorem lawPlU : WideMaps.KeyLaw Tryz.prog 83 := deep_law_laid laidOutP (m := 2) (by omega) rowPlU (by kernel_rfl) widePlU
theorem keyedPlU : Keyed Tryz.prog 83 := Keyed.of_law lawPlU
theorem cellsPlU : Tryz.prog.cellsOf 83 = 2 := by kernel_rfl
theorem keyTypePlU : Tryz.prog.keyType 83 = true := by kernel_rfl
theorem key_plU {p : Pl} (hp : plOk p) : keyOf Tryz.prog 83 (plV p) = some (keyL p) := by
  obtain ⟨a, c⟩ := p
  have wa : (Lit.int .i64 a).wf = true := WalkArith.wf_i64 ⟨hp.1.1, hp.1.2⟩
  have wc : (Lit.int .i64 c).wf = true := WalkArith.wf_i64 ⟨hp.2.1, hp.2.2⟩
  obtain ⟨m, hm⟩ : ∃ m, Tryz.prog.types.size = m + 1 := ⟨Tryz.prog.types.size - 1, by have h : 0 < Tryz.prog.types.size := Nat.lt_of_le_of_lt (Nat.zero_le _) rowPlU; omega⟩
  unfold keyOf
  rw [Tryz.underlying83]
  simp only
  rw [if_pos (by simp [keyTypePlU, plV, Value.formed, Tryz.underlying83, cellsPlU]), hm]
  unfold Program.keyLits
  rw [Tryz.underlying83]
  simp [plV, Value.cells, cellsPlU, cellsI1, Program.keyLits, Tryz.underlying3, wa, wc, keyL]
theorem keyL_injU {p q : Pl} (hp : plOk p) (hq : plOk q) (h : keyL p = keyL q) : p = q := by
  have h1 := key_plU hp
  have h2 := key_plU hq
  rw [h] at h1
  have := keyedPlU.inj h1 h2
  obtain ⟨a, c⟩ := p
  obtain ⟨b, d⟩ := q
  unfold plV at this
  simp only [Value.agg.injEq, Array.mk.injEq, List.cons.injEq, Value.int.injEq, true_and, and_true] at this
  exact Prod.ext this.1 this.2
theorem zeroIP (w : World) : (zeroValue 3).run Tryz.prog w = .ok (.int .i64 0) w := by
  obtain ⟨i0, hi0, hz0, hz1, hz2⟩ := info_parts info3
  simp [zeroValue, typeInfo, hi0, hz0]
/-- a map of places: M p is the number that p has; there are c entries -/
def MapP (w : World) (b c : Nat) (M : Pl → Option Int) : Prop := ∃ D : DataW Nat, w.ownsMap Tryz.prog 83 (plainElem Tryz.prog 3) b c D ∧ size D = c ∧
  ∀ p, plOk p → has D (keyL p) = (M p).isSome ∧ D.atKey (keyL p) (.lit (.int .i64 0)) = .lit (.int .i64 ((M p).getD 0))
def updM (M : Pl → Option Int) (p : Pl) (v : Option Int) : Pl → Option Int := fun q => if q = p then v else M q
section
variable {w w1 : World} {b c : Nat} {M : Pl → Option Int}
theorem MapP.made (w : World) : MapP (w.alloc (.map #[] 0)) w.heap.size 0 (fun _ => none) := ⟨.map [], World.ownsMap_made _ _ _ _, rfl, fun p _ => ⟨rfl, rfl⟩⟩
theorem MapP.lt (h : MapP w b c M) : b < w.heap.size := by
  obtain ⟨D, hown, _⟩ := h
  exact hown.lt
theorem MapP.same (h : MapP w b c M) (hb : w1.heap[b]? = w.heap[b]?) : MapP w1 b c M := by
  obtain ⟨D, ⟨es, clock, h1, h2⟩, hD⟩ := h
  exact ⟨D, ⟨es, clock, hb.trans h1, h2⟩, hD⟩
/-- 'id, in := m[p]' -/
theorem MapP.look_ok (h : MapP w b c M) {p : Pl} (hp : plOk p) : (Instr.lookup 109 (.map (some b)) (plV p) true).run Tryz.prog w = .ok (.tuple #[.int .i64 ((M p).getD 0), .bool (M p).isSome]) w := by
  obtain ⟨D, hown, _, hD⟩ := h
  obtain ⟨v, ps, hrun, hv⟩ := hown.look_ok keyedPlU Tryz.underlying109 (zeroIP w) (plainElem_int Tryz.underlying3 (by decide)) (key_plU hp)
  rw [(hD p hp).1] at hrun
  rw [(hD p hp).2] at hv
  obtain ⟨x, rfl, hc, _⟩ := plainElem_int_inv Tryz.underlying3 hv
  simp only [Prod.mk.injEq] at hc
  have : x = (M p).getD 0 := by
    have := hc.1
    injection this with h1
    injection h1 with _ h2
    exact h2.symm
  rw [hrun, this]
/-- 'm[p]' -/
theorem MapP.look (h : MapP w b c M) {p : Pl} (hp : plOk p) : (Instr.lookup 109 (.map (some b)) (plV p) false).run Tryz.prog w = .ok (.int .i64 ((M p).getD 0)) w := by
  obtain ⟨D, hown, _, hD⟩ := h
  obtain ⟨x, hrun, hat, _⟩ := hown.lookup_int keyedPlU Tryz.underlying109 Tryz.underlying3 (zeroIP w) (key_plU hp)
  rw [(hD p hp).2] at hat
  have : x = (M p).getD 0 := by
    injection hat with h1
    injection h1 with _ h2
    exact h2.symm
  rw [hrun, this]
theorem own_sizeU {D : DataW Nat} {n : Nat} (h : w.ownsMap Tryz.prog 83 (plainElem Tryz.prog 3) b n D) : w.ownsMap Tryz.prog 83 (plainElem Tryz.prog 3) b (size D) D := by
  obtain ⟨es, clock, hb, F, hs, rfl⟩ := h
  exact ⟨es, clock, hb, F, by simp [size, length_sorted], rfl⟩
/-- 'm[p] = v' -/
theorem MapP.put (h : MapP w b c M) (hc : c < maxLen) {p : Pl} (hp : plOk p) {v : Int} (hv : (Lit.int .i64 v).wf = true) : ∃ w', (Instr.mapUpdate 109 (.map (some b)) (plV p) (.int .i64 v)).run Tryz.prog w = .ok () w' ∧ MapP w' b (if (M p).isSome then c else c + 1) (updM M p (some v)) ∧ w.grownBy w' (some b) ∧ w'.heap.size = w.heap.size := by
  obtain ⟨D, hown, hsz, hD⟩ := h
  have hk := key_plU hp
  obtain ⟨w', hrun, h1, h2⟩ := hown.update keyedPlU Tryz.underlying109 hc hk (plainElem_int Tryz.underlying3 hv)
  obtain ⟨w2, hrun2, _, es, clock, es', clock', hb0, hw2⟩ := hown.store keyedPlU Tryz.underlying109 hc hk (plainElem_int Tryz.underlying3 hv)
  have ew : w' = w2 := by
    rw [hrun] at hrun2
    injection hrun2
  have hsize : w'.heap.size = w.heap.size := by rw [ew, hw2]; simp [ChangeMaps.setBlock]
  have es2 : size (D.put (keyL p) (.lit (.int .i64 v))) = if (M p).isSome then c else c + 1 := by rw [size_put (hown.tidy keyedPlU), (hD p hp).1, hsz]
  have h3 := own_sizeU h1
  rw [es2] at h3
  refine ⟨w', hrun, ⟨_, h3, es2, fun q hq => ?_⟩, h2, hsize⟩
  · by_cases e : q = p
    · subst e
      rw [has_put_same hown.isMap (keyedPlU.key hk), atKey_put_same hown.isMap (keyedPlU.key hk)]
      simp [updM]
    · have hne : keyL q ≠ keyL p := fun h => e (keyL_injU hq hp h)
      rw [has_put_other hne, atKey_put_other hne, (hD q hq).1, (hD q hq).2]
      simp [updM, e]
/-- 'delete(m, p)' -/
theorem MapP.del (h : MapP w b c M) {p : Pl} (hp : plOk p) (ty : TypeId) : ∃ w', (Builtin.delete_ #[109, 83] ty #[.map (some b), plV p]).run Tryz.prog w = .ok (.tuple #[]) w' ∧ MapP w' b (if (M p).isSome then c - 1 else c) (updM M p none) ∧ w.grownBy w' (some b) ∧ w'.heap.size = w.heap.size := by
  obtain ⟨D, hown, hsz, hD⟩ := h
  have hk := key_plU hp
  obtain ⟨w', hrun, h1, es, clock, es', clock', hb0, hw'⟩ := hown.drop keyedPlU Tryz.underlying109 hk ty
  have hg : w.grownBy w' (some b) := by
    rw [hw']
    exact ⟨rfl, rfl, rfl, by simp [ChangeMaps.setBlock], fun k hk hne => by
      show (w.heap.setIfInBounds b _)[k]? = _
      rw [Array.getElem?_setIfInBounds_ne (by intro e; subst e; exact hne rfl)]⟩
  have hsize : w'.heap.size = w.heap.size := by rw [hw']; simp [ChangeMaps.setBlock]
  have es2 : size (D.del (keyL p)) = if (M p).isSome then c - 1 else c := by
    have := size_del (k := keyL p) (hown.tidy keyedPlU)
    rw [(hD p hp).1, hsz] at this
    split <;> rename_i hc <;> simp only [hc] at this <;> simp at this <;> omega
  have h3 := own_sizeU h1
  rw [es2] at h3
  refine ⟨w', hrun, ⟨_, h3, es2, fun q hq => ?_⟩, hg, hsize⟩
  · by_cases e : q = p
    · subst e
      rw [has_del_same, atKey_del_same]
      simp [updM]
    · have hne : keyL q ≠ keyL p := fun h => e (keyL_injU hq hp h)
      rw [has_del_other hne, atKey_del_other hne, (hD q hq).1, (hD q hq).2]
      simp [updM, e]
end
end Wd
end Go.Proofs.YtdaojohdmidemaaGreat

/- A map from places to identities says what the identities' places say. -/
namespace Go.Proofs.YtdaojohdmidemaaGreat
set_option maxRecDepth 20000
open Go.RowKit Go.Maps
set_option linter.unusedVariables false
namespace Wd
/-- whose a place is, as a map has it -/
def mapOf (T : Tst) : Pl → Option Int := fun q => (ofR T q).map (fun (k : Nat) => (k : Int))
theorem ofR_iff {T : Tst} (hI : Inv T) {q : Pl} {k : Nat} : ofR T q = some k ↔ T k = some q := by
  constructor
  · intro h
    have := (firstIn_some h).2.2.1
    simpa using this
  · exact ofR_at hI
theorem mapOf_some {T : Tst} (hI : Inv T) {q : Pl} {k : Nat} (h : T k = some q) : mapOf T q = some (k : Int) := by unfold mapOf; rw [ofR_at hI h]; rfl
theorem mapOf_none {T : Tst} {q : Pl} (h : ∀ k, T k ≠ some q) : mapOf T q = none := by
  have e : ofR T q = none := by
    cases g : ofR T q with
    | none => rfl
    | some k => exact absurd (by simpa using (firstIn_some g).2.2.1) (h k)
  unfold mapOf; rw [e]; rfl
theorem mapOf_out {T : Tst} (hI : Inv T) {q : Pl} (h : mapOf T q = none) : ∀ k, T k ≠ some q := by
  intro k hk
  rw [mapOf_some hI hk] at h
  cases h
theorem mapOf_getD (T : Tst) (q : Pl) : (mapOf T q).getD 0 = ofI T q ∧ (mapOf T q).isSome = (ofR T q).isSome := by
  unfold mapOf ofI
  cases ofR T q <;> exact ⟨rfl, rfl⟩
/-- two maps of places are one, if each identity's place is found in both, and no other -/
theorem mapOf_ext {T : Tst} (hI : Inv T) {M : Pl → Option Int} (h1 : ∀ k q, T k = some q → M q = some (k : Int)) (h2 : ∀ q, (∀ k, T k ≠ some q) → M q = none) : mapOf T = M := by
  funext q
  by_cases h : ∃ k, T k = some q
  · obtain ⟨k, hk⟩ := h
    rw [mapOf_some hI hk, h1 k q hk]
  · have h' : ∀ k, T k ≠ some q := fun k hk => h ⟨k, hk⟩
    rw [mapOf_none h', h2 q h']
theorem mapOf_take {T : Tst} (hI : Inv T) {p : Pl} {k : Nat} (hp : plOk p) (ho : ofR T p = none) (hf : freeR T = some k) : mapOf (updT T k (some p)) = updM (mapOf T) p (some (k : Int)) := by
  obtain ⟨k1, k2, hk⟩ := freeR_at hf
  have hn := ofR_none hI ho
  have hI' := hI.upd k1 k2 hp (fun j _ => hn j)
  refine mapOf_ext hI' (fun j q hj => ?_) (fun q hq => ?_)
  · unfold updT at hj
    unfold updM
    by_cases c : j = k
    · rw [if_pos c] at hj; cases hj; rw [if_pos rfl, c]
    · rw [if_neg c] at hj
      rw [if_neg (by rintro rfl; exact hn j hj)]
      exact mapOf_some hI hj
  · unfold updM
    by_cases c : q = p
    · subst c; exact absurd (by unfold updT; rw [if_pos rfl]) (hq k)
    · rw [if_neg c]
      exact mapOf_none (fun j hj => by
        by_cases d : j = k
        · subst d; rw [hk] at hj; cases hj
        · exact hq j (by unfold updT; rw [if_neg d]; exact hj))
theorem mapOf_give {T : Tst} (hI : Inv T) {p : Pl} {k : Nat} (hk : T k = some p) : mapOf (updT T k none) = updM (mapOf T) p none := by
  refine mapOf_ext (hI.del k) (fun j q hj => ?_) (fun q hq => ?_)
  · unfold updT at hj
    unfold updM
    by_cases c : j = k
    · rw [if_pos c] at hj; cases hj
    · rw [if_neg c] at hj
      rw [if_neg (by rintro rfl; exact c (hI.inj j k _ hj hk))]
      exact mapOf_some hI hj
  · unfold updM
    by_cases c : q = p
    · rw [if_pos c]
    · rw [if_neg c]
      exact mapOf_none (fun j hj => by
        by_cases d : j = k
        · subst d; rw [hk] at hj; cases hj; exact c rfl
        · exact hq j (by unfold updT; rw [if_neg d]; exact hj))
theorem Inv.swap {T : Tst} (hI : Inv T) {x y : Nat} {p q : Pl} (hx : T x = some p) (hy : T y = some q) : Inv (updT (updT T x (some q)) y (some p)) := by
  obtain ⟨x1, x2, hp⟩ := hI.bd x p hx
  obtain ⟨y1, y2, hq⟩ := hI.bd y q hy
  by_cases c : x = y
  · subst c
    have : q = p := by rw [hx] at hy; cases hy; rfl
    subst this
    have e : updT (updT T x (some q)) x (some q) = T := by
      funext j; unfold updT
      by_cases d : j = x
      · subst d; rw [if_pos rfl, hx]
      · rw [if_neg d, if_neg d]
    rw [e]; exact hI
  · have at' : ∀ j r, updT (updT T x (some q)) y (some p) j = some r → (j = y ∧ r = p) ∨ (j = x ∧ r = q) ∨ (j ≠ y ∧ j ≠ x ∧ T j = some r) := by
      intro j r h
      unfold updT at h
      by_cases d : j = y
      · rw [if_pos d] at h; cases h; exact Or.inl ⟨d, rfl⟩
      · rw [if_neg d] at h
        by_cases e : j = x
        · rw [if_pos e] at h; cases h; exact Or.inr (Or.inl ⟨e, rfl⟩)
        · rw [if_neg e] at h; exact Or.inr (Or.inr ⟨d, e, h⟩)
    have npq : p ≠ q := by rintro rfl; exact c (hI.inj x y _ hx hy)
    refine ⟨fun j r h => ?_, fun i j r hi hj => ?_⟩
    · rcases at' j r h with ⟨rfl, rfl⟩ | ⟨rfl, rfl⟩ | ⟨_, _, h⟩
      · exact ⟨y1, y2, hp⟩
      · exact ⟨x1, x2, hq⟩
      · exact hI.bd j r h
    · rcases at' i r hi with ⟨rfl, rfl⟩ | ⟨rfl, rfl⟩ | ⟨a1, a2, hi'⟩ <;> rcases at' j _ hj with ⟨rfl, e⟩ | ⟨rfl, e⟩ | ⟨b1, b2, hj'⟩
      · rfl
      · exact absurd e npq
      · exact absurd (hI.inj _ _ _ hj' hx) b2
      · exact absurd e.symm npq
      · rfl
      · exact absurd (hI.inj _ _ _ hj' hy) b1
      · rw [e] at hi'; exact absurd (hI.inj _ _ _ hi' hx) a2
      · rw [e] at hi'; exact absurd (hI.inj _ _ _ hi' hy) a1
      · exact hI.inj _ _ _ hi' hj'
theorem mapOf_swap {T : Tst} (hI : Inv T) {x y : Nat} {p q : Pl} (hx : T x = some p) (hy : T y = some q) : mapOf (updT (updT T x (some q)) y (some p)) = updM (updM (mapOf T) q (some (x : Int))) p (some (y : Int)) := by
  have hI' := hI.swap hx hy
  refine mapOf_ext hI' (fun j r h => ?_) (fun r h => ?_)
  · unfold updM
    unfold updT at h
    by_cases d : j = y
    · rw [if_pos d] at h; cases h; rw [if_pos rfl, d]
    · rw [if_neg d] at h
      by_cases e : j = x
      · rw [if_pos e] at h; cases h
        rw [if_neg (by rintro rfl; subst e; exact d (hI.inj _ _ _ hx hy)), if_pos rfl, e]
      · rw [if_neg e] at h
        rw [if_neg (by rintro rfl; exact e (hI.inj _ _ _ h hx)), if_neg (by rintro rfl; exact d (hI.inj _ _ _ h hy))]
        exact mapOf_some hI h
  · unfold updM
    have hp : r ≠ p := by rintro rfl; exact h y (by unfold updT; rw [if_pos rfl])
    have hq : r ≠ q := by
      rintro rfl
      by_cases d : x = y
      · subst d; rw [hx] at hy; cases hy; exact hp rfl
      · exact h x (by unfold updT; rw [if_neg d, if_pos rfl])
    rw [if_neg hp, if_neg hq]
    exact mapOf_none (fun j hj => by
      by_cases d : j = y
      · subst d; rw [hy] at hj; cases hj; exact hq rfl
      · by_cases e : j = x
        · subst e; rw [hx] at hj; cases hj; exact hp rfl
        · exact h j (by unfold updT; rw [if_neg d, if_neg e]; exact hj))
/-- how many identities there are, behind a change of one -/
theorem idsK_upd (T : Tst) (k : Nat) (v : Option Pl) : ∀ j, (idsK (updT T k v) j).length + (if k < j ∧ inR T k = true then 1 else 0) = (idsK T j).length + (if k < j ∧ v.isSome = true then 1 else 0) := by
  intro j
  induction j with
  | zero => rfl
  | succ j ih =>
    have e : ∀ T : Tst, (idsK T (j + 1)).length = (idsK T j).length + (if inR T j = true then 1 else 0) := by
      intro T
      cases h : inR T j
      · rw [idsK_out h]; simp
      · rw [idsK_in h]; simp
    rw [e, e]
    by_cases c : j = k
    · subst c
      have e1 : inR (updT T j v) j = v.isSome := by simp [inR, updT]
      rw [e1]
      rw [if_neg (show ¬ (j < j ∧ inR T j = true) by omega), if_neg (show ¬ (j < j ∧ v.isSome = true) by omega)] at ih
      have l1 : (j < j + 1) := by omega
      simp only [l1, true_and]
      omega
    · have e1 : inR (updT T k v) j = inR T j := by simp [inR, updT, c]
      rw [e1]
      have l1 : (k < j + 1) ↔ (k < j) := by omega
      simp only [l1]
      omega
theorem ids_take {T : Tst} {k : Nat} {p : Pl} (hk : k < 1024) (h : T k = none) : (idsT (updT T k (some p))).length = (idsT T).length + 1 := by
  have g : ∀ n, k < n → (idsK (updT T k (some p)) n).length = (idsK T n).length + 1 := by
    intro n hn
    have := idsK_upd T k (some p) n
    rw [if_neg (by unfold inR; rw [h]; simp), if_pos ⟨hn, rfl⟩] at this
    exact this
  exact g _ hk
theorem ids_give {T : Tst} {k : Nat} {p : Pl} (hk : k < 1024) (h : T k = some p) : (idsT (updT T k none)).length + 1 = (idsT T).length := by
  have g : ∀ n, k < n → (idsK (updT T k none) n).length + 1 = (idsK T n).length := by
    intro n hn
    have := idsK_upd T k none n
    rw [if_pos ⟨hn, by unfold inR; rw [h]; rfl⟩, if_neg (by simp)] at this
    exact this
  exact g _ hk
theorem ids_put {T : Tst} {k : Nat} {p q : Pl} (hk : k < 1024) (h : T k = some p) : (idsT (updT T k (some q))).length = (idsT T).length := by
  have g : ∀ n, k < n → (idsK (updT T k (some q)) n).length = (idsK T n).length := by
    intro n hn
    have := idsK_upd T k (some q) n
    rw [if_pos ⟨hn, by unfold inR; rw [h]; rfl⟩, if_pos ⟨hn, rfl⟩] at this
    omega
  exact g _ hk
end Wd
end Go.Proofs.YtdaojohdmidemaaGreat

/- The landed table, as it lies; has, leastFree. -/
namespace Go.Proofs.YtdaojohdmidemaaGreat
open Go.RowKit Go.Maps
set_option linter.unusedVariables false
set_option maxRecDepth 20000
namespace Wd
/-- the landed table at block b, its map at block m: who is there (T tells), the places (P), the map (M, of c entries) -/
structure TP (w : World) (b m : Nat) (T : Tst) (P : Nat → Pl) (c : Nat) (M : Pl → Option Int) : Prop where
  ci : ∀ k, k < 1024 → w.cell? ⟨b, k, none⟩ = some (.bool (inR T k))
  cs : ∀ k, k < 1024 → w.cell? ⟨b, 1024 + k * 2, none⟩ = some (.int .i64 (P k).1)
  cl : ∀ k, k < 1024 → w.cell? ⟨b, 1024 + k * 2 + 1, none⟩ = some (.int .i64 (P k).2)
  cm : w.cell? ⟨b, 3072, none⟩ = some (.map (some m))
  z : ∀ k, w.frozen? ⟨b, k, none⟩ = false
  ne : m ≠ b
  mp : MapP w m c M
def updP (P : Nat → Pl) (k : Nat) (p : Pl) : Nat → Pl := fun j => if j = k then p else P j
def FT (b m : Nat) : Nat → Prop := fun k => k = b ∨ k = m
section
variable {w w1 : World} {b m c c' : Nat} {T : Tst} {P : Nat → Pl} {M M' : Pl → Option Int}
theorem TP.lt (h : TP w b m T P c M) : b < w.heap.size := World.block_lt_of_cell? w _ (h.ci 0 (by decide))
theorem TP.same (h : TP w b m T P c M) (hb : w1.heap[b]? = w.heap[b]?) (hm : w1.heap[m]? = w.heap[m]?) : TP w1 b m T P c M :=
  ⟨fun k hk => (World.cell?_of_block (a := ⟨b, k, none⟩) hb).trans (h.ci k hk), fun k hk => (World.cell?_of_block (a := ⟨b, 1024 + k * 2, none⟩) hb).trans (h.cs k hk), fun k hk => (World.cell?_of_block (a := ⟨b, 1024 + k * 2 + 1, none⟩) hb).trans (h.cl k hk), (World.cell?_of_block (a := ⟨b, 3072, none⟩) hb).trans h.cm, fun k => (World.frozen?_of_block (a := ⟨b, k, none⟩) hb).trans (h.z k), h.ne, h.mp.same hm⟩
theorem TP.keep (h : TP w b m T P c M) (g : Below w.heap.size w w1) : TP w1 b m T P c M := h.same (g.block b h.lt) (g.block m h.mp.lt)
theorem TP.drew (h : TP w b m T P c M) : TP w.drew b m T P c M := h.same rfl rfl
theorem heap_set {o : Nat} {x : Value} (hne : m ≠ b) : (w.setCell ⟨b, o, none⟩ x).heap[m]? = w.heap[m]? := Below.heap_setCell _ _ _ _ hne
/-- it is said whether an identity is there -/
theorem TP.tell (h : TP w b m T P c M) {k : Nat} (hk : k < 1024) (v : Option Pl) : TP (w.setCell ⟨b, k, none⟩ (.bool v.isSome)) b m (updT T k v) P c M := by
  have far : ∀ {o : Nat}, k ≠ o → (w.setCell ⟨b, k, none⟩ (.bool v.isSome)).cell? ⟨b, o, none⟩ = w.cell? ⟨b, o, none⟩ := fun hne => World.cell?_setCell_other _ _ _ _ (by intro e; injection e with _ h2; exact hne h2)
  refine ⟨fun j hj => ?_, fun j hj => (far (by omega)).trans (h.cs j hj), fun j hj => (far (by omega)).trans (h.cl j hj), (far (by omega)).trans h.cm, fun j => (World.frozen?_setCell _ _ _ _).trans (h.z j), h.ne, h.mp.same (heap_set h.ne)⟩
  by_cases e : j = k
  · subst e
    rw [World.cell?_setCell_same _ _ _ (h.ci j hj)]
    simp [inR, updT]
  · rw [far (Ne.symm e), h.ci j hj]
    simp [inR, updT, e]
/-- a place is written -/
theorem TP.place (h : TP w b m T P c M) {k : Nat} (hk : k < 1024) (p : Pl) : TP ((w.setCell ⟨b, 1024 + k * 2, none⟩ (.int .i64 p.1)).setCell ⟨b, 1024 + k * 2 + 1, none⟩ (.int .i64 p.2)) b m T (updP P k p) c M := by
  have far : ∀ {w : World} {o o' : Nat} {x : Value}, o ≠ o' → (w.setCell ⟨b, o, none⟩ x).cell? ⟨b, o', none⟩ = w.cell? ⟨b, o', none⟩ := fun hne => World.cell?_setCell_other _ _ _ _ (by intro e; injection e with _ h2; exact hne h2)
  refine ⟨fun j hj => ?_, fun j hj => ?_, fun j hj => ?_, ?_, fun j => by rw [World.frozen?_setCell, World.frozen?_setCell]; exact h.z j, h.ne, h.mp.same ((heap_set h.ne).trans (heap_set h.ne))⟩
  · rw [far (by omega), far (by omega), h.ci j hj]
  · rw [far (by omega)]
    by_cases e : j = k
    · subst e
      rw [World.cell?_setCell_same _ _ _ (h.cs j hj)]
      simp [updP]
    · rw [far (by omega), h.cs j hj]
      simp [updP, e]
  · by_cases e : j = k
    · subst e
      rw [World.cell?_setCell_same _ _ _ (by rw [far (by omega)]; exact h.cl j hj)]
      simp [updP]
    · rw [far (by omega), far (by omega), h.cl j hj]
      simp [updP, e]
  · rw [far (by omega), far (by omega)]; exact h.cm
/-- the map is turned -/
theorem TP.map (h : TP w b m T P c M) (hm : MapP w1 m c' M') (g : w.grownBy w1 (some m)) : TP w1 b m T P c' M' := by
  have hb : w1.heap[b]? = w.heap[b]? := g.block b h.lt (by intro e; cases e; exact h.ne rfl)
  exact ⟨fun k hk => (World.cell?_of_block (a := ⟨b, k, none⟩) hb).trans (h.ci k hk), fun k hk => (World.cell?_of_block (a := ⟨b, 1024 + k * 2, none⟩) hb).trans (h.cs k hk), fun k hk => (World.cell?_of_block (a := ⟨b, 1024 + k * 2 + 1, none⟩) hb).trans (h.cl k hk), (World.cell?_of_block (a := ⟨b, 3072, none⟩) hb).trans h.cm, fun k => (World.frozen?_of_block (a := ⟨b, k, none⟩) hb).trans (h.z k), h.ne, hm⟩
theorem grown_ch (g : w.grownBy w1 (some m)) : Ch (fun k => k = m) w w1 := ⟨g.os, g.tape, g.output, g.size, fun k hk hne => g.block k hk (by intro e; cases e; exact hne rfl)⟩
theorem uhas_c (i : Int) (h : TP w b m T P c M) :
    Calls Tryz.prog 96 #[.pointer (some ⟨b, 0, none⟩), .int .i64 i] w fun e w' => e = .returned (.bool (hasT T i)) ∧ w' = w := by
  by_cases h0 : 0 ≤ i
  · by_cases hn : i < 1024
    · obtain ⟨k, rfl⟩ : ∃ k : Nat, i = k := ⟨i.toNat, by omega⟩
      have hk : k < 1024 := by omega
      rw [hasT_in hk]
      have ci := h.ci k hk
      have d1 : decide ((k : Int) ≥ 0) = true := by simp
      have d2 : decide (0 ≤ (k : Int)) = true := by simp
      have d3 : decide ((k : Int) < 1024) = true := by simp; omega
      clear h
      generalize inR T k = x at *
      go_enter Tryz.func96, Tryz.ntmps96
      go_wp2
      go_ret
      exact ⟨by cases x <;> rfl, rfl⟩
    · rw [hasT_out (by omega)]
      have d1 : decide (i ≥ 0) = true := by simpa using h0
      have d2 : decide (0 ≤ i) = true := by simpa using h0
      have d3 : decide (i < 1024) = false := by simp; omega
      clear h
      go_enter Tryz.func96, Tryz.ntmps96
      go_wp2
      go_ret
      exact ⟨rfl, rfl⟩
  · rw [hasT_out (by omega)]
    have d1 : decide (i ≥ 0) = false := by simp; omega
    have d2 : decide (0 ≤ i) = false := by simp; omega
    clear h
    go_enter Tryz.func96, Tryz.ntmps96
    go_wp2
    go_ret
    exact ⟨rfl, rfl⟩
set_option maxHeartbeats 4000000 in
theorem uleast_c (h : TP w b m T P c M) :
    Calls Tryz.prog 89 #[.pointer (some ⟨b, 0, none⟩)] w fun e w' => e = .returned (.int .i64 (frI (freeR T))) ∧ w' = w := by
  have hci := Lib.hid h.ci
  clear h
  go_enter Tryz.func89, Tryz.ntmps89
  go_wp2
  go_loopw [3] (fun i wr => ∃ k : Nat, 4 ≤ k ∧ k ≤ 1024 ∧ i = .int .i64 k ∧ wr = w ∧ ∀ j, 4 ≤ j → j < k → (T j).isNone = false) (fun i _ => 1024 - (intOf i).toNat)
  case atStart => exact ⟨4, by omega, by omega, rfl, rfl, fun j a b => by omega⟩
  case round =>
    obtain ⟨k, hk4, hk, rfl, rfl, hR⟩ := hrel
    by_cases hlt : k < 1024
    · have hlt' : decide ((k : Int) < 1024) = true := by simp; omega
      have hk1 : (k : Int) < 1024 := by omega
      have hw : IntKind.i64.wrap ((k : Int) + 1) = (k : Int) + 1 := by rw [IntKind.wrap_i64]; omega
      have ci := hci.out k hlt
      unfold inR at ci
      rcases hT : T k with _ | s
      · rw [hT] at ci
        simp only [Option.isSome] at ci
        have e1 : Hid (freeR T = some k) := Lib.hid (firstIn_hit hk4 hlt (fun j a b => hR j a b) (by show (T k).isNone = true; rw [hT]; rfl))
        clear hT hR
        go_wp2
        go_ret
        rw [e1.out]
        exact ⟨rfl, rfl⟩
      · rw [hT] at ci
        simp only [Option.isSome] at ci
        have hN : Hid (∀ j, 4 ≤ j → j < k + 1 → (T j).isNone = false) := Lib.hid fun j a b => by
          by_cases e : j = k
          · subst e; rw [hT]; rfl
          · exact hR j a (by omega)
        clear hT hR
        go_wp2
        go_roundw
        case rel => exact ⟨k + 1, by omega, by omega, by go_num, trivial, hN.out⟩
        case measure => simp [intOf]; omega
    · have e : k = 1024 := by omega
      subst e
      have e1 : Hid (freeR T = none) := Lib.hid (firstIn_none (fun j a b => hR j a b))
      clear hR
      go_wp2
      go_ret
      rw [e1.out]
      exact ⟨rfl, rfl⟩
end
end Wd
end Go.Proofs.YtdaojohdmidemaaGreat

/- The landed table: put, Of, At, New. -/
namespace Go.Proofs.YtdaojohdmidemaaGreat
open Go.RowKit Go.Maps
set_option linter.unusedVariables false
set_option maxRecDepth 20000
namespace Wd
def cntP (x : Bool) (c : Nat) : Nat := if x then c else c + 1
theorem wf_nat {k : Nat} (hk : k < 1024) : (Lit.int .i64 (k : Int)).wf = true := WalkArith.wf_i64 ⟨by omega, by omega⟩
section
variable {w w1 : World} {b m c c' : Nat} {T : Tst} {P : Nat → Pl} {M M' : Pl → Option Int}
set_option maxHeartbeats 4000000 in
theorem uput_c (h : TP w b m T P c M) {k : Nat} (hk : k < 1024) (pl : Pl) (hp : plOk pl) (hc : c < maxLen) :
    Calls Tryz.prog 90 #[.pointer (some ⟨b, 0, none⟩), .int .i64 (k : Int), plV pl] w fun e w' => e = .returned (.tuple #[]) ∧ TP w' b m T (updP P k pl) (cntP (M pl).isSome c) (updM M pl (some (k : Int))) ∧ Ch (FT b m) w w' := by
  have hk1 : (k : Int) < 1024 := by omega
  have lb := h.lt
  have h1 := h.place hk pl
  have hB : Below ((w.setCell ⟨b, 1024 + k * 2, none⟩ (.int .i64 pl.1)).setCell ⟨b, 1024 + k * 2 + 1, none⟩ (.int .i64 pl.2)).heap.size ((w.setCell ⟨b, 1024 + k * 2, none⟩ (.int .i64 pl.1)).setCell ⟨b, 1024 + k * 2 + 1, none⟩ (.int .i64 pl.2)) (((w.setCell ⟨b, 1024 + k * 2, none⟩ (.int .i64 pl.1)).setCell ⟨b, 1024 + k * 2 + 1, none⟩ (.int .i64 pl.2)).alloc (.cells #[.int .i64 pl.1, .int .i64 pl.2] 83)) := (Below.refl _ _).alloc (Nat.le_refl _) _
  have h2 := (h1.keep hB).drew.drew
  obtain ⟨w2, hrun, hm2, hg2, hz2⟩ := h2.mp.put hc hp (wf_nat hk)
  have h3 : Hid (TP w2 b m T (updP P k pl) (cntP (M pl).isSome c) (updM M pl (some (k : Int)))) := Lib.hid (h2.map hm2 hg2)
  have hch : Hid (Ch (FT b m) w w2) := Lib.hid ((((((Ch.refl (FT b m) w).set ⟨b, 1024 + k * 2, none⟩ (Or.inl rfl) (.int .i64 pl.1)).set ⟨b, 1024 + k * 2 + 1, none⟩ (Or.inl rfl) (.int .i64 pl.2)).trans (below_toCh (FT b m) hB)).drew.drew).trans ((grown_ch hg2).mono (fun j hj => Or.inr hj)))
  have cs := h.cs k hk
  have cl := h.cl k hk
  have z1 := h.z (1024 + k * 2)
  have z2 := h.z (1024 + k * 2 + 1)
  have cm := h.cm
  have ne : w.heap.size ≠ b := by omega
  have ne' := Ne.symm ne
  have n1 : ¬ (1024 + k * 2 = 3072) := by omega
  have n2 : ¬ (1024 + k * 2 + 1 = 3072) := by omega
  clear h h1 h2 hm2 hg2 hz2 hB hc hp
  obtain ⟨pa, pc⟩ := pl
  unfold plV at *
  simp only at *
  go_enter Tryz.func90, Tryz.ntmps90
  go_wp2
  go_region
  go_wp2
  go_region
  go_wp2
  go_end0
  exact ⟨rfl, h3.out, hch.out⟩
set_option maxHeartbeats 4000000 in
theorem uof_c (h : TP w b m T P c M) (pl : Pl) (hp : plOk pl) :
    Calls Tryz.prog 69 #[.pointer (some ⟨b, 0, none⟩), plV pl] w fun e w' => e = .returned (.tuple #[.int .i64 ((M pl).getD 0), .bool (M pl).isSome]) ∧ Below w.heap.size w w' := by
  have hB : Below w.heap.size w (w.alloc (.cells #[.int .i64 pl.1, .int .i64 pl.2] 83)) := (Below.refl _ _).alloc (Nat.le_refl _) _
  have hrun := (h.keep hB).drew.mp.look_ok hp
  replace hB := Lib.hid hB
  have cm := h.cm
  have lb := h.lt
  clear h hp
  generalize (M pl).getD 0 = x at *
  generalize (M pl).isSome = y at *
  obtain ⟨pa, pc⟩ := pl
  unfold plV at *
  simp only at *
  go_enter Tryz.func69, Tryz.ntmps69
  go_wp2
  go_region
  go_wp2
  go_ret2
  exact ⟨rfl, hB.out.drew⟩
set_option maxHeartbeats 4000000 in
theorem uat_c (h : TP w b m T P c M) (i : Int) (hT : ∀ k q, T k = some q → P k = q) :
    Calls Tryz.prog 83 #[.pointer (some ⟨b, 0, none⟩), .int .i64 i] w fun e w' => e = .returned (.tuple #[plV (atP T i), .bool (hasT T i)]) ∧ Below w.heap.size w w' := by
  have hB : Below w.heap.size w (w.alloc (.cells #[.int .i64 0, .int .i64 0] 83)) := (Below.refl _ _).alloc (Nat.le_refl _) _
  have P0 := uhas_c i (h.keep hB)
  have lb := h.lt
  cases hh : hasT T i
  · rw [atP_no hh]
    rw [hh] at P0
    replace P0 := Lib.hid P0
    replace hB := Lib.hid hB
    clear hh h
    unfold plV
    go_enter Tryz.func83, Tryz.ntmps83
    go_wp2_with (first | (go_at_call 96; ((with_reducible refine P0.out.mono ?_); rintro e w' ⟨rfl, hw'⟩; subst w')))
    go_returns
    exact ⟨rfl, (Below.refl _ _).alloc (Nat.le_refl _) _⟩
  · obtain ⟨k, rfl, hk, ⟨pa, pc⟩, hTk, ha⟩ := atP_has hh
    rw [ha]
    rw [hh] at P0
    replace P0 := Lib.hid P0
    replace hB := Lib.hid hB
    have hk1 : (k : Int) < 1024 := by omega
    have cs := h.cs k hk
    have cl := h.cl k hk
    rw [hT k _ hTk] at cs cl
    simp only at cs cl
    have ne : w.heap.size ≠ b := by omega
    have ne' := Ne.symm ne
    clear hh h hTk ha hT
    unfold plV
    go_enter Tryz.func83, Tryz.ntmps83
    go_wp2_with (first | (go_at_call 96; ((with_reducible refine P0.out.mono ?_); rintro e w' ⟨rfl, hw'⟩; subst w')))
    go_returns
    exact ⟨rfl, (Below.refl _ _).alloc (Nat.le_refl _) _⟩
end
end Wd
end Go.Proofs.YtdaojohdmidemaaGreat

/- The landed table: New, IDs. -/
namespace Go.Proofs.YtdaojohdmidemaaGreat
open Go.RowKit Go.Maps
set_option linter.unusedVariables false
set_option maxRecDepth 20000
namespace Wd
def zeroU (m : Nat) : Array Value := (List.replicate 1024 (Value.bool false) ++ List.replicate 2048 (Value.int .i64 0) ++ [Value.map (some m)]).toArray
def zeroW : Array Value := (List.replicate 1024 (Value.bool false) ++ List.replicate 2048 (Value.int .i64 0) ++ [Value.map none]).toArray
theorem infoU : (Tryz.prog.info? 112).map (fun i => i.zero) = some (some (.agg zeroW)) := by kernel_rfl
theorem run_zeroU (w : World) : Sem.run Tryz.prog (zeroValue 112) w = .ok (.agg zeroW) w := by
  have h := infoU
  cases hi : Tryz.prog.info? 112 with
  | none => rw [hi] at h; cases h
  | some i =>
    rw [hi] at h
    have hz : i.zero = some (.agg zeroW) := by simpa using h
    simp [zeroValue, typeInfo, hi, hz]
theorem zeroW_size : zeroW.size = 3073 := by simp [zeroW]
theorem zeroW_set (m : Nat) : zeroW.setIfInBounds 3072 (.map (some m)) = zeroU m := by
  unfold zeroW zeroU
  rw [List.setIfInBounds_toArray, List.set_append_right _ _ (by simp)]
  simp
theorem zeroU_in {m k : Nat} (hk : k < 1024) : (zeroU m)[k]? = some (.bool false) := by
  unfold zeroU
  rw [List.getElem?_toArray, List.append_assoc, List.getElem?_append_left (by rw [List.length_replicate]; exact hk), List.getElem?_replicate, if_pos hk]
theorem zeroU_at {m k : Nat} (h1 : 1024 ≤ k) (h2 : k < 3072) : (zeroU m)[k]? = some (.int .i64 0) := by
  unfold zeroU
  rw [List.getElem?_toArray, List.append_assoc, List.getElem?_append_right (by rw [List.length_replicate]; exact h1), List.length_replicate, List.getElem?_append_left (by rw [List.length_replicate]; omega), List.getElem?_replicate, if_pos (by omega)]
theorem zeroU_map {m : Nat} : (zeroU m)[3072]? = some (.map (some m)) := by
  unfold zeroU
  rw [List.getElem?_toArray, List.getElem?_append_right (by simp)]
  simp
theorem zero_tp (w : World) : TP ((w.alloc (.map #[] 0)).alloc (.cells (zeroU w.heap.size) 112)) (w.heap.size + 1) w.heap.size noT (fun _ => (0, 0)) 0 (fun _ => none) := by
  have hmp := MapP.made w
  have hs : (w.alloc (.map #[] 0)).heap.size = w.heap.size + 1 := by simp
  have hm2 := hmp.same (w1 := (w.alloc (.map #[] 0)).alloc (.cells (zeroU w.heap.size) 112)) (Below.heap_alloc _ _ _ (by simp))
  have hh : ((w.alloc (.map #[] 0)).alloc (.cells (zeroU w.heap.size) 112)).heap[w.heap.size + 1]? = some (.cells (zeroU w.heap.size) 112 (0, 0)) := by
    rw [← hs]; exact heap_alloc_new _ _
  clear hmp hs
  generalize (w.alloc (.map #[] 0)).alloc (.cells (zeroU w.heap.size) 112) = W at *
  generalize hm : w.heap.size = s at *
  refine ⟨fun k hk => ?_, fun k hk => ?_, fun k hk => ?_, ?_, fun k => by simp [World.frozen?, hh], by omega, hm2⟩
  · simp [World.cell?, hh, zeroU_in hk, inR, noT]
  · simp [World.cell?, hh, zeroU_at (m := s) (k := 1024 + k * 2) (by omega) (by omega)]
  · simp [World.cell?, hh, zeroU_at (m := s) (k := 1024 + k * 2 + 1) (by omega) (by omega)]
  · simp [World.cell?, hh, zeroU_map]
set_option maxHeartbeats 4000000 in
theorem unew_c (w : World) : Calls Tryz.prog 38 #[] w fun e w' => e = .returned (.pointer (some ⟨w.heap.size + 1, 0, none⟩)) ∧ TP w' (w.heap.size + 1) w.heap.size noT (fun _ => (0, 0)) 0 (fun _ => none) ∧ Below w.heap.size w w' := by
  have hZ := Lib.hid (zero_tp w)
  have hB : Hid (Below w.heap.size w ((w.alloc (.map #[] 0)).alloc (.cells (zeroU w.heap.size) 112))) := Lib.hid (((Below.refl _ _).alloc (Nat.le_refl _) _).alloc (by simp) _)
  have hb := run_zeroU
  have hs := zeroW_set w.heap.size
  have hz : ¬ (zeroW.size < 3073) := by rw [zeroW_size]; omega
  generalize zeroU w.heap.size = ZU at *
  generalize zeroW = ZW at *
  have hmm := @run_makeMap Tryz.prog
  go_enter Tryz.func38, Tryz.ntmps38
  go_wp2
  go_ret
  exact ⟨by simp, hZ.out, hB.out⟩
/-- who is there, as an array by value -/
def bitsU (T : Tst) : List Value := (List.range 1024).map (fun k => Value.bool (inR T k))
theorem bitsU_len (T : Tst) : (bitsU T).length = 1024 := by simp [bitsU]
theorem bitsU_at {T : Tst} {k : Nat} (hk : k < 1024) : (bitsU T).toArray[k]? = some (.bool (inR T k)) := by
  rw [List.getElem?_toArray]
  unfold bitsU
  rw [List.getElem?_map, List.getElem?_range hk]
  rfl
theorem cellsBU : (Tryz.prog.info? 4).map (fun i => i.size) = some 1 := by kernel_rfl
theorem run_index_b (w : World) {T : Tst} {k : Nat} (hk : k < 1024) : (Instr.index 69 (.agg (bitsU T).toArray) (.int .i64 (k : Int))).run Tryz.prog w = .ok (.bool (inR T k)) w := by
  have h1 : (0 : Int) ≤ (k : Int) ∧ (k : Int) < ((1024 : Nat) : Int) := by omega
  have hv := bitsU_at (T := T) hk
  obtain ⟨i, hi, hs⟩ := Option.map_eq_some_iff.1 cellsBU
  simp [Instr.index, run_underlying Tryz.underlying69, asIntOf, sizeOf, typeInfo, hi, hs, part, isAgg, run_underlying Tryz.underlying4, go_sem]
  rw [if_pos hk]
  rw [List.getElem?_toArray] at hv
  rw [hv]
  rfl
theorem infoBU : (Tryz.prog.info? 69).map (fun i => i.size) = some 1024 := by kernel_rfl
theorem rowBU : (∃ d, Tryz.prog.underlying 69 = some d ∧ d.isRow = true) := ⟨_, Tryz.underlying69, rfl⟩
section
variable {w : World} {b m c : Nat} {T : Tst} {P : Nat → Pl} {M : Pl → Option Int}
theorem TP.range (h : TP w b m T P c M) : w.rangeAt b 0 (bitsU T) := by
  intro j v hj
  have hlt : j < 1024 := by
    have := (List.getElem?_eq_some_iff.1 hj).1
    rw [bitsU_len] at this; exact this
  have e := bitsU_at (T := T) hlt
  rw [List.getElem?_toArray, hj] at e
  cases e
  rw [Nat.zero_add]
  exact h.ci j hlt
/-- those that were told so far -/
structure IUt (w : World) (T : Tst) (k : Nat) (v : Value) (wr : World) : Prop where
  own : wr.ownsRow w.heap.size 3 1 v (idsK T k).length (ints (idsK T k))
  bel : Below w.heap.size w wr
theorem IUt.next {w wr w1 : World} {T : Tst} {k g cap : Nat} {v : Value} (h : IUt w T k v wr) (hk : inR T k = true)
    {c : Array Value} {t : TypeId} (hown : w1.ownsRow w.heap.size 3 1 (.slice (some ⟨g, 0, none⟩) ((idsK T k).length + 1) cap) ((idsK T k).length + 1) (ints (idsK T k) ++ ints [(k : Int)])) (hg : (wr.alloc (.cells c t)).grownBy w1 v.ownBlock) :
    IUt w T (k + 1) (.slice (some ⟨g, 0, none⟩) ((idsK T k).length + 1) cap) w1 := by
  refine ⟨?_, ?_⟩
  · rw [idsK_in hk]
    simpa [ints] using hown
  · exact (h.bel.alloc h.bel.size _).grown hg (by have := h.bel.size; simp; omega) (fun k' hk => (h.own.lt k' hk).1)
set_option maxHeartbeats 4000000 in
theorem uids_c (h : TP w b m T P c M) :
    Calls Tryz.prog 82 #[.pointer (some ⟨b, 0, none⟩)] w fun e w' => ∃ u, e = .returned u ∧ SL w' 3 u (idsT T) ∧ Below w.heap.size w w' ∧ (∀ g, u.ownBlock = some g → w.heap.size ≤ g) := by
  obtain ⟨i0, hi0, hz0, hz1, hz2⟩ := info_parts info3
  have hmx : 8194 ≤ maxLen := by decide
  have S0 : IUt w T 0 (.slice none 0 0) w := ⟨World.ownsRow_nil _ _ _ _, Below.refl _ _⟩
  replace S0 := Lib.hid S0
  have hL := Lib.hid h.range
  obtain ⟨d, hd, hr⟩ := rowBU
  replace hd := Lib.hid hd
  replace hr := Lib.hid hr
  have hix : Hid (∀ (w : World) (k : Nat), k < 1024 → (Instr.index 69 (.agg (bitsU T).toArray) (.int .i64 (k : Int))).run Tryz.prog w = .ok (.bool (inR T k)) w) := Lib.hid (fun w k hk => run_index_b w hk)
  clear h
  go_enter Tryz.func82, Tryz.ntmps82
  go_wp2
  refine wp_load_mid _ _ rfl b 0 rfl (bitsU T) d hL.out hd.out hr.out (by rw [bitsU_len]; exact infoBU) ?_
  generalize (bitsU T).toArray = BU at *
  go_wp2
  go_loopw [3, 10] (fun v i wr => ∃ k : Nat, k ≤ 1024 ∧ i = .int .i64 k ∧ IUt w T k v wr) (fun _ i _ => 1024 - (intOf i).toNat)
  case atStart => exact ⟨0, by omega, rfl, S0.out⟩
  case round =>
    obtain ⟨k, hk, rfl, hR⟩ := hrel
    by_cases hlt : k < 1024
    · have hlt' : decide ((k : Int) < 1024) = true := by simp; omega
      have hk1 : (k : Int) < 1024 := by omega
      have hw : IntKind.i64.wrap ((k : Int) + 1) = (k : Int) + 1 := by rw [IntKind.wrap_i64]; omega
      have hl := idsK_len T k
      have ci := hix.out wr k hlt
      cases hin : inR T k
      · rw [hin] at ci
        have hN : Hid (IUt w T (k + 1) u3 wr) := Lib.hid ⟨by rw [idsK_out hin]; exact hR.own, hR.bel⟩
        replace hR := Lib.hid hR
        clear hin hl
        go_wp2
        go_roundw
        case rel => exact ⟨k + 1, by omega, by go_num, hN.out⟩
        case measure => simp [intOf]; omega
      · rw [hin] at ci
        replace hin := Lib.hid hin
        replace hR := Lib.hid hR
        go_wp2_with (first | (at_builtin; refine wpList_append_lies _ rfl (.tmp 15) (.tmp 17) 56 rfl w.heap.size 3 i0 (.int .i64 0) 1 8 Tryz.underlying56 hi0 hz0 hz1 hz2 rfl (by decide) u3 (idsK T k).length _ (by simp [Act.eval]) (hR.out.own.alloc _) ⟨wr.heap.size, 0, none⟩ 1 1 (ints [(k : Int)]) (by simp [Act.eval]) (by simp [ints]) (one_at ((World.cell?_alloc_new _ _ _ 0).trans rfl)) (ints_one _) (by omega) (by omega) (by omega) (by have := hR.out.bel.size; simp; omega) _ rfl ?_; intro g cap w1 hown1 hgrow1 hat1 hlt1; have R3 := Lib.hid (hR.out.next hin.out hown1 hgrow1); clear hown1 hgrow1))
        go_roundw
        case rel => exact ⟨k + 1, by omega, by go_num, R3.out⟩
        case measure => simp [intOf]; omega
    · have e : k = 1024 := by omega
      subst e
      replace hR := Lib.hid hR
      go_wp2
      go_ret
      refine ⟨_, rfl, ?_, hR.out.bel, fun g hg => (hR.out.own.lt g hg).1⟩
      have ho := own_base hR.out.own
      unfold SL
      exact ho
end
end Wd
end Go.Proofs.YtdaojohdmidemaaGreat

/- The landed table: Take, Give, Swap. -/
namespace Go.Proofs.YtdaojohdmidemaaGreat
open Go.RowKit Go.Maps
set_option linter.unusedVariables false
set_option maxRecDepth 20000
namespace Wd
section
variable {w w1 : World} {b m c c' : Nat} {T : Tst} {P : Nat → Pl} {M M' : Pl → Option Int}
set_option maxHeartbeats 4000000 in
theorem ugive_no (i : Int) (h : TP w b m T P c M) (hh : hasT T i = false) :
    Calls Tryz.prog 70 #[.pointer (some ⟨b, 0, none⟩), .int .i64 i] w fun e w' => e = .returned (.bool false) ∧ w' = w := by
  have P0 := uhas_c i h
  rw [hh] at P0
  replace P0 := Lib.hid P0
  clear h hh
  go_enter Tryz.func70, Tryz.ntmps70
  go_wp2_with (first | (go_at_call 96; ((with_reducible refine P0.out.mono ?_); rintro e w' ⟨rfl, hw'⟩; subst w')))
  go_ret
  exact ⟨rfl, rfl⟩
set_option maxHeartbeats 4000000 in
theorem ugive_yes {k : Nat} (h : TP w b m T P c M) (hk : k < 1024) (hh : hasT T (k : Int) = true) (hp : plOk (P k)) :
    Calls Tryz.prog 70 #[.pointer (some ⟨b, 0, none⟩), .int .i64 (k : Int)] w fun e w' => e = .returned (.bool true) ∧ TP w' b m (updT T k none) P (if (M (P k)).isSome then c - 1 else c) (updM M (P k) none) ∧ Ch (FT b m) w w' := by
  have P0 := uhas_c (k : Int) h
  rw [hh] at P0
  replace P0 := Lib.hid P0
  have hk1 : (k : Int) < 1024 := by omega
  obtain ⟨w2, hrun, hm2, hg2, hz2⟩ := h.drew.mp.del hp 0
  have h2 := h.drew.map hm2 hg2
  have ci := h2.ci k hk
  have zk := h2.z k
  have h3 := Lib.hid (h2.tell hk none)
  have hch : Hid (Ch (FT b m) w (w2.setCell ⟨b, k, none⟩ (.bool false))) := Lib.hid (((Ch.refl (FT b m) w).drew.trans ((grown_ch hg2).mono (fun j hj => Or.inr hj))).set ⟨b, k, none⟩ (Or.inl rfl) (.bool false))
  have cs := h.cs k hk
  have cl := h.cl k hk
  have cm := h.cm
  clear h h2 hm2 hg2 hz2 hh hp
  generalize (if (M (P k)).isSome then c - 1 else c) = c2 at *
  generalize updM M (P k) none = M2 at *
  unfold plV at hrun
  generalize (P k).1 = pa at *
  generalize (P k).2 = pc at *
  go_enter Tryz.func70, Tryz.ntmps70
  go_wp2_with (first | (go_at_call 96; ((with_reducible refine P0.out.mono ?_); rintro e w' ⟨rfl, hw'⟩; subst w')))
  go_region
  go_wp2
  go_ret
  exact ⟨rfl, h3.out, hch.out⟩
set_option maxHeartbeats 4000000 in
theorem utake_had (pl : Pl) (hp : plOk pl) (h : TP w b m T P c M) (hM : (M pl).isSome = true) :
    Calls Tryz.prog 47 #[.pointer (some ⟨b, 0, none⟩), plV pl] w fun e w' => e = .returned (.int .i64 (-1)) ∧ Below w.heap.size w w' := by
  have hB : Below w.heap.size w (w.alloc (.cells #[.int .i64 pl.1, .int .i64 pl.2] 83)) := (Below.refl _ _).alloc (Nat.le_refl _) _
  have hrun := (h.keep hB).drew.mp.look_ok hp
  rw [hM] at hrun
  replace hB := Lib.hid hB
  have cm := h.cm
  have lb := h.lt
  clear h hp hM
  generalize (M pl).getD 0 = x at *
  obtain ⟨pa, pc⟩ := pl
  unfold plV at *
  simp only at *
  go_enter Tryz.func47, Tryz.ntmps47
  go_wp2
  go_region
  go_wp2
  go_ret
  exact ⟨rfl, hB.out.drew⟩
set_option maxHeartbeats 4000000 in
theorem utake_full (pl : Pl) (hp : plOk pl) (h : TP w b m T P c M) (hM : (M pl).isSome = false) (hf : freeR T = none) :
    Calls Tryz.prog 47 #[.pointer (some ⟨b, 0, none⟩), plV pl] w fun e w' => e = .returned (.int .i64 (-1)) ∧ Below w.heap.size w w' := by
  have hB : Below w.heap.size w (w.alloc (.cells #[.int .i64 pl.1, .int .i64 pl.2] 83)) := (Below.refl _ _).alloc (Nat.le_refl _) _
  have hrun := (h.keep hB).drew.mp.look_ok hp
  rw [hM] at hrun
  have P0 := uleast_c (h.keep hB).drew
  rw [hf] at P0
  unfold frI at P0
  replace P0 := Lib.hid P0
  replace hB := Lib.hid hB
  have cm := h.cm
  have lb := h.lt
  clear h hp hM hf
  generalize (M pl).getD 0 = x at *
  obtain ⟨pa, pc⟩ := pl
  unfold plV at *
  simp only at *
  go_enter Tryz.func47, Tryz.ntmps47
  go_wp2
  go_region
  go_wp2_with (first | (go_at_call 89; ((with_reducible refine P0.out.mono ?_); rintro e w' ⟨rfl, hw'⟩; subst w')))
  go_ret
  exact ⟨rfl, hB.out.drew⟩
set_option maxHeartbeats 4000000 in
theorem utake_yes (pl : Pl) (hp : plOk pl) {k : Nat} (h : TP w b m T P c M) (hM : (M pl).isSome = false) (hf : freeR T = some k) (hk : k < 1024) (hc : c < maxLen) :
    Calls Tryz.prog 47 #[.pointer (some ⟨b, 0, none⟩), plV pl] w fun e w' => e = .returned (.int .i64 (k : Int)) ∧ TP w' b m (updT T k (some pl)) (updP P k pl) (c + 1) (updM M pl (some (k : Int))) ∧ Ch (FT b m) w w' := by
  have hB : Below w.heap.size w (w.alloc (.cells #[.int .i64 pl.1, .int .i64 pl.2] 83)) := (Below.refl _ _).alloc (Nat.le_refl _) _
  have h1 := (h.keep hB).drew
  have hrun := h1.mp.look_ok hp
  rw [hM] at hrun
  have P0 := uleast_c h1
  rw [hf] at P0
  unfold frI at P0
  replace P0 := Lib.hid P0
  have hA := h.tell hk (some pl)
  have hB2 : Below (w.setCell ⟨b, k, none⟩ (.bool (some pl).isSome)).heap.size (w.setCell ⟨b, k, none⟩ (.bool (some pl).isSome)) ((w.setCell ⟨b, k, none⟩ (.bool (some pl).isSome)).alloc (.cells #[.int .i64 pl.1, .int .i64 pl.2] 83)) := (Below.refl _ _).alloc (Nat.le_refl _) _
  have h2 := (hA.keep hB2).drew
  have P1 := uput_c h2 hk pl hp hc
  rw [hM] at P1
  unfold cntP at P1
  rw [if_neg (by simp)] at P1
  replace P1 := Lib.hid P1
  have hc2 : Hid (Ch (FT b m) w _) := Lib.hid ((((Ch.refl (FT b m) w).set ⟨b, k, none⟩ (Or.inl rfl) (.bool (some pl).isSome)).trans (below_toCh (FT b m) hB2)).drew)
  have cm := h.cm
  have lb := h.lt
  have ci := h.ci k hk
  have zk := h.z k
  have hk1 : (k : Int) < 1024 := by omega
  have hk2 : ((k : Int) == -1) = false := by simp
  have ne : w.heap.size ≠ b := by omega
  have ne' := Ne.symm ne
  clear h hp hM hf h1 h2 hB hA hB2
  generalize (M pl).getD 0 = x at *
  obtain ⟨pa, pc⟩ := pl
  unfold plV at *
  simp only [Option.isSome_some] at *
  go_enter Tryz.func47, Tryz.ntmps47
  go_wp2
  go_region
  go_wp2_with (first | (go_at_call 89; ((with_reducible refine P0.out.mono ?_); rintro e w' ⟨rfl, hw'⟩; subst w')) | (go_at_call 90; ((with_reducible refine P1.out.mono ?_); rintro e w' ⟨rfl, h3, c3⟩; replace h3 := Lib.hid h3; replace c3 := Lib.hid (hc2.out.trans c3))))
  go_ret
  exact ⟨rfl, h3.out, c3.out⟩
set_option maxHeartbeats 4000000 in
theorem uswap_no (i j : Int) (h : TP w b m T P c M) (hh : swapB T i j = false) :
    Calls Tryz.prog 57 #[.pointer (some ⟨b, 0, none⟩), .int .i64 i, .int .i64 j] w fun e w' => e = .returned (.bool false) ∧ w' = w := by
  have Pi := uhas_c i h
  have Pj := uhas_c j h
  unfold swapB at hh
  cases hi : hasT T i
  · rw [hi] at Pi
    replace Pi := Lib.hid Pi
    clear hi Pj hh h
    go_enter Tryz.func57, Tryz.ntmps57
    go_wp2_with (first | (go_at_call 96; ((with_reducible refine Pi.out.mono ?_); rintro e w' ⟨rfl, hw'⟩; subst w')))
    go_ret
    exact ⟨rfl, rfl⟩
  · rw [hi] at Pi hh
    rw [Bool.true_and] at hh
    rw [hh] at Pj
    replace Pi := Lib.hid Pi
    replace Pj := Lib.hid Pj
    clear hi hh h
    go_enter Tryz.func57, Tryz.ntmps57
    go_wp2_with (first | (go_at_call 96; ((with_reducible first | refine Pi.out.mono ?_ | refine Pj.out.mono ?_); rintro e w' ⟨rfl, hw'⟩; subst w')))
    go_ret
    exact ⟨rfl, rfl⟩
/-- two places of the call's own, whichever was made first -/
structure Two (w0 w : World) (x y : Nat) (p q : Pl) : Prop where
  bel : Below w0.heap.size w0 w
  a0 : w.cell? ⟨x, 0, none⟩ = some (.int .i64 p.1)
  a1 : w.cell? ⟨x, 1, none⟩ = some (.int .i64 p.2)
  b0 : w.cell? ⟨y, 0, none⟩ = some (.int .i64 q.1)
  b1 : w.cell? ⟨y, 1, none⟩ = some (.int .i64 q.2)
set_option maxHeartbeats 8000000 in
theorem uswap_yes {x y : Nat} {p q : Pl} (h : TP w b m T P c M) (hx : x < 1024) (hy : y < 1024) (hi : hasT T (x : Int) = true) (hj : hasT T (y : Int) = true) (px : P x = p) (py : P y = q) (hp : plOk p) (hq : plOk q) (hM : (M q).isSome = true) (hM2 : (updM M q (some (x : Int)) p).isSome = true) (hc : c < maxLen) :
    Calls Tryz.prog 57 #[.pointer (some ⟨b, 0, none⟩), .int .i64 (x : Int), .int .i64 (y : Int)] w fun e w' => e = .returned (.bool true) ∧ TP w' b m T (updP (updP P x q) y p) c (updM (updM M q (some (x : Int))) p (some (y : Int))) ∧ Ch (FT b m) w w' := by
  have Pi := uhas_c (x : Int) h
  have Pj := uhas_c (y : Int) h
  rw [hi] at Pi
  rw [hj] at Pj
  replace Pi := Lib.hid Pi
  replace Pj := Lib.hid Pj
  have hx1 : (x : Int) < 1024 := by omega
  have hy1 : (y : Int) < 1024 := by omega
  have sx := h.cs x hx
  have cx := h.cl x hx
  have sy := h.cs y hy
  have cy := h.cl y hy
  rw [px] at sx cx
  rw [py] at sy cy
  have kput : Hid (∀ w2, Below w.heap.size w w2 → Calls Tryz.prog 90 #[.pointer (some ⟨b, 0, none⟩), .int .i64 (x : Int), plV q] w2 fun e w' => e = .returned (.tuple #[]) ∧ TP w' b m T (updP P x q) c (updM M q (some (x : Int))) ∧ Ch (FT b m) w w' ∧ Ch (FT b m) w2 w') := Lib.hid (fun w2 g => by
    have := uput_c (h.keep g) hx q hq hc
    rw [hM] at this
    refine this.mono ?_
    rintro e w' ⟨he, ht, hch⟩
    exact ⟨he, ht, (below_toCh (FT b m) g).trans hch, hch⟩)
  have kput2 : Hid (∀ w2, TP w2 b m T (updP P x q) c (updM M q (some (x : Int))) → Calls Tryz.prog 90 #[.pointer (some ⟨b, 0, none⟩), .int .i64 (y : Int), plV p] w2 fun e w' => e = .returned (.tuple #[]) ∧ TP w' b m T (updP (updP P x q) y p) c (updM (updM M q (some (x : Int))) p (some (y : Int))) ∧ Ch (FT b m) w2 w') := Lib.hid (fun w2 h2 => by
    have := uput_c h2 hy p hp hc
    rw [hM2] at this
    exact this)
  have lb := h.lt
  have lm := h.mp.lt
  have ne : w.heap.size ≠ b := by omega
  have ne' := Ne.symm ne
  have ne1 : w.heap.size + 1 ≠ b := by omega
  have ne1' := Ne.symm ne1
  clear h hi hj px py hp hq hM hM2 hc
  obtain ⟨pa, pc⟩ := p
  obtain ⟨qa, qc⟩ := q
  unfold plV at *
  simp only at *
  go_enter Tryz.func57, Tryz.ntmps57
  go_wp2_with (first | (go_at_call 96; ((with_reducible first | refine Pi.out.mono ?_ | refine Pj.out.mono ?_); rintro e w' ⟨rfl, hw'⟩; subst w')))
  go_region
  · have h2 : Two w (((w.alloc (.cells #[.int .i64 pa, .int .i64 pc] 83)).alloc (.cells #[.int .i64 qa, .int .i64 qc] 83)).drew) (w.heap.size) (w.heap.size + 1) (pa, pc) (qa, qc) :=
      ⟨(((Below.refl _ _).alloc (Nat.le_refl _) _).alloc (by simp) _).drew, by simp, by simp, by simp, by simp⟩
    generalize (((w.alloc (.cells #[.int .i64 pa, .int .i64 pc] 83)).alloc (.cells #[.int .i64 qa, .int .i64 qc] 83)).drew) = w2 at h2 ⊢
    have P1 := Lib.hid (kput.out w2 h2.bel)
    have a0 := h2.a0
    have a1 := h2.a1
    have b0 := h2.b0
    have b1 := h2.b1
    clear sx cx sy cy
    simp only at a0 a1 b0 b1
    go_wp2_with fail
    refine P1.out.mono ?_
    rintro e w3 ⟨rfl, h3, c3, d3⟩
    have hbl := d3.block (w.heap.size) (World.block_lt_of_cell? w2 _ a0) (by unfold FT; omega)
    replace a0 := (World.cell?_of_block (a := ⟨w.heap.size, 0, none⟩) hbl).trans a0
    replace a1 := (World.cell?_of_block (a := ⟨w.heap.size, 1, none⟩) hbl).trans a1
    have P2 := Lib.hid (kput2.out w3 h3)
    replace c3 := Lib.hid c3
    clear b0 b1 P1 kput kput2 h3 d3 hbl h2
    go_wp2_with fail
    refine P2.out.mono ?_
    rintro e w4 ⟨rfl, h4, c4⟩
    replace h4 := Lib.hid h4
    replace c4 := Lib.hid (c3.out.trans c4)
    go_wp2_with fail
    go_ret
    exact ⟨rfl, h4.out, c4.out⟩
  · have h2 : Two w (((w.alloc (.cells #[.int .i64 qa, .int .i64 qc] 83)).alloc (.cells #[.int .i64 pa, .int .i64 pc] 83)).drew) (w.heap.size + 1) (w.heap.size) (pa, pc) (qa, qc) :=
      ⟨(((Below.refl _ _).alloc (Nat.le_refl _) _).alloc (by simp) _).drew, by simp, by simp, by simp, by simp⟩
    generalize (((w.alloc (.cells #[.int .i64 qa, .int .i64 qc] 83)).alloc (.cells #[.int .i64 pa, .int .i64 pc] 83)).drew) = w2 at h2 ⊢
    have P1 := Lib.hid (kput.out w2 h2.bel)
    have a0 := h2.a0
    have a1 := h2.a1
    have b0 := h2.b0
    have b1 := h2.b1
    clear sx cx sy cy
    simp only at a0 a1 b0 b1
    go_wp2_with fail
    refine P1.out.mono ?_
    rintro e w3 ⟨rfl, h3, c3, d3⟩
    have hbl := d3.block (w.heap.size + 1) (World.block_lt_of_cell? w2 _ a0) (by unfold FT; omega)
    replace a0 := (World.cell?_of_block (a := ⟨w.heap.size + 1, 0, none⟩) hbl).trans a0
    replace a1 := (World.cell?_of_block (a := ⟨w.heap.size + 1, 1, none⟩) hbl).trans a1
    have P2 := Lib.hid (kput2.out w3 h3)
    replace c3 := Lib.hid c3
    clear b0 b1 P1 kput kput2 h3 d3 hbl h2
    go_wp2_with fail
    refine P2.out.mono ?_
    rintro e w4 ⟨rfl, h4, c4⟩
    replace h4 := Lib.hid h4
    replace c4 := Lib.hid (c3.out.trans c4)
    go_wp2_with fail
    go_ret
    exact ⟨rfl, h4.out, c4.out⟩
end
end Wd
end Go.Proofs.YtdaojohdmidemaaGreat

/- The landed table does what the laws ask of it. -/
namespace Go.Proofs.YtdaojohdmidemaaGreat
open Go.RowKit Go.Maps
set_option linter.unusedVariables false
set_option maxRecDepth 20000
namespace Wd
def TA (w : World) (p : Nat) (T : Tst) (F : Nat → Prop) : Prop :=
  ∃ m P, TP w p m T P (idsT T).length (mapOf T) ∧ Inv T ∧ (∀ k q, T k = some q → P k = q) ∧ F = FT p m
theorem mapOf_no : mapOf noT = fun _ => none := by
  funext q
  exact mapOf_none (fun k h => by cases h)
theorem ids_no : (idsT noT).length = 0 := by
  rw [idsT_def]
  simp [noT]
theorem newer_refl (F : Nat → Prop) (s : Nat) : Newer F F s := fun k h => Or.inl h
theorem ids_lt (T : Tst) : (idsT T).length < maxLen := Nat.lt_of_le_of_lt (idsT_len T) (by decide)
theorem KT : TableK TA := by
  constructor
  case lt =>
    rintro w p T F ⟨m, P, h, hI, hP, rfl⟩ k hk
    rcases hk with rfl | rfl
    · exact h.lt
    · exact h.mp.lt
  case keep =>
    rintro w w' p T F ⟨m, P, h, hI, hP, rfl⟩ hk
    exact ⟨m, P, h.same (hk p (Or.inl rfl)) (hk m (Or.inr rfl)), hI, hP, rfl⟩
  case take =>
    rintro w p T F pl ⟨m, P, h, hI, hP, rfl⟩ hp
    have hM := (mapOf_getD T pl).2
    cases ho : ofR T pl with
    | some j =>
      rw [ho] at hM
      have e1 : takeI T pl = -1 := by unfold takeI; rw [ho]; rfl
      have e2 : takeT T pl = T := by unfold takeT; rw [ho]; rfl
      rw [e1, e2]
      refine (utake_had pl hp h hM).mono ?_
      rintro e w' ⟨rfl, hb⟩
      exact ⟨_, rfl, ⟨m, P, h.keep hb, hI, hP, rfl⟩, below_toCh _ hb, newer_refl _ _⟩
    | none =>
      rw [ho] at hM
      cases hf : freeR T with
      | none =>
        have e1 : takeI T pl = -1 := by unfold takeI; rw [ho, hf]; rfl
        have e2 : takeT T pl = T := by unfold takeT; rw [ho, hf]; rfl
        rw [e1, e2]
        refine (utake_full pl hp h hM hf).mono ?_
        rintro e w' ⟨rfl, hb⟩
        exact ⟨_, rfl, ⟨m, P, h.keep hb, hI, hP, rfl⟩, below_toCh _ hb, newer_refl _ _⟩
      | some k =>
        obtain ⟨k1, k2, hk⟩ := freeR_at hf
        have e1 : takeI T pl = (k : Int) := by unfold takeI; rw [ho, hf]; rfl
        have e2 : takeT T pl = updT T k (some pl) := by unfold takeT; rw [ho, hf]; rfl
        rw [e1, e2]
        refine (utake_yes pl hp h hM hf k2 (ids_lt T)).mono ?_
        rintro e w' ⟨rfl, h', hc⟩
        rw [← ids_take k2 hk (p := pl), ← mapOf_take hI hp ho hf] at h'
        refine ⟨_, rfl, ⟨m, _, h', hI.upd k1 k2 hp (fun j _ => ofR_none hI ho j), fun j q hj => ?_, rfl⟩, hc, newer_refl _ _⟩
        unfold updT at hj
        unfold updP
        by_cases c : j = k
        · rw [if_pos c] at hj ⊢; cases hj; rfl
        · rw [if_neg c] at hj ⊢; exact hP j q hj
  case give =>
    rintro w p T F i ⟨m, P, h, hI, hP, rfl⟩ _ _
    cases hh : hasT T i
    · have e2 : giveT T i = T := by unfold giveT; rw [hh]; rfl
      rw [e2]
      refine (ugive_no i h hh).mono ?_
      rintro e w' ⟨rfl, rfl⟩
      exact ⟨_, rfl, ⟨m, P, h, hI, hP, rfl⟩, Ch.refl _ _, newer_refl _ _⟩
    · obtain ⟨k, rfl, hk, _, q, hq⟩ := hasT_some hh
      have e2 : giveT T (k : Int) = updT T k none := by unfold giveT; rw [hh, if_pos rfl]; simp
      rw [e2]
      have hPk := hP k q hq
      refine (ugive_yes h hk hh (by rw [hPk]; exact (hI.bd k q hq).2.2)).mono ?_
      rintro e w' ⟨rfl, h', hc⟩
      rw [hPk, if_pos (by rw [mapOf_some hI hq]; rfl), ← mapOf_give hI hq] at h'
      have hl := ids_give hk hq
      have e3 : (idsT T).length - 1 = (idsT (updT T k none)).length := by omega
      rw [e3] at h'
      refine ⟨_, rfl, ⟨m, P, h', hI.del k, fun j r hj => ?_, rfl⟩, hc, newer_refl _ _⟩
      unfold updT at hj
      by_cases c : j = k
      · rw [if_pos c] at hj; cases hj
      · rw [if_neg c] at hj; exact hP j r hj
  case swap =>
    rintro w p T F i j ⟨m, P, h, hI, hP, rfl⟩ _ _ _ _
    cases hh : swapB T i j
    · have e2 : swapT T i j = T := by unfold swapT; rw [hh]; rfl
      rw [e2]
      refine (uswap_no i j h hh).mono ?_
      rintro e w' ⟨rfl, rfl⟩
      exact ⟨_, rfl, ⟨m, P, h, hI, hP, rfl⟩, Ch.refl _ _, newer_refl _ _⟩
    · have hb := hh
      unfold swapB at hb
      obtain ⟨hi, hj⟩ := Bool.and_eq_true_iff.1 hb
      obtain ⟨x, rfl, hx, _, a, ha⟩ := hasT_some hi
      obtain ⟨y, rfl, hy, _, b, hb'⟩ := hasT_some hj
      rw [(swapT_at ha hb' hx hy).2]
      refine (uswap_yes h hx hy hi hj (hP x a ha) (hP y b hb') (hI.bd x a ha).2.2 (hI.bd y b hb').2.2 (by rw [mapOf_some hI hb']; rfl) ?_ (ids_lt T)).mono ?_
      · unfold updM
        by_cases c : a = b
        · rw [if_pos c]; rfl
        · rw [if_neg c, mapOf_some hI ha]; rfl
      · rintro e w' ⟨rfl, h', hc⟩
        rw [← mapOf_swap hI ha hb'] at h'
        have e1 : (idsT (updT (updT T x (some b)) y (some a))).length = (idsT T).length := by
          have e3 : ∃ r, updT T x (some b) y = some r := by
            unfold updT
            by_cases c : y = x
            · rw [if_pos c]; exact ⟨_, rfl⟩
            · rw [if_neg c]; exact ⟨_, hb'⟩
          obtain ⟨r, hr⟩ := e3
          rw [ids_put hy hr, ids_put hx ha]
        have h2 : TP w' p m (updT (updT T x (some b)) y (some a)) (updP (updP P x b) y a) (idsT (updT (updT T x (some b)) y (some a))).length (mapOf (updT (updT T x (some b)) y (some a))) := by
          rw [e1]
          refine ⟨fun k hk => ?_, h'.cs, h'.cl, h'.cm, h'.z, h'.ne, h'.mp⟩
          rw [h'.ci k hk]
          congr 2
          unfold inR updT
          by_cases c : k = y
          · rw [if_pos c, c, hb']; rfl
          · rw [if_neg c]
            by_cases d : k = x
            · rw [if_pos d, d, ha]; rfl
            · rw [if_neg d]
        refine ⟨_, rfl, ⟨m, _, h2, hI.swap ha hb', fun k r hk => ?_, rfl⟩, hc, newer_refl _ _⟩
        unfold updT at hk
        unfold updP
        by_cases c : k = y
        · rw [if_pos c] at hk ⊢; cases hk; rfl
        · rw [if_neg c] at hk ⊢
          by_cases d : k = x
          · rw [if_pos d] at hk ⊢; cases hk; rfl
          · rw [if_neg d] at hk ⊢; exact hP k r hk
  case at' =>
    rintro w p T F i ⟨m, P, h, hI, hP, rfl⟩ _ _
    exact uat_c h i hP
  case of =>
    rintro w p T F pl ⟨m, P, h, hI, hP, rfl⟩ hp
    have := uof_c h pl hp
    rw [(mapOf_getD T pl).1, (mapOf_getD T pl).2] at this
    exact this
  case ids =>
    rintro w p T F ⟨m, P, h, hI, hP, rfl⟩
    exact uids_c h
  case new =>
    intro w
    refine (unew_c w).mono ?_
    rintro e w' ⟨rfl, h, hb⟩
    refine ⟨_, _, rfl, ⟨w.heap.size, fun _ => (0, 0), ?_, Inv.no, fun k q hk => (by cases hk), rfl⟩, fun k hk => ?_, hb⟩
    · rw [ids_no, mapOf_no]; exact h
    · rcases hk with rfl | rfl <;> omega
end Wd
end Go.Proofs.YtdaojohdmidemaaGreat

/- Plain facts on heads, chapter 2: no program is named here. -/
namespace Go.Proofs.YtdaojohdmidemaaGreat
set_option maxRecDepth 20000
open Go.RowKit
namespace Wd

/-- do the parts go into their bits -/
def hok (a b c : Int) : Bool := decide (0 ≤ a) && decide (a ≤ 4095) && decide (0 ≤ b) && decide (b ≤ 255) && decide (0 ≤ c) && decide (c ≤ 15)
/-- the word of a head -/
def pk (a b c : Int) : Int := if hok a b c then a * 1048576 + b * 4096 + c * 256 + 1 else 0
/-- is it a head -/
def isH (w : Int) : Bool := w % 256 == 1
def hc (w : Int) : Int := w / 1048576
def hs (w : Int) : Int := w / 4096 % 256
def hk (w : Int) : Int := w / 256 % 16
def oc (w : Int) : Int := if isH w then hc w else 0
def os (w : Int) : Int := if isH w then hs w else 0
def ok (w : Int) : Int := if isH w then hk w else 0

theorem or_add (x y : Int) (i : Nat) (hx : 0 ≤ x) (hx' : x ≤ 4294967295) (hy : 0 ≤ y) (hy' : y < 2 ^ i) (hd : x % 2 ^ i = 0) (hy2 : y ≤ 4294967295) : bits .or .u32 x y = x + y := by
  rw [u32_or x y hx (by omega) hy (by omega)]
  obtain ⟨k, hk⟩ : ∃ k : Nat, x = 2 ^ i * k := by
    refine ⟨(x / 2 ^ i).toNat, ?_⟩
    have h1 := Int.mul_ediv_add_emod x (2 ^ i)
    have h2 : 0 ≤ x / 2 ^ i := Int.ediv_nonneg hx (Int.pow_nonneg (by omega))
    rw [Int.toNat_of_nonneg h2]; omega
  have hxn : x.toNat = 2 ^ i * k := by
    have : ((2 : Int) ^ i * k) = ((2 ^ i * k : Nat) : Int) := by simp
    rw [hk, this]; omega
  have hyn : y.toNat < 2 ^ i := by
    have : ((2 ^ i : Nat) : Int) = (2 : Int) ^ i := by simp
    omega
  have := Nat.two_pow_add_eq_or_of_lt hyn k
  rw [hxn, ← this, ← hxn]; omega
theorem and_mod (x : Int) (i : Nat) (m : Int) (hm : m = 2 ^ i - 1) (hx : 0 ≤ x) (hx' : x ≤ 4294967295) (hm' : m ≤ 4294967295) : bits .and .u32 x m = x % 2 ^ i := by
  have hp : ((2 ^ i : Nat) : Int) = (2 : Int) ^ i := by simp
  have h1 : 1 ≤ 2 ^ i := Nat.one_le_two_pow
  rw [u32_and x m hx (by omega) (by omega) (by omega)]
  have : m.toNat = 2 ^ i - 1 := by omega
  rw [this, Nat.and_two_pow_sub_one_eq_mod, ← hp]
  have e : ((x.toNat : Nat) : Int) = x := Int.toNat_of_nonneg hx
  rw [Int.natCast_emod, e]
theorem bits_bd (op : BinOp) (a b : Int) : 0 ≤ bits op .u32 a b ∧ bits op .u32 a b ≤ 4294967295 := by
  unfold bits
  have := IntKind.wrap_u32' 
  split <;> simp only [IntKind.wrap_u32'] <;> omega
theorem and255 (x : Int) (hx : 0 ≤ x) (hx' : x ≤ 4294967295) : bits .and .u32 x 255 = x % 256 := and_mod x 8 255 rfl hx hx' (by omega)
theorem and15 (x : Int) (hx : 0 ≤ x) (hx' : x ≤ 4294967295) : bits .and .u32 x 15 = x % 16 := and_mod x 4 15 rfl hx hx' (by omega)
theorem and4095 (x : Int) (hx : 0 ≤ x) (hx' : x ≤ 4294967295) : bits .and .u32 x 4095 = x % 4096 := and_mod x 12 4095 rfl hx hx' (by omega)
theorem hok_iff (a b c : Int) : hok a b c = true ↔ (0 ≤ a ∧ a ≤ 4095) ∧ (0 ≤ b ∧ b ≤ 255) ∧ (0 ≤ c ∧ c ≤ 15) := by simp [hok]; omega
theorem pk_bd (a b c : Int) : 0 ≤ pk a b c ∧ pk a b c ≤ 4294967295 := by
  unfold pk; split
  · rename_i h; rw [hok_iff] at h; omega
  · omega
/-- what Pack makes of shifts -/
theorem pack_eq (a b c : Int) (ha : 0 ≤ a) (ha' : a ≤ 4095) (hb : 0 ≤ b) (hb' : b ≤ 255) (hc : 0 ≤ c) (hc' : c ≤ 15) :
    bits .or .u32 (bits .or .u32 (bits .or .u32 (a % 4294967296 * 1048576 % 4294967296) (b % 4294967296 * 4096 % 4294967296)) (c % 4294967296 * 256 % 4294967296)) 1 = a * 1048576 + b * 4096 + c * 256 + 1 := by
  rw [show a % 4294967296 * 1048576 % 4294967296 = a * 1048576 by omega, show b % 4294967296 * 4096 % 4294967296 = b * 4096 by omega, show c % 4294967296 * 256 % 4294967296 = c * 256 by omega]
  rw [or_add (a * 1048576) (b * 4096) 20 (by omega) (by omega) (by omega) (by omega) (by omega) (by omega)]
  rw [or_add (a * 1048576 + b * 4096) (c * 256) 12 (by omega) (by omega) (by omega) (by omega) (by omega) (by omega)]
  rw [or_add (a * 1048576 + b * 4096 + c * 256) 1 8 (by omega) (by omega) (by omega) (by omega) (by omega) (by omega)]
theorem pack_eq2 (a b c : Int) (ha : 0 ≤ a) (ha' : a ≤ 4095) (hb : 0 ≤ b) (hb' : b ≤ 255) (hc : 0 ≤ c) (hc' : c ≤ 15) :
    bits .or .u32 (bits .or .u32 (bits .or .u32 (a * 1048576) (b * 4096)) (c * 256)) 1 = a * 1048576 + b * 4096 + c * 256 + 1 := by
  have := pack_eq a b c ha ha' hb hb' hc hc'
  rwa [show a % 4294967296 * 1048576 % 4294967296 = a * 1048576 by omega, show b % 4294967296 * 4096 % 4294967296 = b * 4096 by omega, show c % 4294967296 * 256 % 4294967296 = c * 256 by omega] at this
theorem hok_cases (a b c : Int) : ((a < 0 ∨ 4095 < a ∨ b < 0 ∨ 255 < b ∨ c < 0 ∨ 15 < c) ∧ hok a b c = false) ∨ ((0 ≤ a ∧ a ≤ 4095 ∧ 0 ≤ b ∧ b ≤ 255 ∧ 0 ≤ c ∧ c ≤ 15) ∧ hok a b c = true) := by
  by_cases h : (0 ≤ a ∧ a ≤ 4095) ∧ (0 ≤ b ∧ b ≤ 255) ∧ (0 ≤ c ∧ c ≤ 15)
  · exact Or.inr ⟨by omega, (hok_iff a b c).2 h⟩
  · refine Or.inl ⟨by omega, ?_⟩
    cases e : hok a b c
    · rfl
    · exact absurd ((hok_iff a b c).1 e) h
theorem i64_and7 (n : Int) : bits .and .i64 n 7 = n % 8 := by
  have h127 : (BitVec.ofInt 64 7).toNat = 2 ^ 3 - 1 := by decide
  have key : (BitVec.ofInt 64 n &&& BitVec.ofInt 64 7).toNat = (n % ((2 ^ 64 : Nat) : Int)).toNat % 2 ^ 3 := by
    rw [BitVec.toNat_and, BitVec.toNat_ofInt, h127, Nat.and_two_pow_sub_one_eq_mod]
  show IntKind.i64.wrap ((BitVec.ofInt 64 n &&& BitVec.ofInt 64 7).toNat : Nat) = n % 8
  rw [key, IntKind.wrap_i64]
  omega
theorem i64_and4095 (n : Int) : bits .and .i64 n 4095 = n % 4096 := by
  have h127 : (BitVec.ofInt 64 4095).toNat = 2 ^ 12 - 1 := by decide
  have key : (BitVec.ofInt 64 n &&& BitVec.ofInt 64 4095).toNat = (n % ((2 ^ 64 : Nat) : Int)).toNat % 2 ^ 12 := by
    rw [BitVec.toNat_and, BitVec.toNat_ofInt, h127, Nat.and_two_pow_sub_one_eq_mod]
  show IntKind.i64.wrap ((BitVec.ofInt 64 n &&& BitVec.ofInt 64 4095).toNat : Nat) = n % 4096
  rw [key, IntKind.wrap_i64]
  omega
theorem i64_and8191 (n : Int) : bits .and .i64 n 8191 = n % 8192 := by
  have h127 : (BitVec.ofInt 64 8191).toNat = 2 ^ 13 - 1 := by decide
  have key : (BitVec.ofInt 64 n &&& BitVec.ofInt 64 8191).toNat = (n % ((2 ^ 64 : Nat) : Int)).toNat % 2 ^ 13 := by
    rw [BitVec.toNat_and, BitVec.toNat_ofInt, h127, Nat.and_two_pow_sub_one_eq_mod]
  show IntKind.i64.wrap ((BitVec.ofInt 64 n &&& BitVec.ofInt 64 8191).toNat : Nat) = n % 8192
  rw [key, IntKind.wrap_i64]
  omega
theorem wrap_fit (n m : Int) (h1 : -9223372036854775808 ≤ n) (h2 : n ≤ 9223372036854775807) (hm : 1 ≤ m) (hm' : m ≤ 4294967296) : (n % 18446744073709551616 / m = 0) ↔ (0 ≤ n ∧ n < m) := by
  rw [Int.ediv_eq_iff_of_pos (by omega)]
  omega
/-- what is packed is opened -/
theorem pk_open (a b c : Int) (h : hok a b c = true) : isH (pk a b c) = true ∧ hc (pk a b c) = a ∧ hs (pk a b c) = b ∧ hk (pk a b c) = c := by
  have h' := (hok_iff a b c).1 h
  simp only [pk, h, if_true, isH, hc, hs, hk, beq_iff_eq]
  refine ⟨?_, ?_, ?_, ?_⟩ <;> omega
/-- what is opened is packed -/
theorem open_pk (w : Int) (h0 : 0 ≤ w) (h1 : w ≤ 4294967295) (h : isH w = true) : hok (hc w) (hs w) (hk w) = true ∧ pk (hc w) (hs w) (hk w) = w := by
  simp only [isH, beq_iff_eq] at h
  have e : hok (hc w) (hs w) (hk w) = true := by
    rw [hok_iff]; unfold hc hs hk; omega
  refine ⟨e, ?_⟩
  simp only [pk, e, if_true]; unfold hc hs hk; omega
/-- a word that one bit of the lowest eight is turned in -/
theorem xor_bit (w m : Int) (i : Nat) (hm : m = 2 ^ i) (hi : i < 8) (h0 : 0 ≤ w) (h1 : w ≤ 4294967295) (h : isH w = true) : isH (bits .xor .u32 w m) = false := by
  have hp : ((2 ^ i : Nat) : Int) = (2 : Int) ^ i := by simp
  have h2 : 2 ^ i < 2 ^ 8 := Nat.pow_lt_pow_right (by omega) hi
  have h3 : 0 < 2 ^ i := Nat.two_pow_pos i
  rw [u32_xor w m h0 (by omega) (by omega) (by omega)]
  simp only [isH, beq_iff_eq] at h
  simp only [isH, beq_eq_false_iff_ne, ne_eq]
  have e : m.toNat = 2 ^ i := by omega
  intro hh
  have e2 : (w.toNat ^^^ 2 ^ i) % 2 ^ 8 = 1 := by rw [e] at hh; omega
  have e3 : w.toNat % 2 ^ 8 = 1 := by omega
  have e4 : ((w.toNat ^^^ 2 ^ i) % 2 ^ 8).testBit i = (w.toNat % 2 ^ 8).testBit i := by rw [e2, e3]
  rw [Nat.testBit_mod_two_pow, Nat.testBit_mod_two_pow, Nat.testBit_xor, Nat.testBit_two_pow_self] at e4
  cases hb : w.toNat.testBit i <;> rw [hb] at e4 <;> simp [hi] at e4
end Wd
end Go.Proofs.YtdaojohdmidemaaGreat

/- What each function of the package head, and of the document's own answer, returns. -/
namespace Go.Proofs.YtdaojohdmidemaaGreat
set_option maxRecDepth 20000
open Go.RowKit
namespace Wd

theorem fits_c (n b m : Int) (hb : (b = 12 ∧ m = 4096) ∨ (b = 8 ∧ m = 256) ∨ (b = 4 ∧ m = 16)) (h1 : -9223372036854775808 ≤ n) (h2 : n ≤ 9223372036854775807) (w : World) :
    Calls Tryz.prog 86 #[.int .i64 n, .int .i64 b] w fun e w' => e = .returned (.bool (decide (0 ≤ n ∧ n < m))) ∧ w = w' := by
  have hw : (n % 18446744073709551616 / m == 0) = decide (0 ≤ n ∧ n < m) := by
    rw [Bool.eq_iff_iff, beq_iff_eq, decide_eq_true_iff]
    exact wrap_fit n m h1 h2 (by omega) (by omega)
  rcases hb with ⟨rfl, rfl⟩ | ⟨rfl, rfl⟩ | ⟨rfl, rfl⟩ <;>
  · rw [← hw]; clear hw
    go_enter Tryz.func86, Tryz.ntmps86
    go_wp2
    go_ret
    exact ⟨rfl, rfl⟩
def Dr (w w' : World) : Prop := ∃ n, w' = w.drewN n
theorem part_c (a t b m l : Int) (h0 : 0 ≤ a) (h1 : a ≤ 4294967295) (hb : (t = 0 ∧ b = 8 ∧ l = 1 ∧ m = 256) ∨ (t = 8 ∧ b = 4 ∧ l = 256 ∧ m = 16) ∨ (t = 12 ∧ b = 8 ∧ l = 4096 ∧ m = 256) ∨ (t = 20 ∧ b = 12 ∧ l = 1048576 ∧ m = 4096)) (w : World) :
    Calls Tryz.prog 100 #[.int .u32 a, .int .i64 t, .int .i64 b] w fun e w' => e = .returned (.int .i64 (a / l % m)) ∧ w' = w.drew := by
  have k8 := fun x h h' => and255 x h h'
  have k4 := fun x h h' => and15 x h h'
  have k12 := fun x h h' => and4095 x h h'
  rcases hb with ⟨rfl, rfl, rfl, rfl⟩ | ⟨rfl, rfl, rfl, rfl⟩ | ⟨rfl, rfl, rfl, rfl⟩ | ⟨rfl, rfl, rfl, rfl⟩ <;>
  · go_enter Tryz.func100, Tryz.ntmps100
    go_wp2
    go_region
    all_goals go_wp2
    all_goals go_ret
    exact ⟨by
      first
      | (refine congrArg Ending.returned (congrArg (Value.int .i64) ?_); show a % 256 = a / 1 % 256; omega)
      | (refine congrArg Ending.returned (congrArg (Value.int .i64) ?_); show wrap64 (bits _ _ _ _) = _; (first | rw [k8 _ (by omega) (by omega)] | rw [k4 _ (by omega) (by omega)] | rw [k12 _ (by omega) (by omega)]); rw [IntWalk.wrap64_in _ (by omega)]), rfl⟩
end Wd
end Go.Proofs.YtdaojohdmidemaaGreat

/- What Pack, Open, Class, Size return. -/
namespace Go.Proofs.YtdaojohdmidemaaGreat
set_option maxRecDepth 20000
open Go.RowKit
namespace Wd
theorem Class_c (a : Int) (h0 : 0 ≤ a) (h1 : a ≤ 4294967295) (w : World) :
    Calls Tryz.prog 80 #[.int .u32 a] w fun e w' => e = .returned (.int .i64 (hc a)) ∧ w' = w.drew := by
  go_enter Tryz.func80, Tryz.ntmps80
  go_wp2_with (first | (go_at_call 100; ((with_reducible refine (part_c _ _ _ _ _ ?_ ?_ (by first | exact Or.inl ⟨rfl, rfl, rfl, rfl⟩ | exact Or.inr (Or.inl ⟨rfl, rfl, rfl, rfl⟩) | exact Or.inr (Or.inr (Or.inl ⟨rfl, rfl, rfl, rfl⟩)) | exact Or.inr (Or.inr (Or.inr ⟨rfl, rfl, rfl, rfl⟩))) _).mono ?_); (first | with_reducible assumption | omega); (first | with_reducible assumption | omega); rintro e w' ⟨rfl, rfl⟩)))
  go_ret
  refine ⟨congrArg Ending.returned (congrArg (Value.int .i64) ?_), rfl⟩
  unfold hc; omega
theorem Size_c (a : Int) (h0 : 0 ≤ a) (h1 : a ≤ 4294967295) (w : World) :
    Calls Tryz.prog 81 #[.int .u32 a] w fun e w' => e = .returned (.int .i64 (hs a)) ∧ w' = w.drew := by
  go_enter Tryz.func81, Tryz.ntmps81
  go_wp2_with (first | (go_at_call 100; ((with_reducible refine (part_c _ _ _ _ _ ?_ ?_ (by first | exact Or.inl ⟨rfl, rfl, rfl, rfl⟩ | exact Or.inr (Or.inl ⟨rfl, rfl, rfl, rfl⟩) | exact Or.inr (Or.inr (Or.inl ⟨rfl, rfl, rfl, rfl⟩)) | exact Or.inr (Or.inr (Or.inr ⟨rfl, rfl, rfl, rfl⟩))) _).mono ?_); (first | with_reducible assumption | omega); (first | with_reducible assumption | omega); rintro e w' ⟨rfl, rfl⟩)))
  go_ret
  refine ⟨congrArg Ending.returned (congrArg (Value.int .i64) ?_), rfl⟩
  rfl
theorem Pack_c (a b c : Int) (ha : -9223372036854775808 ≤ a) (ha' : a ≤ 9223372036854775807) (hb : -9223372036854775808 ≤ b) (hb' : b ≤ 9223372036854775807) (hc : -9223372036854775808 ≤ c) (hc' : c ≤ 9223372036854775807) (w : World) :
    Calls Tryz.prog 44 #[.agg #[.int .i64 a, .int .i64 b, .int .i64 c]] w fun e w' => e = .returned (.tuple #[.int .u32 (pk a b c), .bool (hok a b c)]) ∧ w' = w.alloc (.cells #[.int .i64 a, .int .i64 b, .int .i64 c] 82) := by
  rcases hok_cases a b c with ⟨h, e⟩ | ⟨⟨h1, h2, h3, h4, h5, h6⟩, e⟩
  · have ev : pk a b c = 0 := by simp [pk, e]
    have key : decide (0 ≤ a ∧ a < 4096) = false ∨ decide (0 ≤ a ∧ a < 4096) = true ∧ decide (0 ≤ b ∧ b < 256) = false ∨ decide (0 ≤ a ∧ a < 4096) = true ∧ decide (0 ≤ b ∧ b < 256) = true ∧ decide (0 ≤ c ∧ c < 16) = false := by
      simp only [decide_eq_true_eq, decide_eq_false_iff_not]; omega
    rw [e, ev]; clear e ev h
    rcases key with k1 | ⟨k1, k2⟩ | ⟨k1, k2, k3⟩ <;>
    · go_enter Tryz.func44, Tryz.ntmps44
      go_wp2_with (first | (go_at_call 86; ((with_reducible refine (fits_c _ _ _ (by first | exact Or.inl ⟨rfl, rfl⟩ | exact Or.inr (Or.inl ⟨rfl, rfl⟩) | exact Or.inr (Or.inr ⟨rfl, rfl⟩)) ?_ ?_ _).mono ?_); (first | with_reducible assumption | omega); (first | with_reducible assumption | omega); rintro e w' ⟨rfl, rfl⟩)))
      go_ret2
      exact ⟨rfl, rfl⟩
  · have ev : pk a b c = a * 1048576 + b * 4096 + c * 256 + 1 := by simp [pk, e]
    have k1 : decide (0 ≤ a ∧ a < 4096) = true := by simp; omega
    have k2 : decide (0 ≤ b ∧ b < 256) = true := by simp; omega
    have k3 : decide (0 ≤ c ∧ c < 16) = true := by simp; omega
    have k := Lib.hid (pack_eq a b c h1 h2 h3 h4 h5 h6)
    rw [e, ev]; clear e ev h1 h2 h3 h4 h5 h6
    go_enter Tryz.func44, Tryz.ntmps44
    go_wp2_with (first | (go_at_call 86; ((with_reducible refine (fits_c _ _ _ (by first | exact Or.inl ⟨rfl, rfl⟩ | exact Or.inr (Or.inl ⟨rfl, rfl⟩) | exact Or.inr (Or.inr ⟨rfl, rfl⟩)) ?_ ?_ _).mono ?_); (first | with_reducible assumption | omega); (first | with_reducible assumption | omega); rintro e w' ⟨rfl, rfl⟩)))
    go_ret2
    rw [← k.out]
    exact ⟨rfl, rfl⟩
end Wd
end Go.Proofs.YtdaojohdmidemaaGreat
