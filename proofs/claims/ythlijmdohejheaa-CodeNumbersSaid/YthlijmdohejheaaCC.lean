/- The landed instructions: slots, the end, literals. -/
import Derived.Test.YthlijmdohejheaaCA
namespace Go.Proofs.Ythlijmdohejheaa
open Go.RowKit
set_option linter.unusedVariables false
set_option maxRecDepth 20000
namespace Wd
def slR (m : MethA) : Bool := decide (0 ≤ m.args) && decide (0 ≤ m.temps) && decide (m.temps ≤ 8 - m.args)
set_option maxHeartbeats 8000000 in
theorem kslots_c {w : World} {v : Value} {m : MethA} (h : MeV w v m) : Calls Try.prog 27 #[v] w fun e w' => e = .returned (.bool (slR m)) ∧ Below w.heap.size w w' := by
  obtain ⟨la, lc, ca, cc, rfl, hl, hc⟩ := h.ex
  have hB := Lib.hid (MeB.born h)
  have hW := Lib.hid ((Below.refl w.heap.size w).alloc (Nat.le_refl _) (.cells #[.int .i64 m.args, .int .i64 m.temps, .slice la m.lits.length lc, .slice ca m.code.length cc] 37))
  obtain ⟨p0, p1⟩ := h.a64
  obtain ⟨p2, p3⟩ := h.t64
  have a0 := hB.out.c0
  have a1 := hB.out.c1
  go_enter Try.func27, Try.ntmps27
  go_upto_region 1 with fail
  clear h hl hc
  generalize w.alloc (.cells #[.int .i64 m.args, .int .i64 m.temps, .slice la m.lits.length lc, .slice ca m.code.length cc] 37) = W at *
  by_cases h0 : 0 ≤ m.args
  · have d0 : decide (m.args ≥ 0) = true := by simpa using h0
    have wk : IntKind.i64.wrap (8 - m.args) = 8 - m.args := by rw [IntKind.wrap_i64]; omega
    by_cases h1 : 0 ≤ m.temps
    · have d1 : decide (m.temps ≥ 0) = true := by simpa using h1
      have e : Hid (slR m = decide (m.temps ≤ 8 - m.args)) := Lib.hid (by unfold slR; rw [decide_eq_true h0, decide_eq_true h1]; rfl)
      go_wp2
      go_ret
      exact ⟨by rw [e.out]; rfl, hW.out⟩
    · have d1 : decide (m.temps ≥ 0) = false := by simpa using h1
      have e : Hid (slR m = false) := Lib.hid (by unfold slR; rw [decide_eq_true h0, decide_eq_false h1]; rfl)
      go_wp2
      go_ret
      exact ⟨by rw [e.out]; rfl, hW.out⟩
  · have d0 : decide (m.args ≥ 0) = false := by simpa using h0
    have e : Hid (slR m = false) := Lib.hid (by unfold slR; rw [decide_eq_false h0]; rfl)
    go_wp2
    go_ret
    exact ⟨by rw [e.out]; rfl, hW.out⟩
def endB (x : Int) : Bool := decide (x = 14) || decide (x = 19) || decide (x = 16)
def endR (C : List Int) : Bool := if C.length < 2 ∨ C.length % 2 ≠ 0 then false else endB (byAt C (C.length - 2))
set_option maxHeartbeats 8000000 in
theorem kend_c {w : World} {v : Value} {C : List Int} (h : ByV w v C) : Calls Try.prog 28 #[v] w fun e w' => e = .returned (.bool (endR C)) ∧ w' = w := by
  obtain ⟨ca, cc, rfl, hcc, hcm⟩ := h.form
  have hle := len_le h.le
  go_enter Try.func28, Try.ntmps28
  go_upto_region 1 with fail
  by_cases h2 : C.length < 2
  · have d2 : decide ((C.length : Int) < 2) = true := by simp; omega
    have e : Hid (endR C = false) := Lib.hid (if_pos (Or.inl h2))
    go_wp2
    go_ret
    exact ⟨by rw [e.out]; rfl, rfl⟩
  have d2 : decide ((C.length : Int) < 2) = false := by simp; omega
  have hm := mod2 (n := C.length)
  rcases (show C.length % 2 = 1 ∨ C.length % 2 = 0 by omega) with h1 | h1
  · have e : Hid (endR C = false) := Lib.hid (if_pos (Or.inr (by omega)))
    rw [h1] at hm
    replace hm : Int.tmod (C.length : Int) 2 = 1 := hm
    go_wp2
    go_ret
    exact ⟨by rw [e.out]; rfl, rfl⟩
  rw [h1] at hm
  replace hm : Int.tmod (C.length : Int) 2 = 0 := hm
  have e : endR C = endB (byAt C (C.length - 2)) := if_neg (by omega)
  obtain ⟨k, hk⟩ : ∃ k, k = C.length - 2 := ⟨_, rfl⟩
  have wm : IntKind.i64.wrap ((C.length : Int) - 2) = (k : Int) := by rw [IntKind.wrap_i64]; omega
  have k0 : (0 : Int) ≤ (k : Int) := by omega
  have k1 : (k : Int) < (C.length : Int) := by omega
  obtain ⟨bb, g, off, rfl, c0⟩ := h.at (byAt_some (C := C) (k := k) (by omega))
  rw [← hk] at e
  generalize byAt C k = x at *
  replace e := Lib.hid e
  clear hk
  go_upto_region 4 with fail
  clear d2 hm h1 h2
  by_cases h14 : x = 14
  · subst h14
    go_wp2
    go_ret
    exact ⟨by rw [e.out]; rfl, rfl⟩
  by_cases h19 : x = 19
  · subst h19
    go_wp2
    go_ret
    exact ⟨by rw [e.out]; rfl, rfl⟩
  by_cases h16 : x = 16
  · subst h16
    go_wp2
    go_ret
    exact ⟨by rw [e.out]; rfl, rfl⟩
  have f14 : (x == 14) = false := by simpa using h14
  have f19 : (x == 19) = false := by simpa using h19
  have f16 : (x == 16) = false := by simpa using h16
  have e' : Hid (endB x = false) := Lib.hid (by unfold endB; rw [decide_eq_false h14, decide_eq_false h19, decide_eq_false h16]; rfl)
  clear h14 h19 h16
  go_wp2
  go_ret
  exact ⟨by rw [e.out, e'.out]; rfl, rfl⟩
set_option maxHeartbeats 8000000 in
theorem krightLit_c {w : World} {u : Value} {U : UnitA} (h : UnK w u U) (k x : Int) :
    Calls Try.prog 36 #[.agg #[.int .i64 k, .int .i64 x], u] w fun e w' => e = .returned (.bool (litR (k, x) U.names.length U.classes.length U.methods.length)) ∧ Below w.heap.size w w' := by
  obtain ⟨na, nc, ca, cc, ma, mc, oa, oc, rfl, hu⟩ := h.ex
  clear h hu
  generalize U.names.length = nn at *
  generalize U.classes.length = nk at *
  generalize U.methods.length = nm at *
  generalize U.objects.length = no at *
  generalize U.main = um at *
  have hW := Lib.hid (((Below.refl w.heap.size w).alloc (Nat.le_refl _) (.cells #[.int .i64 k, .int .i64 x] 41)).alloc (by simp only [World.size_alloc]; omega) (.cells #[.slice na nn nc, .slice ca nk cc, .slice ma nm mc, .slice oa no oc, .int .i64 um] 27))
  by_cases h3 : k = 3
  · subst h3
    by_cases h0 : -1073741824 ≤ x
    · have d0 : decide (x ≥ -1073741824) = true := by simpa using h0
      have e : Hid (litR (3, x) nn nk nm = decide (x ≤ 1073741823)) := Lib.hid ((lit_num x nn nk nm).trans (by unfold num30; rw [decide_eq_true h0]; rfl))
      go_enter Try.func36, Try.ntmps36
      go_wp2
      go_ret
      exact ⟨by rw [e.out]; rfl, hW.out⟩
    · have d0 : decide (x ≥ -1073741824) = false := by simp; omega
      have e : Hid (litR (3, x) nn nk nm = false) := Lib.hid ((lit_num x nn nk nm).trans (by unfold num30; rw [decide_eq_false h0]; rfl))
      go_enter Try.func36, Try.ntmps36
      go_wp2
      go_ret
      exact ⟨by rw [e.out]; rfl, hW.out⟩
  by_cases h5 : k = 5
  · subst h5
    have PN := Lib.hid (fun w => kisOne_c x (nn : Int) w)
    have e : Hid (litR (5, x) nn nk nm = (decide (0 ≤ x) && decide (x < (nn : Int)))) := Lib.hid (lit_sel x nn nk nm)
    go_enter Try.func36, Try.ntmps36
    go_wp2_with fail
    refine (PN.out _).mono ?_
    rintro e1 w1 ⟨rfl, hw⟩
    subst w1
    go_wp2
    go_ret
    exact ⟨by rw [e.out]; rfl, hW.out⟩
  by_cases h6 : k = 6
  · subst h6
    have PN := Lib.hid (fun w => kisOne_c x (nk : Int) w)
    have e : Hid (litR (6, x) nn nk nm = (decide (0 ≤ x) && decide (x < (nk : Int)))) := Lib.hid (lit_cls x nn nk nm)
    go_enter Try.func36, Try.ntmps36
    go_wp2_with fail
    refine (PN.out _).mono ?_
    rintro e1 w1 ⟨rfl, hw⟩
    subst w1
    go_wp2
    go_ret
    exact ⟨by rw [e.out]; rfl, hW.out⟩
  by_cases h7 : k = 7
  · subst h7
    have PN := Lib.hid (fun w => kisOne_c x (nm : Int) w)
    have e : Hid (litR (7, x) nn nk nm = (decide (0 ≤ x) && decide (x < (nm : Int)))) := Lib.hid (lit_blk x nn nk nm)
    go_enter Try.func36, Try.ntmps36
    go_wp2_with fail
    refine (PN.out _).mono ?_
    rintro e1 w1 ⟨rfl, hw⟩
    subst w1
    go_wp2
    go_ret
    exact ⟨by rw [e.out]; rfl, hW.out⟩
  have e : Hid (litR (k, x) nn nk nm = false) := Lib.hid (lit_no nn nk nm h3 h5 h6 h7)
  have f3 : (k == 3) = false := by simpa using h3
  have f5 : (k == 5) = false := by simpa using h5
  have f6 : (k == 6) = false := by simpa using h6
  have f7 : (k == 7) = false := by simpa using h7
  clear h3 h5 h6 h7
  go_enter Try.func36, Try.ntmps36
  go_wp2
  go_ret
  exact ⟨by rw [e.out]; rfl, hW.out⟩
/-- literals, a program in its box -/
structure LiS (w0 wr : World) (q : Nat) (v u : Value) (L : List (Int × Int)) (U : UnitA) (na ka ma oa : Option Addr) (nc kc mc oc : Nat) : Prop where
  l : PrV wr v L
  u : UnB wr q u U na ka ma oa nc kc mc oc
  bel : Below w0.heap.size w0 wr
theorem LiS.up {w0 w w1 : World} {q : Nat} {v u : Value} {L : List (Int × Int)} {U : UnitA} {na ka ma oa : Option Addr} {nc kc mc oc : Nat} (h : LiS w0 w q v u L U na ka ma oa nc kc mc oc) (b : Below w.heap.size w w1) : LiS w0 w1 q v u L U na ka ma oa nc kc mc oc :=
  ⟨h.l.up b, h.u.up b, h.bel.trans (b.mono h.bel.size)⟩
set_option maxHeartbeats 16000000 in
theorem klits_c {w : World} {v u : Value} {L : List (Int × Int)} {U : UnitA} (h : PrV w v L) (hu : UnK w u U) :
    Calls Try.prog 29 #[v, u] w fun e w' => e = .returned (.bool (L.all (fun x => litR x U.names.length U.classes.length U.methods.length))) ∧ Below w.heap.size w w' := by
  obtain ⟨la, lc, rfl, hlc, hlm, _⟩ := h.ex
  obtain ⟨na, nc, ka, kc, ma, mc, oa, oc, rfl, _⟩ := hu.ex
  have hw1 := (Below.refl w.heap.size w).alloc (Nat.le_refl _) (.cells #[.slice na U.names.length nc, .slice ka U.classes.length kc, .slice ma U.methods.length mc, .slice oa U.objects.length oc, .int .i64 U.main] 27)
  have S0 : Hid (LiS w (w.alloc (.cells #[.slice na U.names.length nc, .slice ka U.classes.length kc, .slice ma U.methods.length mc, .slice oa U.objects.length oc, .int .i64 U.main] 27)) w.heap.size _ _ L U na ka ma oa nc kc mc oc) := Lib.hid ⟨h.up hw1, UnB.born hu, hw1⟩
  have hle := len_le h.le
  clear h hu hw1
  have hst : Hid (L.all (fun x => litR x U.names.length U.classes.length U.methods.length) = (L.drop 0).all (fun x => litR x U.names.length U.classes.length U.methods.length)) := Lib.hid (by rw [List.drop_zero])
  go_enter Try.func29, Try.ntmps29
  go_upto_region 1 with fail
  generalize w.alloc (.cells #[.slice na U.names.length nc, .slice ka U.classes.length kc, .slice ma U.methods.length mc, .slice oa U.objects.length oc, .int .i64 U.main] 27) = W at *
  go_wp2
  go_loopw [9] (fun i9 wr => ∃ k : Nat, k ≤ L.length ∧ i9 = .int .i64 k ∧ Hid (L.all (fun x => litR x U.names.length U.classes.length U.methods.length) = (L.drop k).all (fun x => litR x U.names.length U.classes.length U.methods.length)) ∧ Hid (LiS w wr w.heap.size (.slice la L.length lc) (.agg #[.slice na U.names.length nc, .slice ka U.classes.length kc, .slice ma U.methods.length mc, .slice oa U.objects.length oc, .int .i64 U.main]) L U na ka ma oa nc kc mc oc)) (fun i9 _ => L.length - (intOf i9).toNat)
  case atStart => exact ⟨0, by omega, rfl, hst, S0⟩
  case round =>
    clear hst S0
    obtain ⟨j, hj, rfl, hA, S⟩ := hrel
    by_cases hlt : j < L.length
    · have d1 : decide ((j : Int) < (L.length : Int)) = true := by simp; omega
      have j0 : (0 : Int) ≤ (j : Int) := by omega
      have j1 : (j : Int) < (L.length : Int) := by omega
      obtain ⟨⟨lk, lx⟩, hx⟩ : ∃ x, L[j]? = some x := ⟨L[j]'hlt, by simp⟩
      obtain ⟨_, _, g', off', rfl, l0, l1⟩ := S.out.l.at hx
      have hnx := all_next (f := fun x => litR x U.names.length U.classes.length U.methods.length) hx
      have hS1 := S.out.up ((Below.refl _ _).alloc (Nat.le_refl _) (.cells #[.int .i64 lk, .int .i64 lx] 41))
      have PL := Lib.hid (krightLit_c hS1.u.un lk lx)
      replace hS1 := Lib.hid hS1
      have u0 := hS1.out.u.c0
      have u1 := hS1.out.u.c1
      have u2' := hS1.out.u.c2
      have u3 := hS1.out.u.c3
      have u4' := hS1.out.u.c4
      clear hx S
      cases hb : litR (lk, lx) U.names.length U.classes.length U.methods.length with
      | true =>
        rw [hb, Bool.true_and] at hnx
        rw [hb] at PL
        have hA' := Lib.hid (hA.out.trans hnx)
        clear hnx hb hA
        go_wp2_with fail
        with_reducible refine PL.out.mono ?_
        rintro e1 w2 ⟨rfl, hb2⟩
        go_wp2
        go_roundw
        case rel => exact ⟨j + 1, by omega, by go_num, hA', Lib.hid (hS1.out.up hb2)⟩
        case measure => simp [intOf]; omega
      | false =>
        rw [hb, Bool.false_and] at hnx
        rw [hb] at PL
        have eT := Lib.hid (hA.out.trans hnx)
        clear hnx hb hA
        go_wp2_with fail
        with_reducible refine PL.out.mono ?_
        rintro e1 w2 ⟨rfl, hb2⟩
        go_wp2
        go_ret
        exact ⟨by rw [eT.out]; rfl, (hS1.out.up hb2).bel⟩
    · have d1 : decide ((j : Int) < (L.length : Int)) = false := by simp; omega
      have hall := hA.out
      rw [show j = L.length by omega, List.drop_length] at hall
      replace hall := Lib.hid hall
      clear hA
      go_wp2
      go_ret
      exact ⟨by rw [hall.out]; rfl, S.out.bel⟩
end Wd
end Go.Proofs.Ythlijmdohejheaa
