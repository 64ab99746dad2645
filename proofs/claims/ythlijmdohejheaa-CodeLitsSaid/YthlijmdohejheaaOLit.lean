/- The document's own instructions: has a method such a literal? is a literal right? -/
import Derived.Test.YthlijmdohejheaaOFet
namespace Go.Proofs.Ythlijmdohejheaa
open Go.RowKit
set_option linter.unusedVariables false
set_option maxRecDepth 20000
namespace Wd
theorem litAt_some {L : List (Int × Int)} {k : Nat} (h : k < L.length) : L[k]? = some (litAt L (k : Int)) := by
  unfold litAt
  rw [Int.toNat_natCast, List.getD_eq_getElem?_getD, List.getElem?_eq_getElem h]; rfl
set_option maxHeartbeats 8000000 in
theorem rlit_c {w : World} {v : Value} {m : MethA} (h : MeV w v m) (i kind : Int) (i0 : 0 ≤ i) (i1 : i ≤ 255) :
    Calls Try.prog 39 #[v, .int .i64 i, .int .i64 kind] w fun e w' => e = .returned (.bool (hasLit m.lits i kind)) ∧ Below w.heap.size w w' := by
  obtain ⟨la, lc, ca, cc, rfl, hl, hc⟩ := h.ex
  have hB := Lib.hid (MeB.born h)
  have hW := Lib.hid ((Below.refl w.heap.size w).alloc (Nat.le_refl _) (.cells #[.int .i64 m.args, .int .i64 m.temps, .slice la m.lits.length lc, .slice ca m.code.length cc] 37))
  have hle := len_le hl.le
  obtain ⟨k, rfl⟩ : ∃ k : Nat, i = k := ⟨i.toNat, by omega⟩
  by_cases h0 : k < m.lits.length
  · have d0 : decide ((k : Int) < (m.lits.length : Int)) = true := by simp; omega
    have k0 : (0 : Int) ≤ (k : Int) := by omega
    have k1 : (k : Int) < (m.lits.length : Int) := by omega
    obtain ⟨_, _, g, off, rfl, c0, c1⟩ := hB.out.py.1.at (litAt_some h0)
    have e : Hid (hasLit m.lits (k : Int) kind = ((litAt m.lits (k : Int)).1 == kind)) := Lib.hid (by
      unfold hasLit; rw [d0, Bool.true_and]; rfl)
    generalize (litAt m.lits (k : Int)).1 = x at *
    have a2 := hB.out.c2
    go_enter Try.func39, Try.ntmps39
    go_upto_region 1 with fail
    generalize w.alloc (.cells #[.int .i64 m.args, .int .i64 m.temps, .slice (some ⟨g, off, none⟩) m.lits.length lc, .slice ca m.code.length cc] 37) = W at *
    go_wp2
    go_ret
    exact ⟨by rw [e.out]; rfl, hW.out⟩
  · have d0 : decide ((k : Int) < (m.lits.length : Int)) = false := by simp; omega
    have e : Hid (hasLit m.lits (k : Int) kind = false) := Lib.hid (by unfold hasLit; rw [d0]; rfl)
    have a2 := hB.out.c2
    go_enter Try.func39, Try.ntmps39
    go_wp2
    go_ret
    exact ⟨by rw [e.out]; rfl, hW.out⟩
/-- a program, by value -/
structure UnK (w : World) (v : Value) (U : UnitA) : Prop where
  mk ::
  ex : ∃ na nc ca cc ma mc oa oc, v = .agg #[.slice na U.names.length nc, .slice ca U.classes.length cc, .slice ma U.methods.length mc, .slice oa U.objects.length oc, .int .i64 U.main] ∧ UnV w (.slice na U.names.length nc) (.slice ca U.classes.length cc) (.slice ma U.methods.length mc) (.slice oa U.objects.length oc) U
theorem UnK.up {w w1 : World} {v : Value} {U : UnitA} (h : UnK w v U) (b : Below w.heap.size w w1) : UnK w1 v U := by
  obtain ⟨na, nc, ca, cc, ma, mc, oa, oc, e, h⟩ := h.ex
  exact ⟨⟨na, nc, ca, cc, ma, mc, oa, oc, e, h.up b⟩⟩
def num30 (x : Int) : Bool := decide (-1073741824 ≤ x) && decide (x ≤ 1073741823)
def inN (x : Int) (n : Nat) : Bool := decide (0 ≤ x) && decide (x < (n : Int))
theorem lit_num (x : Int) (nn nc nm : Nat) : litR (3, x) nn nc nm = num30 x := rfl
theorem lit_sel (x : Int) (nn nc nm : Nat) : litR (5, x) nn nc nm = inN x nn := rfl
theorem lit_cls (x : Int) (nn nc nm : Nat) : litR (6, x) nn nc nm = inN x nc := rfl
theorem lit_blk (x : Int) (nn nc nm : Nat) : litR (7, x) nn nc nm = inN x nm := rfl
theorem lit_no {k x : Int} (nn nc nm : Nat) (h3 : k ≠ 3) (h5 : k ≠ 5) (h6 : k ≠ 6) (h7 : k ≠ 7) : litR (k, x) nn nc nm = false := by
  unfold litR
  rw [if_neg h3, if_neg h5, if_neg h6, if_neg h7]
theorem inN_y {x : Int} {n : Nat} (h0 : 0 ≤ x) : inN x n = decide (x < (n : Int)) := by unfold inN; rw [decide_eq_true h0]; rfl
theorem inN_n {x : Int} {n : Nat} (h0 : ¬ 0 ≤ x) : inN x n = false := by unfold inN; rw [decide_eq_false h0]; rfl
set_option maxHeartbeats 8000000 in
theorem rliteral_c {w : World} {u : Value} {U : UnitA} (h : UnK w u U) (k x : Int) :
    Calls Try.prog 34 #[.agg #[.int .i64 k, .int .i64 x], u] w fun e w' => e = .returned (.bool (litR (k, x) U.names.length U.classes.length U.methods.length)) ∧ Below w.heap.size w w' := by
  obtain ⟨na, nc, ca, cc, ma, mc, oa, oc, rfl, hu⟩ := h.ex
  clear h hu
  generalize U.names.length = nn at *
  generalize U.classes.length = nk at *
  generalize U.methods.length = nm at *
  generalize U.objects.length = no at *
  generalize U.main = um at *
  have hW := Lib.hid (((Below.refl w.heap.size w).alloc (Nat.le_refl _) (.cells #[.int .i64 k, .int .i64 x] 41)).alloc (by simp only [World.size_alloc]; omega) (.cells #[.slice na nn nc, .slice ca nk cc, .slice ma nm mc, .slice oa no oc, .int .i64 um] 27))
  by_cases h3 : k = 3
  · subst h3
    have PN := Lib.hid (fun w => rnumber_c x w)
    have e : Hid (litR (3, x) nn nk nm = num30 x) := Lib.hid (lit_num x nn nk nm)
    go_enter Try.func34, Try.ntmps34
    go_wp2_with fail
    refine (PN.out _).mono ?_
    rintro e1 w1 ⟨rfl, hw⟩
    subst w1
    go_wp2
    go_ret
    exact ⟨by rw [e.out]; rfl, hW.out⟩
  by_cases h5 : k = 5
  · subst h5
    by_cases h0 : 0 ≤ x
    · have d0 : decide (x ≥ 0) = true := by simpa using h0
      have e : Hid (litR (5, x) nn nk nm = decide (x < (nn : Int))) := Lib.hid ((lit_sel x nn nk nm).trans (inN_y h0))
      go_enter Try.func34, Try.ntmps34
      go_wp2
      go_ret
      exact ⟨by rw [e.out]; rfl, hW.out⟩
    · have d0 : decide (x ≥ 0) = false := by simpa using h0
      have e : Hid (litR (5, x) nn nk nm = false) := Lib.hid ((lit_sel x nn nk nm).trans (inN_n h0))
      go_enter Try.func34, Try.ntmps34
      go_wp2
      go_ret
      exact ⟨by rw [e.out]; rfl, hW.out⟩
  by_cases h6 : k = 6
  · subst h6
    by_cases h0 : 0 ≤ x
    · have d0 : decide (x ≥ 0) = true := by simpa using h0
      have e : Hid (litR (6, x) nn nk nm = decide (x < (nk : Int))) := Lib.hid ((lit_cls x nn nk nm).trans (inN_y h0))
      go_enter Try.func34, Try.ntmps34
      go_wp2
      go_ret
      exact ⟨by rw [e.out]; rfl, hW.out⟩
    · have d0 : decide (x ≥ 0) = false := by simpa using h0
      have e : Hid (litR (6, x) nn nk nm = false) := Lib.hid ((lit_cls x nn nk nm).trans (inN_n h0))
      go_enter Try.func34, Try.ntmps34
      go_wp2
      go_ret
      exact ⟨by rw [e.out]; rfl, hW.out⟩
  by_cases h7 : k = 7
  · subst h7
    by_cases h0 : 0 ≤ x
    · have d0 : decide (x ≥ 0) = true := by simpa using h0
      have e : Hid (litR (7, x) nn nk nm = decide (x < (nm : Int))) := Lib.hid ((lit_blk x nn nk nm).trans (inN_y h0))
      go_enter Try.func34, Try.ntmps34
      go_wp2
      go_ret
      exact ⟨by rw [e.out]; rfl, hW.out⟩
    · have d0 : decide (x ≥ 0) = false := by simpa using h0
      have e : Hid (litR (7, x) nn nk nm = false) := Lib.hid ((lit_blk x nn nk nm).trans (inN_n h0))
      go_enter Try.func34, Try.ntmps34
      go_wp2
      go_ret
      exact ⟨by rw [e.out]; rfl, hW.out⟩
  have e : Hid (litR (k, x) nn nk nm = false) := Lib.hid (lit_no nn nk nm h3 h5 h6 h7)
  have f3 : (k == 3) = false := by simpa using h3
  have f5 : (k == 5) = false := by simpa using h5
  have f6 : (k == 6) = false := by simpa using h6
  have f7 : (k == 7) = false := by simpa using h7
  clear h3 h5 h6 h7
  go_enter Try.func34, Try.ntmps34
  go_wp2
  go_ret
  exact ⟨by rw [e.out]; rfl, hW.out⟩
end Wd
end Go.Proofs.Ythlijmdohejheaa
