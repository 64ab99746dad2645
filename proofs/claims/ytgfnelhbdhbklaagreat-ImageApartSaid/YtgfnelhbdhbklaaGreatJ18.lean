/- Texts joined: VJ, ILD, ILY. -/
import Derived.Test.YtgfnelhbdhbklaaGreatJ10
import Derived.Test.YtgfnelhbdhbklaaGreatJ13
import Derived.Test.YtgfnelhbdhbklaaGreatJ14
import Derived.Test.YtgfnelhbdhbklaaGreatJ17
/- The landed programs: is a whole program right? -/
namespace Go.Proofs.YtgfnelhbdhbklaaGreat
open Go.RowKit
set_option linter.unusedVariables false
set_option maxRecDepth 20000
namespace Wd
theorem main_no {U : UnitA} (h : ¬ (0 ≤ U.main ∧ U.main < (U.methods.length : Int))) : mainE U = 15 := by
  unfold mainE; rw [if_neg (fun g => h ⟨g.1, g.2.1⟩)]
theorem umain_at {U : UnitA} {q : Nat} {x : MethA} (e : U.main = (q : Int)) (hx : U.methods[q]? = some x) : mainE U = if x.args = 0 then 0 else 15 := by
  have hq := (List.getElem?_eq_some_iff.1 hx).1
  have ha : agAt U.methods U.main = x.args := by unfold agAt; rw [e, Int.toNat_natCast, hx]
  unfold mainE
  rw [ha]
  by_cases h : x.args = 0
  · rw [if_pos h, if_pos ⟨by omega, by omega, h⟩]
  · rw [if_neg h, if_neg (fun g => h g.2.2)]
set_option maxHeartbeats 32000000 in
theorem uright_c {w : World} {u : Value} {U : UnitA} (hu : UnK w u U) :
    Calls Tryz.prog 30 #[u] w fun e w' => e = .returned (.int .i64 (unitR U)) ∧ Below w.heap.size w w' := by
  obtain ⟨na, nc, ca, cc, ma, mc, oa, oc, l1, l2, l3, l4, rfl, hS, j1, j2, j3, j4⟩ := hu.v1
  clear hu
  have gg := Lib.hid hS.lens
  have eU := Lib.hid (unit_eq U)
  generalize unitR U = r at *
  replace hS := Lib.hid hS
  have PL := Lib.hid (fun (w' : World) (h : UnK w' (.agg #[.slice na l1 nc, .slice ca l2 cc, .slice ma l3 mc, .slice oa l4 oc, .int .i64 U.main]) U) => ulengths_c h)
  have PN := Lib.hid (fun (w' : World) (h : NmV w' (.slice na l1 nc) U.names) => unames_c h)
  have PC := Lib.hid (fun (w' : World) (h : UnK w' (.agg #[.slice na l1 nc, .slice ca l2 cc, .slice ma l3 mc, .slice oa l4 oc, .int .i64 U.main]) U) => uwhyC_c h)
  go_enter Tryz.func30, Tryz.ntmps30
  go_upto_region 1 with fail
  generalize w.alloc (.cells #[.slice na l1 nc, .slice ca l2 cc, .slice ma l3 mc, .slice oa l4 oc, .int .i64 U.main] 27) = W at *
  obtain ⟨a0, a1, a2, a3, a4⟩ := hS.out.cells
  go_wp2_with fail
  refine (PL.out _ hS.out.unk).mono ?_
  rintro e w2 ⟨rfl, hb2⟩
  replace hS := Lib.hid (hS.out.up hb2)
  clear hb2 a0 a1 a2 a3 a4 PL
  obtain ⟨a0, a1, a2, a3, a4⟩ := hS.out.cells
  cases q : longB U with
  | true =>
    as_aux_lemma =>
    have e : Hid (r = 3) := Lib.hid (by rw [eU.out, if_pos q])
    clear q eU
    go_wp2
    go_ret
    exact ⟨congrArg (fun b => Ending.returned (Value.int .i64 b)) e.out.symm, hS.out.bel⟩
  | false =>
  replace eU := Lib.hid (eU.out.trans (if_neg (by rw [q]; decide)))
  clear q
  go_wp2_with fail
  refine (PN.out _ hS.out.views.1).mono ?_
  rintro e w3 ⟨rfl, rfl⟩
  cases q : namesB U.names with
  | false =>
    as_aux_lemma =>
    have e : Hid (r = 13) := Lib.hid (by rw [eU.out, if_pos q])
    clear q eU
    go_wp2
    go_ret
    exact ⟨congrArg (fun b => Ending.returned (Value.int .i64 b)) e.out.symm, hS.out.bel⟩
  | true =>
  replace eU := Lib.hid (eU.out.trans (if_neg (by rw [q]; decide)))
  clear q PN
  go_wp2_with fail
  refine (PC.out _ hS.out.unk).mono ?_
  rintro e w2 ⟨rfl, hb2⟩
  replace hS := Lib.hid (hS.out.up hb2)
  clear hb2 a0 a1 a2 a3 a4 PC
  obtain ⟨a0, a1, a2, a3, a4⟩ := hS.out.cells
  have hs0 := Lib.hid (fun h => whyC_0 (U := U) h)
  generalize whyC U = s at *
  by_cases hz : ¬ s = 0
  · as_aux_lemma =>
    have e : Hid (r = s) := Lib.hid (by rw [eU.out, if_pos hz])
    have hz' : (s != 0) = true := by simpa using hz
    clear eU hz
    go_wp2
    go_ret
    exact ⟨congrArg (fun b => Ending.returned (Value.int .i64 b)) e.out.symm, hS.out.bel⟩
  replace eU := Lib.hid (eU.out.trans (if_neg hz))
  replace hz : s = 0 := Decidable.not_not.1 hz
  replace hs0 := Lib.hid (hs0.out hz)
  subst hz
  have PM := Lib.hid (fun (w' : World) (h : UnK w' (.agg #[.slice na l1 nc, .slice ca l2 cc, .slice ma l3 mc, .slice oa l4 oc, .int .i64 U.main]) U) => uwhyM_c h hs0.out)
  have PO := Lib.hid (fun (w' : World) (h : UnK w' (.agg #[.slice na l1 nc, .slice ca l2 cc, .slice ma l3 mc, .slice oa l4 oc, .int .i64 U.main]) U) => uobjects_c h hs0.out)
  clear hs0
  go_wp2_with fail
  refine (PM.out _ hS.out.unk).mono ?_
  rintro e w2 ⟨rfl, hb2⟩
  replace hS := Lib.hid (hS.out.up hb2)
  clear hb2 a0 a1 a2 a3 a4 PM
  obtain ⟨a0, a1, a2, a3, a4⟩ := hS.out.cells
  generalize whyM U = s at *
  by_cases hz : ¬ s = 0
  · as_aux_lemma =>
    have e : Hid (r = s) := Lib.hid (by rw [eU.out, if_pos hz])
    have hz' : (s != 0) = true := by simpa using hz
    clear eU hz
    go_wp2
    go_ret
    exact ⟨congrArg (fun b => Ending.returned (Value.int .i64 b)) e.out.symm, hS.out.bel⟩
  replace eU := Lib.hid (eU.out.trans (if_neg hz))
  replace hz : s = 0 := Decidable.not_not.1 hz
  subst hz
  go_wp2_with fail
  refine (PO.out _ hS.out.unk).mono ?_
  rintro e w2 ⟨rfl, hb2⟩
  replace hS := Lib.hid (hS.out.up hb2)
  clear hb2 a0 a1 a2 a3 a4 PO
  obtain ⟨a0, a1, a2, a3, a4⟩ := hS.out.cells
  cases q : objsB U with
  | false =>
    as_aux_lemma =>
    have e : Hid (r = 16) := Lib.hid (by rw [eU.out, if_pos q])
    clear q eU
    go_wp2
    go_ret
    exact ⟨congrArg (fun b => Ending.returned (Value.int .i64 b)) e.out.symm, hS.out.bel⟩
  | true =>
  replace eU := Lib.hid (eU.out.trans (if_neg (by rw [q]; decide)))
  clear q
  have PI := Lib.hid (uisOne_c U.main (l3 : Int))
  by_cases hm : 0 ≤ U.main ∧ U.main < (l3 : Int)
  · obtain ⟨q, hq⟩ : ∃ q : Nat, U.main = (q : Int) := ⟨U.main.toNat, by omega⟩
    obtain ⟨h1, h2, h3, h4⟩ := gg.out
    obtain ⟨x, hx⟩ : ∃ x, U.methods[q]? = some x := ⟨U.methods[q]'(by omega), by simp⟩
    have eM := Lib.hid (eU.out.trans (umain_at hq hx))
    obtain ⟨mg, moff, _, _, _, _, rfl, m0, _, _, _, _⟩ := MtV.at hS.out.views.2.2.1 hx
    rw [decide_eq_true hm.1, decide_eq_true hm.2] at PI
    have q0 : (0 : Int) ≤ (q : Int) := by omega
    have q1 : (q : Int) < (l3 : Int) := by omega
    rw [hq] at PI a4
    clear eU h1 h2 h3 h4 hx hq hm
    by_cases hz : x.args = 0
    · as_aux_lemma =>
      have e : Hid (r = 0) := Lib.hid (by rw [eM.out, if_pos hz])
      have hz' : (x.args != 0) = false := by simpa using hz
      clear eM hz
      go_wp2_with (first | (go_at_call 63; ((with_reducible refine (PI.out _).mono ?_); rintro e1 w2 ⟨rfl, hw2⟩; subst w2)))
      go_ret
      exact ⟨congrArg (fun b => Ending.returned (Value.int .i64 b)) e.out.symm, hS.out.bel⟩
    · as_aux_lemma =>
      have e : Hid (r = 15) := Lib.hid (by rw [eM.out, if_neg hz])
      have hz' : (x.args != 0) = true := by simpa using hz
      clear eM hz
      go_wp2_with (first | (go_at_call 63; ((with_reducible refine (PI.out _).mono ?_); rintro e1 w2 ⟨rfl, hw2⟩; subst w2)))
      go_ret
      exact ⟨congrArg (fun b => Ending.returned (Value.int .i64 b)) e.out.symm, hS.out.bel⟩
  · as_aux_lemma =>
    have e : Hid (r = 15) := Lib.hid (by rw [eU.out]; exact main_no (by obtain ⟨h1, h2, h3, h4⟩ := gg.out; rw [← h3]; exact hm))
    have hx : (decide (0 ≤ U.main) && decide (U.main < (l3 : Int))) = false := by
      rw [Bool.and_eq_false_iff, decide_eq_false_iff_not, decide_eq_false_iff_not]; omega
    rw [hx] at PI
    clear eU hm hx
    go_wp2_with (first | (go_at_call 63; ((with_reducible refine (PI.out _).mono ?_); rintro e1 w2 ⟨rfl, hw2⟩; subst w2)))
    go_ret
    exact ⟨congrArg (fun b => Ending.returned (Value.int .i64 b)) e.out.symm, hS.out.bel⟩
end Wd
end Go.Proofs.YtgfnelhbdhbklaaGreat

/- The landed image, written: a whole program; how many bytes it has. -/
namespace Go.Proofs.YtgfnelhbdhbklaaGreat
open Go.RowKit
set_option linter.unusedVariables false
set_option maxRecDepth 20000
namespace Wd
theorem code_some {U : UnitA} (h : unitR U = 0) : ∀ m ∈ U.methods, 0 < m.code.length := by
  intro m hm
  have h0 := first_0 h
  have e : metR m U.names.length U.classes.length U.methods.length = 0 := by
    refine h0 _ (List.mem_cons_of_mem _ (List.mem_cons_of_mem _ (List.mem_cons_of_mem _ ?_)))
    unfold restC
    refine List.mem_append_right _ ?_
    unfold restM
    rw [List.drop_zero]
    exact List.mem_append_left _ (List.mem_map_of_mem hm)
  unfold metR at e
  split at e
  · cases e
  · split at e
    · cases e
    · omega
theorem mark_rb {w : World} : RB (w.alloc (.cells #[.int .u8 84, .int .u8 87, .int .u8 49, .int .u8 0] 5 (4, 5))) w.heap.size 5 (.slice (some ⟨w.heap.size, 0, none⟩) 4 4) (bys [84, 87, 49, 0]) :=
  ⟨w.heap.size, 4, #[.int .u8 84, .int .u8 87, .int .u8 49, .int .u8 0], (4, 5), rfl, Nat.le_refl _, heap_alloc_new _ _, Or.inl (by decide), by decide, by decide, rfl, rfl⟩
/-- what was written lies behind w2 -/
structure BW (w2 y : World) (v : Value) (L : List Int) : Prop where
  rb : RB y w2.heap.size 5 v (bys L)
  bel : Below w2.heap.size w2 y
theorem BW.step {w2 y y1 : World} {v v1 : Value} {L M : List Int} (h : BW w2 y v L) (g : Wr w2.heap.size y y1 v v1 M) : BW w2 y1 v1 M :=
  ⟨g.rb, wr_bel g.cg (fun k hk => (h.rb.lt k hk).1) (Nat.le_refl _) h.bel⟩
theorem len_four (U : UnitA) : (bytesU U).length = 4 + (rowB txt U.names).length + (rowB clB U.classes).length + (rowB mtB U.methods).length + (rowB obB U.objects).length + 4 := by
  unfold bytesU bodyU
  simp only [List.length_append, b4_len, List.length_cons, List.length_nil]
  omega
set_option maxHeartbeats 32000000 in
theorem ibytes_c {w : World} {u : Value} {U : UnitA} (hu : UnK w u U) :
    Calls Tryz.prog 17 #[u] w fun e w' => (unitR U = 0 → ∃ v', e = .returned (.tuple #[v', .int .i64 0]) ∧ RB w' (w.heap.size + 1) 5 v' (bys (bytesU U))) ∧ (unitR U ≠ 0 → e = .returned (.tuple #[.slice none 0 0, .int .i64 (unitR U)])) ∧ Below w.heap.size w w' := by
  obtain ⟨na, nc, ca, cc, ma, mc, oa, oc, l1, l2, l3, l4, rfl, hS, j1, j2, j3, j4⟩ := hu.v1
  clear hu
  have PR := Lib.hid (fun (w' : World) (h : UnK w' (.agg #[.slice na l1 nc, .slice ca l2 cc, .slice ma l3 mc, .slice oa l4 oc, .int .i64 U.main]) U) => uright_c h)
  have hsW : w.heap.size + 1 = (w.alloc (.cells #[.slice na l1 nc, .slice ca l2 cc, .slice ma l3 mc, .slice oa l4 oc, .int .i64 U.main] 27)).heap.size := by simp
  replace hS := Lib.hid hS
  go_enter Tryz.func17, Tryz.ntmps17
  go_upto_region 1 with fail
  generalize w.alloc (.cells #[.slice na l1 nc, .slice ca l2 cc, .slice ma l3 mc, .slice oa l4 oc, .int .i64 U.main] 27) = W at *
  obtain ⟨a0, a1, a2, a3, a4⟩ := hS.out.cells
  go_upto_region 2 with (first | (go_at_call 30; ((with_reducible refine (PR.out _ hS.out.unk).mono ?_); rintro e1 w2 ⟨rfl, hb2⟩)))
  have hsz2 : w.heap.size + 1 ≤ w2.heap.size := by have := hb2.size; omega
  replace hS := Lib.hid (hS.out.up hb2)
  clear hb2 a0 a1 a2 a3 a4 PR hsW
  by_cases hr : unitR U = 0
  · have hz := bytes_le (right_u hr)
    have h0 := Lib.hid (code_some hr)
    rw [len_four] at hz
    rw [hr]
    have hr' := Lib.hid hr
    clear hr
    have hY := Lib.hid (show BW w2 _ _ _ from ⟨mark_rb (w := w2), (Below.refl w2.heap.size w2).alloc (Nat.le_refl _) _⟩)
    have PCV : (convert 36 36 (.slice (some ⟨w2.heap.size, 0, none⟩) 4 4)).run Tryz.prog (w2.alloc (.cells #[.int .u8 84, .int .u8 87, .int .u8 49, .int .u8 0] 5)) = _ := cv_at _ 36 5 _ 4 4 w2.heap.size rfl Tryz.underlying36 Tryz.underlying5
    obtain ⟨a0, a1, a2, a3, a4⟩ := (hS.out.up hY.out.bel).cells
    have P := Lib.hid (prows_c (Nat.le_refl _) hS.out.views.1 hY.out.bel hY.out.rb hY.out.bel.size (by simp only [List.length_cons, List.length_nil]; omega))
    go_upto_region 5 with (first | (go_at_call 31; ((with_reducible refine P.out.mono ?_); rintro e1 w3 ⟨v3, rfl, hw3⟩)))
    replace hY := Lib.hid (hY.out.step hw3)
    clear P hw3 a0 a1 a2 a3 a4 PCV
    obtain ⟨a0, a1, a2, a3, a4⟩ := (hS.out.up hY.out.bel).cells
    have P := Lib.hid (prowc_c (Nat.le_refl _) hS.out.views.2.1 hY.out.bel hY.out.rb hY.out.bel.size (by simp only [List.length_append, List.length_cons, List.length_nil]; omega))
    go_upto_region 6 with (first | (go_at_call 33; ((with_reducible refine P.out.mono ?_); rintro e1 w4 ⟨v4, rfl, hw4⟩)))
    replace hY := Lib.hid (hY.out.step hw4)
    clear P hw4 a0 a1 a2 a3 a4
    obtain ⟨a0, a1, a2, a3, a4⟩ := (hS.out.up hY.out.bel).cells
    have P := Lib.hid (prowm_c (Nat.le_refl _) hS.out.views.2.2.1 hY.out.bel hY.out.rb hY.out.bel.size h0.out (by simp only [List.length_append, List.length_cons, List.length_nil]; omega))
    go_upto_region 7 with (first | (go_at_call 35; ((with_reducible refine P.out.mono ?_); rintro e1 w5 ⟨v5, rfl, hw5⟩)))
    replace hY := Lib.hid (hY.out.step hw5)
    clear P hw5 a0 a1 a2 a3 a4
    obtain ⟨a0, a1, a2, a3, a4⟩ := (hS.out.up hY.out.bel).cells
    have P := Lib.hid (prowo_c (Nat.le_refl _) hS.out.views.2.2.2 hY.out.bel hY.out.rb hY.out.bel.size (by simp only [List.length_append, List.length_cons, List.length_nil]; omega))
    go_upto_region 8 with (first | (go_at_call 37; ((with_reducible refine P.out.mono ?_); rintro e1 w6 ⟨v6, rfl, hw6⟩)))
    replace hY := Lib.hid (hY.out.step hw6)
    clear P hw6 a0 a1 a2 a3 a4
    obtain ⟨a0, a1, a2, a3, a4⟩ := (hS.out.up hY.out.bel).cells
    have P := Lib.hid (pnum_c hY.out.rb hY.out.bel.size (by simp only [List.length_append, List.length_cons, List.length_nil]; omega) U.main)
    go_wp2_with (first | (go_at_call 39; ((with_reducible refine P.out.mono ?_); rintro e1 w7 ⟨v7, rfl, hw7⟩)))
    replace hY := Lib.hid (hY.out.step hw7)
    clear P hw7 a0 a1 a2 a3 a4
    go_ret2
    have hf := hY.out
    refine ⟨fun _ => ⟨_, rfl, ?_⟩, fun h => (h hr'.out).elim, hS.out.bel.trans (hf.bel.mono hS.out.bel.size)⟩
    obtain ⟨g, cap, cur, fr, e, q1, q2⟩ := hf.rb.ex
    have hfin : RB w7 (w.heap.size + 1) 5 v7 (bys (bytesU U)) := by
      have e2 : bytesU U = [84, 87, 49, 0] ++ rowB txt U.names ++ rowB clB U.classes ++ rowB mtB U.methods ++ rowB obB U.objects ++ b4 U.main := by
        unfold bytesU bodyU
        simp only [List.append_assoc]
      rw [e2]
      exact ⟨g, cap, cur, fr, e, Nat.le_trans hsz2 q1, q2⟩
    exact hfin
  · have d1 : (unitR U != 0) = true := by simpa using hr
    have hr' := Lib.hid hr
    clear hr
    go_wp2
    go_ret2
    exact ⟨fun h => absurd h hr'.out, fun _ => rfl, hS.out.bel⟩
def szU (U : UnitA) : Int := if unitR U = 0 then ((bytesU U).length : Int) else 0
theorem szU_y {U : UnitA} (h : unitR U = 0) : szU U = (bytesU U).length := if_pos h
theorem szU_n {U : UnitA} (h : unitR U ≠ 0) : szU U = 0 := if_neg h
set_option maxHeartbeats 16000000 in
theorem isize_c {w : World} {u : Value} {U : UnitA} (hu : UnK w u U) :
    Calls Tryz.prog 20 #[u] w fun e w' => e = .returned (.int .i64 (szU U)) ∧ Below w.heap.size w w' := by
  obtain ⟨na, nc, ca, cc, ma, mc, oa, oc, l1, l2, l3, l4, rfl, hS, j1, j2, j3, j4⟩ := hu.v1
  clear hu
  have PR := Lib.hid (fun (w' : World) (h : UnK w' (.agg #[.slice na l1 nc, .slice ca l2 cc, .slice ma l3 mc, .slice oa l4 oc, .int .i64 U.main]) U) => ibytes_c h)
  replace hS := Lib.hid hS
  go_enter Tryz.func20, Tryz.ntmps20
  go_upto_region 1 with fail
  generalize w.alloc (.cells #[.slice na l1 nc, .slice ca l2 cc, .slice ma l3 mc, .slice oa l4 oc, .int .i64 U.main] 27) = W at *
  obtain ⟨a0, a1, a2, a3, a4⟩ := hS.out.cells
  go_wp2_with fail
  with_reducible refine (PR.out _ hS.out.unk).mono ?_
  rintro e1 w2 ⟨h1, h2, hb2⟩
  replace hS := Lib.hid (hS.out.up hb2)
  clear hb2 a0 a1 a2 a3 a4 PR
  by_cases hr : unitR U = 0
  · obtain ⟨v', rfl, hrb⟩ := h1 hr
    have e := Lib.hid (szU_y hr)
    obtain ⟨g, cap, cur, fr, rfl, q1, q2, q3, q4, q5, q6⟩ := hrb.ex
    have hbl := bys_ln (bytesU U)
    clear h1 h2 hr hrb
    go_wp2
    go_ret
    rw [e.out]
    exact ⟨rfl, hS.out.bel⟩
  · have e := Lib.hid (szU_n hr)
    obtain rfl := h2 hr
    clear h1 h2 hr
    go_wp2
    go_ret
    rw [e.out]
    exact ⟨rfl, hS.out.bel⟩
end Wd
end Go.Proofs.YtgfnelhbdhbklaaGreat

/- The landed image, read: what bytes are a program's, and what is answered. -/
namespace Go.Proofs.YtgfnelhbdhbklaaGreat
open Go.RowKit
set_option linter.unusedVariables false
set_option maxRecDepth 20000
namespace Wd
abbrev zUv : Value := .agg #[.slice none 0 0, .slice none 0 0, .slice none 0 0, .slice none 0 0, .int .i64 0]
def errB (b : List Int) : Int := if 65536 < b.length then 3 else 12
/-- what Read answers: the program whose bytes they are, or none -/
def RdA (w' : World) (b : List Int) (e : Ending) : Prop := (∃ U v, Good b U ∧ e = .returned (.tuple #[v, .int .i64 0]) ∧ UnK w' v U) ∨ ((∀ U, ¬ Good b U) ∧ e = .returned (.tuple #[zUv, .int .i64 (errB b)]))
theorem rdA_no {w' : World} {b : List Int} {m : Int} (h : ∀ U, ¬ Good b U) (hm : errB b = m) : RdA w' b (.returned (.tuple #[zUv, .int .i64 m])) := Or.inr ⟨h, by rw [hm]⟩
theorem errB_long {b : List Int} (h : 65536 < b.length) : errB b = 3 := if_pos h
theorem errB_short {b : List Int} (h : ¬ 65536 < b.length) : errB b = 12 := if_neg h
theorem read_res {ts : Array Value} {w : World} {q : Nat} {v0 v1 v2 v3 v4 x : Value} (h8 : ts.getD 2 undef = .pointer (some ⟨q, 0, none⟩)) (h9 : ts.getD 3 undef = x) (r0 : w.cell? ⟨q, 0, none⟩ = some v0) (r1 : w.cell? ⟨q, 1, none⟩ = some v1) (r2 : w.cell? ⟨q, 2, none⟩ = some v2) (r3 : w.cell? ⟨q, 3, none⟩ = some v3) (r4 : w.cell? ⟨q, 4, none⟩ = some v4) :
    (results Tryz.f18 ts).run Tryz.prog w = .ok (.tuple #[.agg #[v0, v1, v2, v3, v4], x]) w := by
  have h8' : ts[2]?.getD undef = .pointer (some ⟨q, 0, none⟩) := by rw [← Array.getD_eq_getD_getElem?]; exact h8
  have h9' : ts[3]?.getD undef = x := by rw [← Array.getD_eq_getD_getElem?]; exact h9
  simp [results, Tryz.results18, go_sem, h8', h9', r0, r1, r2, r3, r4]
theorem Good.no {b : List Int} (h : ∀ U, unL (markL b) = (U, ([], false)) → ¬ unitR U = 0) : ∀ U, ¬ Good b U := fun U g => h U (of_good g) g.1
theorem dbl5 {w : World} {E : Nat} {C : Array Value} {a0 a1 a2 a3 a4 : Value} (h : w.heap[E]? = some (.cells C 27 (0, 0))) (h0 : C = #[a0, a1, a2, a3, a4]) : w.cell? ⟨E, 0, none⟩ = some a0 ∧ w.cell? ⟨E, 1, none⟩ = some a1 ∧ w.cell? ⟨E, 2, none⟩ = some a2 ∧ w.cell? ⟨E, 3, none⟩ = some a3 ∧ w.cell? ⟨E, 4, none⟩ = some a4 := by
  subst h0
  exact ⟨cells_at h rfl, cells_at h rfl, cells_at h rfl, cells_at h rfl, cells_at h rfl⟩
set_option maxHeartbeats 32000000 in
theorem iread_c {w : World} {bv : Value} {b : List Int} (hb : ByV w bv b) (hf : SlF bv) :
    Calls Tryz.prog 18 #[bv] w fun e w' => RdA w' b e ∧ Below w.heap.size w w' := by
  obtain ⟨ad, cap, rfl, hcap, hmx⟩ := hb.form
  have hmx' : maxLen ≤ 9223372036854775807 := by decide
  have b0 := (Below.refl w.heap.size w).alloc (Nat.le_refl _) (.cells z5U 27)
  by_cases hl : 65536 < b.length
  · have d0 : decide ((65536 : Int) < (b.length : Int)) = true := by simp; omega
    have hno := Lib.hid (show ∀ U, ¬ Good b U from fun U h => by have := good_le h; omega)
    have hm := Lib.hid (errB_long hl)
    clear hb hf hl
    go_enter Tryz.func18, Tryz.ntmps18
    go_wp2
    have hh : (w.alloc (.cells #[.slice none 0 0, .slice none 0 0, .slice none 0 0, .slice none 0 0, .int .i64 0] 27)).heap[w.heap.size]? = some (.cells #[.slice none 0 0, .slice none 0 0, .slice none 0 0, .slice none 0 0, .int .i64 0] 27 (0, 0)) := heap_alloc_new _ _
    obtain ⟨c0, c1, c2, c3, c4⟩ := dbl5 hh rfl
    refine bodyPost_ret (read_res rfl rfl c0 c1 c2 c3 c4) rfl ?_
    exact ⟨rdA_no hno.out hm.out, b0⟩
  · have d0 : decide ((65536 : Int) < (b.length : Int)) = false := by simp; omega
    have hm := Lib.hid (errB_short hl)
    have hs : b.length ≤ 100000 := by omega
    have hB8 : Bd8 b := fun x hx => by
      obtain ⟨k, hk⟩ := List.getElem?_of_mem hx
      obtain ⟨ad', cap', e, h1, h2, h3⟩ := hb.ex
      exact (h3 k x hk).1
    have hgo := Lib.hid (fun U h => good_of (b := b) (U := U) hB8 h)
    have hno := Lib.hid (fun h => Good.no (b := b) h)
    have hs0 : (w.alloc (.cells #[.slice none 0 0, .slice none 0 0, .slice none 0 0, .slice none 0 0, .int .i64 0] 27)).heap.size = w.heap.size + 1 := by simp
    obtain ⟨W0, hW0⟩ : ∃ W, w.alloc (.cells #[.slice none 0 0, .slice none 0 0, .slice none 0 0, .slice none 0 0, .int .i64 0] 27) = W := ⟨_, rfl⟩
    have hz0 : W0.heap[w.heap.size]? = some (.cells #[.slice none 0 0, .slice none 0 0, .slice none 0 0, .slice none 0 0, .int .i64 0] 27 (0, 0)) := by rw [← hW0]; exact heap_alloc_new _ _
    have hbW : Below w.heap.size w W0 := by rw [← hW0]; exact b0
    rw [hW0] at hs0
    have hR : RI w (W0.alloc (.cells #[.slice ad b.length cap, .bool false] 85)) (w.heap.size + 1) (.slice ad b.length cap) (b, false) := by
      have h1 := heap_alloc_new W0 (.cells #[.slice ad b.length cap, .bool false] 85)
      rw [hs0] at h1
      exact ⟨h1, hb, hbW.alloc hbW.size _, by omega, hf⟩
    have hz1 : (W0.alloc (.cells #[.slice ad b.length cap, .bool false] 85)).heap[w.heap.size]? = some (.cells #[.slice none 0 0, .slice none 0 0, .slice none 0 0, .slice none 0 0, .int .i64 0] 27 (0, 0)) := by
      rw [← hz0]
      exact ((Below.refl W0.heap.size W0).alloc (Nat.le_refl _) _).block _ (by omega)
    have hs1 : (W0.alloc (.cells #[.slice ad b.length cap, .bool false] 85)).heap.size = w.heap.size + 2 := by simp only [World.size_alloc]; omega
    have P1 := Lib.hid (program_c hR hs)
    generalize unL (markL b) = q at P1 hgo hno
    obtain ⟨V, M, f⟩ := q
    simp only at P1
    clear hb hf hl hs hB8 b0 hR hz0 hcap
    go_enter Tryz.func18, Tryz.ntmps18
    go_upto_region 3 with fail
    try simp only [hW0]
    clear hW0
    go_wp2_with fail
    try simp only [hs0]
    obtain ⟨W1, hW1⟩ : ∃ W, W0.alloc (.cells #[.slice ad b.length cap, .bool false] 85) = W := ⟨_, rfl⟩
    rw [hW1] at P1 hz1 hs1
    try simp only [hW1]
    with_reducible refine P1.out.mono ?_
    rintro e1 y2 ⟨⟨u, J, rfl, hL⟩, ⟨v2, hR⟩, hc⟩
    have hz2 : y2.heap[w.heap.size]? = some (.cells #[.slice none 0 0, .slice none 0 0, .slice none 0 0, .slice none 0 0, .int .i64 0] 27 (0, 0)) := (hc.block _ (by omega) (by omega)).trans hz1
    have hu := hL.1.now
    have hs2 := hc.size
    replace hL := Lib.hid hL
    clear P1 hc hz1 hW1 hs0 hbW
    obtain ⟨na, nc, ca, cc, ma, mc, oa, oc, l1, l2, l3, l4, rfl, hS, j1, j2, j3, j4⟩ := hu.v1
    have hsy : y2.heap.size < (y2.alloc (.cells #[.slice na l1 nc, .slice ca l2 cc, .slice ma l3 mc, .slice oa l4 oc, .int .i64 V.main] 27)).heap.size := by simp
    replace hz2 := (((Below.refl y2.heap.size y2).alloc (Nat.le_refl _) (.cells #[.slice na l1 nc, .slice ca l2 cc, .slice ma l3 mc, .slice oa l4 oc, .int .i64 V.main] 27)).block w.heap.size (by omega)).trans hz2
    replace hR := hR.up ((Below.refl y2.heap.size y2).alloc (Nat.le_refl _) (.cells #[.slice na l1 nc, .slice ca l2 cc, .slice ma l3 mc, .slice oa l4 oc, .int .i64 V.main] 27))
    replace hL := Lib.hid (hL.out.cg (Cg.below (fun _ => False) ((Below.refl y2.heap.size y2).alloc (Nat.le_refl _) (.cells #[.slice na l1 nc, .slice ca l2 cc, .slice ma l3 mc, .slice oa l4 oc, .int .i64 V.main] 27))) (fun k e => e.elim))
    go_upto_region 5 with fail
    generalize y2.alloc (.cells #[.slice na l1 nc, .slice ca l2 cc, .slice ma l3 mc, .slice oa l4 oc, .int .i64 V.main] 27) = y3 at *
    replace hS := Lib.hid hS
    replace hR := Lib.hid hR
    replace hz2 := Lib.hid hz2
    clear hu
    obtain ⟨a0, a1, a2, a3, a4⟩ := hS.out.cells
    have c0 := hR.out.c0
    have c1 := hR.out.c1
    simp only at c1
    obtain ⟨ma', mcap, rfl, hmc, hmm⟩ := hR.out.b.form
    simp only at hmc
    have hE := Lib.hid (And.intro hgo.out hno.out)
    clear hgo hno
    have hbad : Hid (∀ U, (V, M, f) = (U, ([], false)) → ¬ unitR U = 0) → Hid (∀ U, ¬ Good b U) := fun h => Lib.hid (hE.out.2 h.out)
    obtain ⟨d1, d2, d3, d4, d5⟩ := dbl5 hz2.out rfl
    have t0 : y3.frozen? ⟨w.heap.size, 0, none⟩ = false := loose_at hz2.out 0
    have t1 : y3.frozen? ⟨w.heap.size, 1, none⟩ = false := loose_at hz2.out 1
    have t2 : y3.frozen? ⟨w.heap.size, 2, none⟩ = false := loose_at hz2.out 2
    have t3 : y3.frozen? ⟨w.heap.size, 3, none⟩ = false := loose_at hz2.out 3
    have t4 : y3.frozen? ⟨w.heap.size, 4, none⟩ = false := loose_at hz2.out 4
    cases f with
    | true =>
      replace hbad := hbad (Lib.hid (fun U e => by cases e))
      clear hE
      go_wp2
      obtain ⟨e1, e2, e3, e4, e5⟩ := set5_at (v0 := .slice none 0 0) (v1 := .slice none 0 0) (v2 := .slice none 0 0) (v3 := .slice none 0 0) (v4 := .int .i64 0) d1 d2 d3 d4 d5
      refine bodyPost_ret (read_res rfl rfl e1 e2 e3 e4 e5) rfl ?_
      exact ⟨rdA_no hbad.out hm.out, ((((hR.out.bel.setCell (Nat.le_refl _) _).setCell (Nat.le_refl _) _).setCell (Nat.le_refl _) _).setCell (Nat.le_refl _) _).setCell (Nat.le_refl _) _⟩
    | false =>
      have hl0 := Lib.hid (List.length_eq_zero_iff (l := M))
      obtain ⟨m, hm2⟩ : ∃ m, m = M.length := ⟨_, rfl⟩
      rw [← hm2] at hmc hl0
      simp only [← hm2] at c0
      by_cases hM : m = 0
      · obtain rfl : M = [] := hl0.out.1 hM
        subst hM
        have PR := Lib.hid (uright_c hS.out.unk)
        clear hm2 hl0
        by_cases hr : unitR V = 0
        · have hg := Lib.hid (hE.out.1 V rfl hr)
          rw [hr] at PR
          clear hbad hE hr
          go_wp2_with (first | (go_at_call 30; ((with_reducible refine PR.out.mono ?_); rintro e1 y4 ⟨rfl, hb4⟩; replace hS := Lib.hid (hS.out.up hb4); replace hR := Lib.hid (hR.out.up hb4); replace hz2 := Lib.hid ((hb4.block w.heap.size (by omega)).trans hz2.out); replace hL := Lib.hid (hL.out.cg (Cg.below (fun _ => False) hb4) (fun k e => e.elim)); clear PR hb4 a0 a1 a2 a3 a4 c0 c1 d1 d2 d3 d4 d5 t0 t1 t2 t3 t4; obtain ⟨a0, a1, a2, a3, a4⟩ := hS.out.cells; obtain ⟨d1, d2, d3, d4, d5⟩ := dbl5 hz2.out rfl; have t0 := loose_at hz2.out 0; have t1 := loose_at hz2.out 1; have t2 := loose_at hz2.out 2; have t3 := loose_at hz2.out 3; have t4 := loose_at hz2.out 4)))
          obtain ⟨e1, e2, e3, e4, e5⟩ := set5_at (v0 := .slice na l1 nc) (v1 := .slice ca l2 cc) (v2 := .slice ma l3 mc) (v3 := .slice oa l4 oc) (v4 := .int .i64 V.main) d1 d2 d3 d4 d5
          refine bodyPost_ret (read_res rfl rfl e1 e2 e3 e4 e5) rfl ?_
          refine ⟨Or.inl ⟨V, _, hg.out, rfl, ?_⟩, ((((hR.out.bel.setCell (Nat.le_refl _) _).setCell (Nat.le_refl _) _).setCell (Nat.le_refl _) _).setCell (Nat.le_refl _) _).setCell (Nat.le_refl _) _⟩
          exact (((((hL.out.set (E := w.heap.size) (o := 0) (by omega) _).set (E := w.heap.size) (o := 1) (by omega) _).set (E := w.heap.size) (o := 2) (by omega) _).set (E := w.heap.size) (o := 3) (by omega) _).set (E := w.heap.size) (o := 4) (by omega) _).1.now
        · have q0 : (unitR V != 0) = true := by simpa using hr
          replace hbad := hbad (Lib.hid (fun U e => by cases e; exact hr))
          clear hE hr
          go_wp2_with (first | (go_at_call 30; ((with_reducible refine PR.out.mono ?_); rintro e1 y4 ⟨rfl, hb4⟩; replace hR := Lib.hid (hR.out.up hb4); replace hz2 := Lib.hid ((hb4.block w.heap.size (by omega)).trans hz2.out); clear PR hb4 a0 a1 a2 a3 a4 c0 c1 d1 d2 d3 d4 d5 t0 t1 t2 t3 t4; obtain ⟨d1, d2, d3, d4, d5⟩ := dbl5 hz2.out rfl; have t0 := loose_at hz2.out 0; have t1 := loose_at hz2.out 1; have t2 := loose_at hz2.out 2; have t3 := loose_at hz2.out 3; have t4 := loose_at hz2.out 4)))
          obtain ⟨e1, e2, e3, e4, e5⟩ := set5_at (v0 := .slice none 0 0) (v1 := .slice none 0 0) (v2 := .slice none 0 0) (v3 := .slice none 0 0) (v4 := .int .i64 0) d1 d2 d3 d4 d5
          refine bodyPost_ret (read_res rfl rfl e1 e2 e3 e4 e5) rfl ?_
          exact ⟨rdA_no hbad.out hm.out, ((((hR.out.bel.setCell (Nat.le_refl _) _).setCell (Nat.le_refl _) _).setCell (Nat.le_refl _) _).setCell (Nat.le_refl _) _).setCell (Nat.le_refl _) _⟩
      · have e0 : decide ((0 : Int) < (m : Int)) = true := by simp; omega
        have e1 : decide (0 < m) = true := by simp; omega
        have e2 : 0 < m := by omega
        replace hbad := hbad (Lib.hid (fun U e => by cases e; exact absurd hm2 hM))
        clear hE hM hm2 hl0
        go_wp2
        obtain ⟨e1, e2, e3, e4, e5⟩ := set5_at (v0 := .slice none 0 0) (v1 := .slice none 0 0) (v2 := .slice none 0 0) (v3 := .slice none 0 0) (v4 := .int .i64 0) d1 d2 d3 d4 d5
        refine bodyPost_ret (read_res rfl rfl e1 e2 e3 e4 e5) rfl ?_
        exact ⟨rdA_no hbad.out hm.out, ((((hR.out.bel.setCell (Nat.le_refl _) _).setCell (Nat.le_refl _) _).setCell (Nat.le_refl _) _).setCell (Nat.le_refl _) _).setCell (Nat.le_refl _) _⟩
end Wd
end Go.Proofs.YtgfnelhbdhbklaaGreat
