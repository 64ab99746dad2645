/- ShapeTells, over what the laws ask of the package. -/
import Derived.Test.YtlbekicalinglaaSTape
import Derived.Test.YtlbekicalinglaaSMore
import Derived.Test.YtlbekicalinglaaSKnown
namespace Go.Proofs.Ytlbekicalinglaa
open Go.RowKit
set_option linter.unusedVariables false
set_option maxRecDepth 20000
namespace Wd
theorem and_in (a b : Int) : In64 (bits .and .i64 a b) := by
  show In64 (IntKind.i64.wrap _)
  constructor <;> rw [IntKind.wrap_i64] <;> omega
theorem cell_two (w : World) (o : Obj) (cs : Array Value) (T : TypeId) (j : Nat) : ((w.alloc o).alloc (.cells cs T)).cell? ⟨w.heap.size + 1, j, none⟩ = cs[j]? := by
  have := World.cell?_alloc_new (w.alloc o) cs T j
  rw [World.size_alloc] at this
  exact this
set_option maxHeartbeats 32000000 in
theorem tells_any (K : ShapeK) {w : World} {ad : Option Addr} {n cap : Nat} (HA : NumA w ad n) (hn : n ≤ 4611686018427387904) (what at_ x : Int) (hw : In64 what) (ha : In64 at_) (hx : In64 x) {raw : Value} {L0 : List ClassA} (hr : ClV w raw L0) (names methods : Int) (hna : In64 names) (hme : In64 methods) :
    Calls Try.prog 4 #[.slice ad n cap, .int .i64 what, .int .i64 at_, .int .i64 x, raw, .int .i64 names, .int .i64 methods] w fun e w' => e = .returned (.bool true) ∧ Below w.heap.size w w' := by
  obtain ⟨i0, hi0, hz0, hz1, hz2⟩ := info_parts infoCls
  have hmx : 100000 ≤ maxLen := by decide
  have P := Lib.hid (unit_c (tape_tp (cap := cap) HA hn))
  obtain ⟨ra, rc, rfl, hrc, hrm⟩ := hr.form
  obtain ⟨rn, hrn⟩ : ∃ rn, rn = L0.length := ⟨_, rfl⟩
  rw [← hrn] at hr hrc ⊢
  replace hr := Lib.hid hr
  replace hrn := Lib.hid hrn
  go_enter Try.func4, Try.ntmps4
  go_wp2_with fail
  refine P.out.mono ?_
  clear P
  rintro e w1 ⟨nv, cv, mv, ov, rfl, U, hU, hT, _, hcg⟩
  have hB := Lib.hid (unit_bel hcg)
  obtain ⟨⟨na, nm, nc, rfl⟩, ⟨ma, mm, mc, rfl⟩, ⟨oa, om, oc, rfl⟩⟩ := hU.forms
  have hv0 := hU.c
  have hTL := Lib.hid hT.tl
  clear hcg hU hT
  generalize U.classes = L at *
  obtain ⟨ca, cc, rfl, hcc, _⟩ := hv0.form
  obtain ⟨m, hm⟩ : ∃ m, m = L.length := ⟨_, rfl⟩
  rw [← hm] at hv0 hcc ⊢
  have hm5 : m ≤ 5 := by have := hTL.out.le; omega
  replace hm := Lib.hid hm
  have hv := Lib.hid hv0
  have hr1 := Lib.hid (hr.out.up hB.out)
  have z6 : In64 6 := in64_of (by omega) (by omega)
  have z9 : In64 9 := in64_of (by omega) (by omega)
  have hfd := unit_f1 na ca ma oa nm m mm om nc cc mc oc 6 w1
  clear hv0 hr
  have S0 := Lib.hid (Od.nil w1 18)
  go_wp2_with fail
  go_loopw [16, 17] (fun v16 v17 wr => ∃ (i : Nat) (T : List (ClassA × Value)), i ≤ 14 ∧ v17 = .int .i64 i ∧ Hid (Od w1 wr v16 i 18 T)) (fun _ v17 _ => 14 - (intOf v17).toNat)
  case atStart => exact ⟨0, [], by omega, rfl, S0⟩
  case round =>
    clear S0
    obtain ⟨i, T, hi, rfl, hO⟩ := hrel
    by_cases hlt : i < rn ∧ i < 14
    · obtain ⟨hl1, hl2⟩ := hlt
      have d1 : decide ((i : Int) < (rn : Int)) = true := by simp; omega
      have d2 : decide ((i : Int) < 14) = true := by simp; omega
      have p1 : (i : Int) < (rn : Int) := by omega
      have hwi : IntKind.i64.wrap ((i : Int) + 1) = (i : Int) + 1 := by rw [IntKind.wrap_i64]; omega
      obtain ⟨c, hc⟩ : ∃ c, L0[i]? = some c := ⟨L0[i]'(by have := hrn.out; omega), by simp⟩
      obtain ⟨s0, f0, g, off, bv, rfl, q0, q1, q2, q3, hp⟩ := hr1.out.at hc
      replace q0 := (hO.out.bel.cell (World.block_lt_of_cell? w1 _ q0)).trans q0
      replace q1 := (hO.out.bel.cell (World.block_lt_of_cell? w1 _ q1)).trans q1
      replace q2 := (hO.out.bel.cell (World.block_lt_of_cell? w1 _ q2)).trans q2
      replace q3 := (hO.out.bel.cell (World.block_lt_of_cell? w1 _ q3)).trans q3
      obtain ⟨a, cf, rfl⟩ := row_shape hO.out.own
      obtain ⟨ba, bc, rfl, hbc, hbm⟩ := hp.form
      obtain ⟨nm, su, fi, B⟩ := c
      simp only at s0 f0 q0 q1 q2 q3 hp hbc
      obtain ⟨bl, hbl⟩ : ∃ bl, bl = B.length := ⟨_, rfl⟩
      rw [← hbl] at hp hbc q3
      obtain ⟨r, hr18, hrb, hrc⟩ : ∃ r : Nat, r ≤ 18 ∧ r ≤ bl ∧ ((18 < bl ∧ r = 18) ∨ (bl ≤ 18 ∧ r = bl)) := by
        by_cases h : 18 < bl
        · exact ⟨18, by omega, by omega, Or.inl ⟨h, rfl⟩⟩
        · exact ⟨bl, by omega, by omega, Or.inr ⟨by omega, rfl⟩⟩
      obtain ⟨bb, hbbe⟩ : ∃ bb, bb = B.take r := ⟨_, rfl⟩
      have hbb : Hid (PrV w1 (.slice ba r bc) bb) := Lib.hid (by rw [hbbe]; exact hp.take r (by omega))
      have hbl18 : Hid (bb.length ≤ 18) := Lib.hid (by rw [hbbe, List.length_take]; omega)
      have rc0 : r ≤ bc := by omega
      have rc1 : (r : Int) ≤ (bc : Int) := by omega
      have rz : (0 : Int) ≤ (r : Int) := by omega
      clear hp hbbe hc hbl hl1
      rcases hrc with ⟨h18, e18⟩ | ⟨h18, e18⟩
      · have h18' : (18 : Int) < (bl : Int) := by omega
        subst e18
        go_wp2_with (first | (at_builtin; refine wpList_append_lies _ rfl (.tmp 46) (.tmp 48) 23 rfl w1.heap.size 38 i0 (.agg #[.string ByteArray.empty, .int .i64 0, .int .i64 0, .slice none 0 0]) 4 56 Try.underlying23 hi0 hz0 hz1 hz2 rfl (by decide) (.slice a i cf) i _ (by simp [Act.eval]) ((hO.out.own.alloc _).alloc _) ⟨wr.heap.size + 1, 0, none⟩ 1 1 (cl4 ⟨nm, su, fi, bb⟩ (.slice ba 18 bc)) (by simp [Act.eval]) (by simp [cl4]) (cl4_at (c := ⟨nm, su, fi, bb⟩) ((cell_two _ _ _ _ 0).trans rfl) ((cell_two _ _ _ _ 1).trans rfl) ((cell_two _ _ _ _ 2).trans rfl) ((cell_two _ _ _ _ 3).trans rfl)) (cl4_one _ _ ⟨_, _, _, rfl⟩) (by omega) (by omega) (by omega) (by simp only [World.size_alloc]; have := hO.out.bel.size; omega) _ rfl ?_; intro g4 cap4 w4 hown4 hgrow4 hat4 hlt4; have hP := Lib.hid (hO.out.push2 (d := ⟨nm, su, fi, bb⟩) (bv := .slice ba 18 bc) (((Below.refl wr.heap.size wr).alloc (Nat.le_refl _) _).alloc (by simp) _) hown4 hgrow4 (at_hat hat4) s0 f0 hbb.out hbl18.out); clear hown4 hgrow4 hat4 hlt4))
        clear hO q0 q1 q2 q3
        go_roundw
        case rel => exact ⟨i + 1, _, by omega, by go_num, hP⟩
        case measure => simp [intOf]; omega
      · have h18' : ¬ (18 : Int) < (bl : Int) := by omega
        subst e18
        go_wp2_with (first | (at_builtin; refine wpList_append_lies _ rfl (.tmp 46) (.tmp 48) 23 rfl w1.heap.size 38 i0 (.agg #[.string ByteArray.empty, .int .i64 0, .int .i64 0, .slice none 0 0]) 4 56 Try.underlying23 hi0 hz0 hz1 hz2 rfl (by decide) (.slice a i cf) i _ (by simp [Act.eval]) ((hO.out.own.alloc _).alloc _) ⟨wr.heap.size + 1, 0, none⟩ 1 1 (cl4 ⟨nm, su, fi, bb⟩ (.slice ba r bc)) (by simp [Act.eval]) (by simp [cl4]) (cl4_at (c := ⟨nm, su, fi, bb⟩) ((cell_two _ _ _ _ 0).trans rfl) ((cell_two _ _ _ _ 1).trans rfl) ((cell_two _ _ _ _ 2).trans rfl) ((cell_two _ _ _ _ 3).trans rfl)) (cl4_one _ _ ⟨_, _, _, rfl⟩) (by omega) (by omega) (by omega) (by simp only [World.size_alloc]; have := hO.out.bel.size; omega) _ rfl ?_; intro g4 cap4 w4 hown4 hgrow4 hat4 hlt4; have hP := Lib.hid (hO.out.push2 (d := ⟨nm, su, fi, bb⟩) (bv := .slice ba r bc) (((Below.refl wr.heap.size wr).alloc (Nat.le_refl _) _).alloc (by simp) _) hown4 hgrow4 (at_hat hat4) s0 f0 hbb.out hbl18.out); clear hown4 hgrow4 hat4 hlt4))
        clear hO q0 q1 q2 q3
        go_roundw
        case rel => exact ⟨i + 1, _, by omega, by go_num, hP⟩
        case measure => simp [intOf]; omega
    · obtain ⟨a, cf, rfl⟩ := row_shape hO.out.own
      obtain ⟨LF, hLF⟩ : ∃ LF, LF = T.map (·.1) := ⟨_, rfl⟩
      have hF := Lib.hid hO.out.fin
      rw [← hLF] at hF
      have hB1 := Lib.hid (hB.out.trans (hO.out.bel.mono hB.out.size))
      have hv1 := Lib.hid (hv.out.up hO.out.bel)
      have hLb : ∀ c ∈ L, c.binds.length ≤ 31 := fun c hc => by
        obtain ⟨j, hj⟩ := List.getElem?_of_mem hc
        have := ((hTL.out.ok j c hj).2).len
        omega
      have hL5 : L.length ≤ 5 := hTL.out.le
      replace hLb := Lib.hid hLb
      have hcond : (decide ((i : Int) < (rn : Int)) = false ∧ ¬ (i : Int) < (rn : Int)) ∨ (decide ((i : Int) < (rn : Int)) = true ∧ decide ((i : Int) < 14) = false ∧ (i : Int) < (rn : Int) ∧ ¬ (i : Int) < 14) := by
        by_cases h : i < rn
        · right; exact ⟨by simp; omega, by simp; omega, by omega, by omega⟩
        · left; exact ⟨by simp; omega, by omega⟩
      clear hLF hO hB hv hlt hr1
      rcases hcond with ⟨d1, n1⟩ | ⟨d1, d2, n1, n2⟩
      · go_wp2_with fail
        refine (same_c K hv1.out 6 9 at_ x z6 z9 ha hx).mono ?_
        rintro e wx ⟨rfl, hb⟩
        replace hv1 := Lib.hid (hv1.out.up hb)
        replace hF := Lib.hid (hF.out.up hb)
        replace hB1 := Lib.hid (hB1.out.trans (hb.mono hB1.out.size))
        clear hb
        go_wp2_with fail
        refine (odd_c (b := 31) hv1.out (by omega) (by omega) (by omega) hLb.out what at_ x hw ha hx).mono ?_
        rintro e wx ⟨v1, rfl, L1, hc1, hl1, hb1, hb⟩
        replace hv1 := Lib.hid (hv1.out.up hb)
        replace hF := Lib.hid (hF.out.up hb)
        replace hB1 := Lib.hid (hB1.out.trans (hb.mono hB1.out.size))
        clear hb
        go_wp2_with fail
        refine (same_c K hc1 6 9 (bits .and .i64 at_ 7) (bits .and .i64 x 7) z6 z9 (and_in _ _) (and_in _ _)).mono ?_
        rintro e wx ⟨rfl, hb⟩
        replace hv1 := Lib.hid (hv1.out.up hb)
        replace hF := Lib.hid (hF.out.up hb)
        replace hB1 := Lib.hid (hB1.out.trans (hb.mono hB1.out.size))
        clear hb hc1 hl1 hb1
        go_wp2_with fail
        refine (odd_c (b := 31) hv1.out (by omega) (by omega) (by omega) hLb.out what at_ (bits .and .i64 x 31) hw ha (and_in _ _)).mono ?_
        rintro e wx ⟨v2, rfl, L2, hc2, hl2, hb2, hb⟩
        replace hv1 := Lib.hid (hv1.out.up hb)
        replace hF := Lib.hid (hF.out.up hb)
        replace hB1 := Lib.hid (hB1.out.trans (hb.mono hB1.out.size))
        clear hb
        go_wp2_with fail
        refine (odd_c (b := 32) hc2 (by omega) (by omega) (by omega) hb2 x at_ (bits .and .i64 what 15) hx ha (and_in _ _)).mono ?_
        rintro e wx ⟨v3, rfl, L3, hc3, hl3, hb3, hb⟩
        replace hv1 := Lib.hid (hv1.out.up hb)
        replace hF := Lib.hid (hF.out.up hb)
        replace hB1 := Lib.hid (hB1.out.trans (hb.mono hB1.out.size))
        clear hb hc2 hl2 hb2
        go_wp2_with fail
        refine (same_c K hc3 6 9 (bits .and .i64 at_ 7) (bits .and .i64 x 3) z6 z9 (and_in _ _) (and_in _ _)).mono ?_
        rintro e wx ⟨rfl, hb⟩
        replace hF := Lib.hid (hF.out.up hb)
        replace hB1 := Lib.hid (hB1.out.trans (hb.mono hB1.out.size))
        clear hb hc3 hl3 hb3 hv1
        go_wp2_with fail
        refine (same_c K hF.out names methods at_ x hna hme ha hx).mono ?_
        rintro e wx ⟨rfl, hb⟩
        replace hF := Lib.hid (hF.out.up hb)
        replace hB1 := Lib.hid (hB1.out.trans (hb.mono hB1.out.size))
        clear hb
        go_wp2_with fail
        refine (same_c K hF.out (bits .and .i64 names 63) (bits .and .i64 methods 63) (bits .and .i64 at_ 15) (bits .and .i64 x 15) (and_in _ _) (and_in _ _) (and_in _ _) (and_in _ _)).mono ?_
        rintro e wx ⟨rfl, hb⟩
        replace hB1 := Lib.hid (hB1.out.trans (hb.mono hB1.out.size))
        clear hb
        go_wp2_with fail
        refine (known_c K _).mono ?_
        rintro e wx ⟨rfl, hb⟩
        replace hB1 := Lib.hid (hB1.out.trans (hb.mono hB1.out.size))
        go_wp2
        go_ret
        exact ⟨rfl, hB1.out⟩
      · go_wp2_with fail
        refine (same_c K hv1.out 6 9 at_ x z6 z9 ha hx).mono ?_
        rintro e wx ⟨rfl, hb⟩
        replace hv1 := Lib.hid (hv1.out.up hb)
        replace hF := Lib.hid (hF.out.up hb)
        replace hB1 := Lib.hid (hB1.out.trans (hb.mono hB1.out.size))
        clear hb
        go_wp2_with fail
        refine (odd_c (b := 31) hv1.out (by omega) (by omega) (by omega) hLb.out what at_ x hw ha hx).mono ?_
        rintro e wx ⟨v1, rfl, L1, hc1, hl1, hb1, hb⟩
        replace hv1 := Lib.hid (hv1.out.up hb)
        replace hF := Lib.hid (hF.out.up hb)
        replace hB1 := Lib.hid (hB1.out.trans (hb.mono hB1.out.size))
        clear hb
        go_wp2_with fail
        refine (same_c K hc1 6 9 (bits .and .i64 at_ 7) (bits .and .i64 x 7) z6 z9 (and_in _ _) (and_in _ _)).mono ?_
        rintro e wx ⟨rfl, hb⟩
        replace hv1 := Lib.hid (hv1.out.up hb)
        replace hF := Lib.hid (hF.out.up hb)
        replace hB1 := Lib.hid (hB1.out.trans (hb.mono hB1.out.size))
        clear hb hc1 hl1 hb1
        go_wp2_with fail
        refine (odd_c (b := 31) hv1.out (by omega) (by omega) (by omega) hLb.out what at_ (bits .and .i64 x 31) hw ha (and_in _ _)).mono ?_
        rintro e wx ⟨v2, rfl, L2, hc2, hl2, hb2, hb⟩
        replace hv1 := Lib.hid (hv1.out.up hb)
        replace hF := Lib.hid (hF.out.up hb)
        replace hB1 := Lib.hid (hB1.out.trans (hb.mono hB1.out.size))
        clear hb
        go_wp2_with fail
        refine (odd_c (b := 32) hc2 (by omega) (by omega) (by omega) hb2 x at_ (bits .and .i64 what 15) hx ha (and_in _ _)).mono ?_
        rintro e wx ⟨v3, rfl, L3, hc3, hl3, hb3, hb⟩
        replace hv1 := Lib.hid (hv1.out.up hb)
        replace hF := Lib.hid (hF.out.up hb)
        replace hB1 := Lib.hid (hB1.out.trans (hb.mono hB1.out.size))
        clear hb hc2 hl2 hb2
        go_wp2_with fail
        refine (same_c K hc3 6 9 (bits .and .i64 at_ 7) (bits .and .i64 x 3) z6 z9 (and_in _ _) (and_in _ _)).mono ?_
        rintro e wx ⟨rfl, hb⟩
        replace hF := Lib.hid (hF.out.up hb)
        replace hB1 := Lib.hid (hB1.out.trans (hb.mono hB1.out.size))
        clear hb hc3 hl3 hb3 hv1
        go_wp2_with fail
        refine (same_c K hF.out names methods at_ x hna hme ha hx).mono ?_
        rintro e wx ⟨rfl, hb⟩
        replace hF := Lib.hid (hF.out.up hb)
        replace hB1 := Lib.hid (hB1.out.trans (hb.mono hB1.out.size))
        clear hb
        go_wp2_with fail
        refine (same_c K hF.out (bits .and .i64 names 63) (bits .and .i64 methods 63) (bits .and .i64 at_ 15) (bits .and .i64 x 15) (and_in _ _) (and_in _ _) (and_in _ _) (and_in _ _)).mono ?_
        rintro e wx ⟨rfl, hb⟩
        replace hB1 := Lib.hid (hB1.out.trans (hb.mono hB1.out.size))
        clear hb
        go_wp2_with fail
        refine (known_c K _).mono ?_
        rintro e wx ⟨rfl, hb⟩
        replace hB1 := Lib.hid (hB1.out.trans (hb.mono hB1.out.size))
        go_wp2
        go_ret
        exact ⟨rfl, hB1.out⟩
end Wd
end Go.Proofs.Ytlbekicalinglaa
