/- ShapeFields, over what the laws ask of the package. -/
import Derived.Test.YtlbekicalinglaaSExt
import Derived.Test.YtlbekicalinglaaSMore
import Derived.Test.YtlbekicalinglaaSKnown
import Derived.BigRegion
namespace Go.Proofs.Ytlbekicalinglaa
open Go.RowKit
set_option linter.unusedVariables false
set_option maxRecDepth 20000
namespace Wd
theorem NumA.up {w w1 : World} {ad : Option Addr} {n : Nat} (h : NumA w ad n) (b : Below w.heap.size w w1) : NumA w1 ad n := fun k hk => by
  obtain ⟨g, off, x, e, i, c⟩ := h k hk
  exact ⟨g, off, x, e, i, (b.cell (World.block_lt_of_cell? w _ c)).trans c⟩
theorem empty_row {w w1 : World} {T : TypeId} (b : Below (w.alloc (.cells #[] T)).heap.size (w.alloc (.cells #[] T)) w1) (o : Nat) : w1.cell? ⟨w.heap.size, o, none⟩ = none := by
  have h := b.block w.heap.size (by simp)
  rw [World.cell?_of_block (a := ⟨w.heap.size, o, none⟩) h]
  have h2 : (w.alloc (.cells #[] T)).heap[w.heap.size]? = some (.cells #[] T (0, 0)) := heap_alloc_new _ _
  simp only [World.cell?, h2]
  cases o <;> rfl
theorem last_v {w w1 : World} {v : Value} {n b : Nat} {T : List (ClassA × Value)} {L : List ClassA} {c : ClassA} {u : Value} (h : Od w w1 v n b (T ++ [(c, u)])) (hL : T.map (·.1) = L) : ClV w1 v (L ++ [c]) := by
  have := h.fin
  rw [List.map_append, hL] at this
  exact this
set_option maxHeartbeats 16000000 in
theorem fields_any (K : ShapeK) {w : World} {ad : Option Addr} {n cap : Nat} (x : Int) (hx : In64 x) (HA : NumA w ad n) (hn : n ≤ 4611686018427387904) :
    Calls Try.prog 6 #[.slice ad n cap, .int .i64 x] w fun e w' => e = .returned (.bool true) ∧ Below w.heap.size w w' := by
  obtain ⟨i0, hi0, hz0, hz1, hz2⟩ := info_parts infoCls
  have hmx : 100000 ≤ maxLen := by decide
  have hb0 : Below w.heap.size w (w.alloc (.cells #[] 38)) := (Below.refl _ _).alloc (Nat.le_refl _) _
  have P := unit_c (tape_tp (cap := cap) (HA.up hb0) hn)
  rw [World.size_alloc] at P
  replace P := Lib.hid P
  replace hb0 := Lib.hid hb0
  go_enter Try.func6, Try.ntmps6
  go_wp2_with fail
  refine P.out.mono ?_
  clear P
  rintro e w1 ⟨nv, cv, mv, ov, rfl, U, hU, hT, _, hcg⟩
  have hBa : Below (w.alloc (.cells #[] 38)).heap.size (w.alloc (.cells #[] 38)) w1 := unit_bel (by rw [World.size_alloc]; exact hcg)
  have hB := Lib.hid (hb0.out.trans (hBa.mono hb0.out.size))
  have hem := Lib.hid (fun o => empty_row hBa o)
  have how := Lib.hid (row_bel (made_none w 38 4 _ (Nat.le_refl _)) hBa)
  obtain ⟨⟨na, nm, nc, rfl⟩, ⟨ma, mm, mc, rfl⟩, ⟨oa, om, oc, rfl⟩⟩ := hU.forms
  have hv0 := hU.c
  have hTL := Lib.hid hT.tl
  have hc3 := hT.cl0
  clear hcg hU hT hBa hb0
  generalize U.classes = L at *
  obtain ⟨ca, cc, rfl, hcc, _⟩ := hv0.form
  obtain ⟨T, hTe, hTv, hrd⟩ := hv0.rd
  obtain ⟨m, hm⟩ : ∃ m, m = L.length := ⟨_, rfl⟩
  have hTl : T.length = m := by rw [hm, ← hTe]; simp
  have hTb : ∀ y ∈ T, y.1.binds.length ≤ 18 := fun y hy => by
    obtain ⟨j, hj⟩ := List.getElem?_of_mem (show y.1 ∈ L by rw [← hTe]; exact List.mem_map_of_mem hy)
    have := ((hTL.out.ok j _ hj).2).len
    omega
  rw [← hm] at hrd hcc hc3 ⊢
  have hm5 : m ≤ 5 := by have := hTL.out.le; omega
  replace hm := Lib.hid hm
  replace hTe := Lib.hid hTe
  replace hTl := Lib.hid hTl
  replace hrd := Lib.hid hrd
  have hwm : IntKind.i64.wrap ((m : Int) - 1) = (m : Int) - 1 := by rw [IntKind.wrap_i64]; omega
  have PW := Lib.hid (within_c x 2 ((m : Int) - 1) hx.1 hx.2 (by omega) (by omega) (by omega))
  have hka := within_bd x 2 ((m : Int) - 1) (by omega)
  generalize within x 2 ((m : Int) - 1) = kk at *
  obtain ⟨k, rfl⟩ : ∃ k : Nat, kk = (k : Int) := ⟨kk.toNat, by omega⟩
  have hk : k < m := by omega
  have hk' : (k : Int) < (m : Int) := by omega
  have k0 : (0 : Int) ≤ (k : Int) := by omega
  clear hka hv0
  have z6 : In64 6 := in64_of (by omega) (by omega)
  have z9 : In64 9 := in64_of (by omega) (by omega)
  have hfd := unit_f1 na ca ma oa nm m mm om nc cc mc oc 6 w1
  have hsz : Hid (w.heap.size ≤ w1.heap.size) := Lib.hid hB.out.size
  obtain ⟨⟨dx, bv⟩, hxk⟩ : ∃ y, T[k]? = some y := ⟨T[k]'(by have := hTl.out; omega), by simp⟩
  have hdL : L[k]? = some dx := by rw [← hTe.out, List.getElem?_map, hxk]; rfl
  have hfb := tape_fields hTL.out hdL
  have hdL' := Lib.hid hdL
  go_wp2_with (first | (at_builtin; refine wpList_app_any rfl (.tmp 11) (.tmp 16) 23 rfl w.heap.size 38 i0 (.agg #[.string ByteArray.empty, .int .i64 0, .int .i64 0, .slice none 0 0]) 4 56 Try.underlying23 hi0 hz0 hz1 hz2 rfl (by decide) (.slice (some ⟨w.heap.size, 0, none⟩) 0 0) (.slice ca m cc) 0 m [] (cl4s T) (by simp [Act.eval]) (by simp [Act.eval]) how.out hrd.out (by rw [cl4s_len, hTl.out]) (cl4s_one _ (fun y hy => by obtain ⟨_, _, hp⟩ := hTv y hy; obtain ⟨a, c, e, _⟩ := hp.form; exact ⟨_, _, _, e⟩)) (by omega) (by omega) hsz.out ?_; intro v2 w2 hown2 hgrow2 hat2; rw [Nat.zero_add, List.nil_append] at hown2; obtain ⟨a2, c2, rfl⟩ := row_shape hown2; have hO := Lib.hid (Od.begin9 hB.out (hem.out 0) hem.out hown2 hgrow2 hat2 hTl.out hTv hTb); obtain ⟨g, rfl⟩ := row_some hO.out.own (by omega); obtain ⟨qa, qb, qc, qz⟩ := hO.out.cells hxk; simp only at qa qb qc; clear hown2 hgrow2 hat2) | (go_at_call 14; ((with_reducible refine (PW.out _).mono ?_); rintro e w9 ⟨rfl, hw9⟩; subst w9)) | (at_builtin; refine wpList_append_lies _ rfl (.tmp 24) (.tmp 32) 23 rfl w.heap.size 38 i0 (.agg #[.string ByteArray.empty, .int .i64 0, .int .i64 0, .slice none 0 0]) 4 56 Try.underlying23 hi0 hz0 hz1 hz2 rfl (by decide) (.slice (some ⟨g, 0, none⟩) m c2) m _ (by simp [Act.eval]) (hO.out.own.alloc _) ⟨w2.heap.size, 0, none⟩ 1 1 (cl4 ⟨below, (k : Int), dx.fields, []⟩ (.slice none 0 0)) (by simp [Act.eval]) (by simp [cl4]) (cl4_at ((World.cell?_alloc_new _ _ _ 0).trans rfl) ((World.cell?_alloc_new _ _ _ 1).trans rfl) ((World.cell?_alloc_new _ _ _ 2).trans rfl) ((World.cell?_alloc_new _ _ _ 3).trans rfl)) (cl4_one _ _ ⟨_, _, _, rfl⟩) (by omega) (by omega) (by omega) (by simp only [World.size_alloc]; have := hO.out.bel.size; omega) _ rfl ?_; intro g4 cap4 w4 hown4 hgrow4 hat4 hlt4; have hP := Lib.hid (hO.out.push ((Below.refl w2.heap.size w2).alloc (Nat.le_refl _) _) hown4 hgrow4 (at_hat hat4) (in64_of (by simp only; omega) (by simp only; omega)) (in64_of (by simp only; omega) (by simp only; omega)) rfl); clear hown4 hgrow4 hat4 hlt4))
  have hk1 : ∀ y : ClassA × Value, (T ++ [y])[k]? = some (dx, bv) := fun y => (List.getElem?_append_left (List.getElem?_eq_some_iff.1 hxk).1).trans hxk
  have hk2 : ∀ y : ClassA × Value, (T ++ [y])[m]? = some y := fun y => by rw [← hTl.out]; simp
  replace hk1 := Lib.hid hk1
  replace hk2 := Lib.hid hk2
  have hm2 : 2 ≤ L.length := by have := hm.out; omega
  have hwp : IntKind.i64.wrap (dx.fields + 1) = dx.fields + 1 := by rw [IntKind.wrap_i64]; omega
  have hwq : IntKind.i64.wrap (dx.fields - 1) = dx.fields - 1 := by rw [IntKind.wrap_i64]; omega
  have hmc : m < m + 1 := by omega
  have hmi : (m : Int) < ((m + 1 : Nat) : Int) := by omega
  have hki : (k : Int) < ((m + 1 : Nat) : Int) := by omega
  have hkn : k < m + 1 := by omega
  have ne1 : ¬ (k * 4 + 2 = m * 4 + 2) := by omega
  have ne2 : ¬ (k * 4 = m * 4 + 2) := by omega
  have ne3 : ¬ (k * 4 + 2 = m * 4) := by omega
  have ne4 : ¬ (k * 4 = m * 4) := by omega
  have r0 := Lib.hid (ext_ok hTL.out hm2 hdL'.out dx.fields (Int.le_refl _) (by omega))
  have r1 := Lib.hid (ext_ok hTL.out hm2 hdL'.out (dx.fields + 1) (by omega) (by omega))
  have r2 := Lib.hid (ext_few hTL.out hm2 hdL'.out)
  have r3 := Lib.hid (ext_twice hTL.out hm2 hdL'.out (k : Int) dx.fields [])
  clear hwm qa qb qc qz hO hTv hTb hrd how hem hxk hfd PW hB
  refine (K.right (last_v hP.out hTe.out) 6 9 z6 z9).mono ?_
  rintro e w5 ⟨he, hb⟩
  rw [r0.out] at he
  subst he
  have hP2 := Lib.hid (hP.out.keep hb)
  clear hb hP r0
  have qk := (hP2.out.cells (hk1.out _)).2.2.1
  have qm := (hP2.out.cells (hk2.out _)).2.2.1
  have qz := (hP2.out.cells (hk2.out _)).2.2.2 (m * 4 + 2)
  simp only at qk qm
  go_wp2_with fail
  have hP3 := hP2.out.lastF (f := dx.fields + 1) hTl.out rfl (in64_of (by omega) (by omega))
  generalize w5.setCell ⟨g4, m * 4 + 2, none⟩ (.int .i64 (dx.fields + 1)) = w6 at *
  replace hP3 := Lib.hid hP3
  clear hP2 qk qm qz
  refine (K.right (last_v hP3.out hTe.out) 6 9 z6 z9).mono ?_
  rintro e w7 ⟨he, hb⟩
  rw [r1.out] at he
  subst he
  have hP2 := Lib.hid (hP3.out.keep hb)
  clear hb hP3 r1
  have qk := (hP2.out.cells (hk1.out _)).2.2.1
  have qm := (hP2.out.cells (hk2.out _)).2.2.1
  have qz := (hP2.out.cells (hk2.out _)).2.2.2 (m * 4 + 2)
  simp only at qk qm
  go_wp2_with fail
  have hP3 := hP2.out.lastF (f := dx.fields - 1) hTl.out rfl (in64_of (by omega) (by omega))
  generalize w7.setCell ⟨g4, m * 4 + 2, none⟩ (.int .i64 (dx.fields - 1)) = w8 at *
  replace hP3 := Lib.hid hP3
  clear hP2 qk qm qz
  refine (K.right (last_v hP3.out hTe.out) 6 9 z6 z9).mono ?_
  rintro e w9 ⟨he, hb⟩
  rw [r2.out] at he
  subst he
  have hP2 := Lib.hid (hP3.out.keep hb)
  clear hb hP3 r2
  have qk := (hP2.out.cells (hk1.out _)).2.2.1
  have ql := (hP2.out.cells (hk1.out _)).1
  have qm := (hP2.out.cells (hk2.out _)).2.2.1
  have qn := (hP2.out.cells (hk2.out _)).1
  have qz := (hP2.out.cells (hk2.out _)).2.2.2 (m * 4 + 2)
  have qy := (hP2.out.cells (hk2.out _)).2.2.2 (m * 4)
  simp only at qk ql qm qn
  go_wp2_with fail
  go_region
  have hP3 := ((hP2.out.lastF (f := dx.fields) hTl.out rfl (in64_of (by omega) (by omega))).lastN (nm := dx.nm) hTl.out rfl).keep (Below.refl _ _).drew
  generalize ((w9.setCell ⟨g4, m * 4 + 2, none⟩ (.int .i64 dx.fields)).setCell ⟨g4, m * 4, none⟩ (.string dx.nm)).drew = w10 at *
  replace hP3 := Lib.hid hP3
  clear hP2 qk ql qm qn qz qy
  go_wp2_with fail
  refine (K.right (last_v hP3.out hTe.out) 6 9 z6 z9).mono ?_
  rintro e w11 ⟨he, hb⟩
  rw [r3.out] at he
  subst he
  have hB4 := Lib.hid (hP3.out.bel.trans (hb.mono hP3.out.bel.size))
  clear hb hP3 r3
  go_wp2_with fail
  refine (known_c K _).mono ?_
  rintro e w12 ⟨rfl, hb⟩
  have hB5 := Lib.hid (hB4.out.trans (hb.mono hB4.out.size))
  go_wp2
  go_ret
  exact ⟨rfl, hB5.out⟩
end Wd
end Go.Proofs.Ytlbekicalinglaa
