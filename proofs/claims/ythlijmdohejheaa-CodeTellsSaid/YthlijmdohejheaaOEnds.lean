/- CodeEnds, over what the laws ask of the package. -/
import Derived.Test.YthlijmdohejheaaOTelA
import Derived.Test.YthlijmdohejheaaOBytes
namespace Go.Proofs.Ythlijmdohejheaa
open Go.RowKit
set_option linter.unusedVariables false
set_option maxRecDepth 20000
namespace Wd
def eT (k o : Nat) : List (Int × Int) := (List.replicate k (4, 0)).set (k - 1) ((o : Int), 0)
def fT (k a : Nat) : List (Int × Int) := ((eT k 14)).set 0 (15, (a : Int))
def gT (k a : Nat) : List (Int × Int) := (List.replicate k (4, 0)).set (k - 1) (16, (a : Int))
theorem met_nolit (a t : Int) (C : List Int) (nn nc nm : Nat) : metR ⟨a, t, [], C⟩ nn nc nm = metR ⟨a, t, [], C⟩ 0 0 0 := rfl
set_option maxHeartbeats 16000000 in
theorem ends_e : ∀ k : Nat, k < 23 → 2 ≤ k → ∀ o : Nat, o < 22 → (metR ⟨0, 1, [], bytL (eT k o)⟩ 0 0 0 == 0) = decide (o = 14 ∨ o = 19 ∨ o = 16) := by decide +kernel
set_option maxHeartbeats 16000000 in
theorem ends_f : ∀ k : Nat, k < 23 → 2 ≤ k → ∀ a : Nat, a < 31 → (metR ⟨0, 0, [], bytL (fT k a)⟩ 0 0 0 == 0) = decide (a + 1 < k) := by decide +kernel
set_option maxHeartbeats 16000000 in
theorem ends_g : ∀ k : Nat, k < 23 → 2 ≤ k → ∀ a : Nat, a < 31 → (metR ⟨0, 0, [], bytL (gT k a)⟩ 0 0 0 == 0) = decide (a ≤ k - 1) := by decide +kernel
theorem eT_set (k o : Nat) : (eT k o).set (k - 1) (14, 0) = eT k 14 := by unfold eT; rw [List.set_set]; rfl
theorem eT_0 {k : Nat} (h : 2 ≤ k) : (eT k 14)[0]? = some (4, 0) := by
  unfold eT
  rw [List.getElem?_set_ne (by omega), List.getElem?_replicate, if_pos (by omega)]
theorem fT_0 {k : Nat} (h : 2 ≤ k) (a : Nat) : (fT k a)[0]? = some (15, (a : Int)) := by
  unfold fT eT
  exact List.getElem?_set_self (by rw [List.length_set, List.length_replicate]; omega)
theorem fT_l {k : Nat} (h : 2 ≤ k) (a : Nat) : ((fT k a).set 0 (4, 0))[k - 1]? = some (14, 0) := by
  unfold fT eT
  rw [List.set_set, List.getElem?_set_ne (by omega)]
  exact List.getElem?_set_self (by rw [List.length_replicate]; omega)
theorem gT_eq : ∀ k : Nat, k < 23 → 2 ≤ k → ∀ a : Nat, a < 31 → ((fT k a).set 0 (4, 0)).set (k - 1) (16, (a : Int)) = gT k a := by decide +kernel
theorem pr2_both : ∀ (B : List (Int × Int)) (c : Nat), c < B.length → ∀ (x y : Int), pr2 (B.set c (x, y)) = ((pr2 B).set (c * 2) (.int .i64 x)).set (c * 2 + 1) (.int .i64 y)
  | [], c, h, _, _ => by simp at h
  | s :: T, 0, h, x, y => by simp [pr2]
  | s :: T, c + 1, h, x, y => by
    have := pr2_both T c (by simpa using h) x y
    rw [List.set_cons_succ, show (c + 1) * 2 + 1 = (c * 2 + 1) + 2 by omega, show (c + 1) * 2 = c * 2 + 2 by omega]
    simp [pr2, this]
/-- the instructions, the program -/
structure EnS (w wr : World) (q10 g k c : Nat) (T : List (Int × Int)) (vU : Value) (U : UnitA) (s ug ucap : Nat) (M : List (MethA × Value × Value)) (na ka oa : Option Addr) (nc kc oc : Nat) : Prop where
  row : wr.ownsRow w.heap.size 47 2 (.slice (some ⟨g, 0, none⟩) k c) k (pr2 T)
  len : T.length = k
  b64 : ∀ x ∈ T, In64 x.1 ∧ In64 x.2
  un : UnT s wr vU U ug ucap M
  box : UnC wr q10 U na ka (some ⟨ug, 0, none⟩) oa nc kc ucap oc
  gs : g < s
  gq : g < q10
  bel : Below w.heap.size w wr
section
variable {w w1 w2 : World} {q10 g k c : Nat} {T : List (Int × Int)} {vU : Value} {U : UnitA} {s ug ucap : Nat} {M : List (MethA × Value × Value)} {na ka oa : Option Addr} {nc kc oc : Nat}
theorem EnS.up (h : EnS w w1 q10 g k c T vU U s ug ucap M na ka oa nc kc oc) (b : Below w1.heap.size w1 w2) : EnS w w2 q10 g k c T vU U s ug ucap M na ka oa nc kc oc :=
  ⟨row_bel h.row b, h.len, h.b64, h.un.up b, h.box.up b, h.gs, h.gq, h.bel.trans (b.mono h.bel.size)⟩
theorem EnS.pr (h : EnS w w1 q10 g k c T vU U s ug ucap M na ka oa nc kc oc) : PrV w1 (.slice (some ⟨g, 0, none⟩) k c) T := PrV.own (by have := h.row; rw [← h.len] at this ⊢; exact this) h.b64
theorem EnS.at (h : EnS w w1 q10 g k c T vU U s ug ucap M na ka oa nc kc oc) {j : Nat} {x : Int × Int} (hx : T[j]? = some x) : w1.cell? ⟨g, j * 2, none⟩ = some (.int .i64 x.1) ∧ w1.cell? ⟨g, j * 2 + 1, none⟩ = some (.int .i64 x.2) ∧ w1.frozen? ⟨g, j * 2, none⟩ = false ∧ w1.frozen? ⟨g, j * 2 + 1, none⟩ = false := by
  have hj := (List.getElem?_eq_some_iff.1 hx).1
  have hl := h.len
  obtain ⟨e0, e1⟩ := pr2_get T j x hx
  exact ⟨(h.row.cellAt (j * 2) (by omega)).trans e0, (h.row.cellAt (j * 2 + 1) (by omega)).trans e1, h.row.frozenAt _, h.row.frozenAt _⟩
theorem EnS.set (h : EnS w w1 q10 g k c T vU U s ug ucap M na ka oa nc kc oc) (j : Nat) (hj : j < k) (x y : Int) (hx : In64 x) (hy : In64 y) : EnS w ((w1.setCell ⟨g, j * 2, none⟩ (.int .i64 x)).setCell ⟨g, j * 2 + 1, none⟩ (.int .i64 y)) q10 g k c (T.set j (x, y)) vU U s ug ucap M na ka oa nc kc oc := by
  have hg := (h.row.lt g rfl).1
  have hc : Cg (fun q => q = g) w1 ((w1.setCell ⟨g, j * 2, none⟩ (.int .i64 x)).setCell ⟨g, j * 2 + 1, none⟩ (.int .i64 y)) := (((Cg.refl (fun q => q = g) w1).set ⟨g, j * 2, none⟩ rfl _).set ⟨g, j * 2 + 1, none⟩ rfl _)
  have hgs := h.gs
  have hgq := h.gq
  refine ⟨?_, by rw [List.length_set]; exact h.len, fun z hz => ?_, h.un.cg hc (fun q e => by omega), h.box.cg hc (by omega), h.gs, h.gq, (h.bel.setCell hg _).setCell hg _⟩
  · rw [pr2_both T j (by rw [h.len]; exact hj)]; exact ((h.row.stored _ _).1.stored _ _).1
  · rcases List.mem_or_eq_of_mem_set hz with hz | rfl
    · exact h.b64 z hz
    · exact ⟨hx, hy⟩
end
theorem rep_in (k : Nat) : ∀ x ∈ List.replicate k ((4 : Int), (0 : Int)), In64 x.1 ∧ In64 x.2 := fun x hx => by
  rw [(List.mem_replicate.1 hx).2]; exact ⟨in64_of (by omega) (by omega), in64_z⟩
set_option maxHeartbeats 64000000 in
theorem ends_any (K : CodeK) (op arg n : Int) (ho : In64 op) (hag : In64 arg) (hn : In64 n) (w : World) :
    Calls Try.prog 6 #[.int .i64 op, .int .i64 arg, .int .i64 n] w fun e w' => e = .returned (.bool true) ∧ Below w.heap.size w w' := by
  obtain ⟨j0, hj0, hy0, hy1, hy2⟩ := info_parts infoInst
  have hmx : 100000 ≤ maxLen := by decide
  have PN := Lib.hid (fun w => within40_c n 0 20 hn.1 hn.2 (by omega) (by omega) (by omega) w)
  have hka := within_bd n 0 20 (by omega)
  generalize within n 0 20 = kn at *
  obtain ⟨k, hk, hk2, hk22⟩ : ∃ k : Nat, 2 + kn = (k : Int) ∧ 2 ≤ k ∧ k < 23 := ⟨(2 + kn).toNat, by omega, by omega, by omega⟩
  have wk : IntKind.i64.wrap (2 + kn) = (k : Int) := by rw [hk, IntKind.wrap_i64]; omega
  have PO := Lib.hid (fun w => within40_c op 0 21 ho.1 ho.2 (by omega) (by omega) (by omega) w)
  have hoa := within_bd op 0 21 (by omega)
  generalize within op 0 21 = on at *
  obtain ⟨o, rfl⟩ : ∃ o : Nat, on = (o : Int) := ⟨on.toNat, by omega⟩
  have PA := Lib.hid (fun w => within40_c arg 0 30 hag.1 hag.2 (by omega) (by omega) (by omega) w)
  have haa := within_bd arg 0 30 (by omega)
  generalize within arg 0 30 = an at *
  obtain ⟨a, rfl⟩ : ∃ o : Nat, an = (o : Int) := ⟨an.toNat, by omega⟩
  have he := ends_e k hk22 hk2 o (by omega)
  have hf := ends_f k hk22 hk2 a (by omega)
  have hg := ends_g k hk22 hk2 a (by omega)
  have hst : Hid (w.ownsRow w.heap.size 47 2 (.slice none 0 0) 0 (pr2 (List.replicate 0 (4, 0))) ∧ Below w.heap.size w w) := Lib.hid ⟨World.ownsRow_nil _ _ _ _, Below.refl _ _⟩
  clear hk hka
  go_enter Try.func6, Try.ntmps6
  go_wp2_with fail
  with_reducible refine (PN.out _).mono ?_
  rintro e w1 ⟨rfl, hw1⟩
  subst w1
  clear PN
  go_wp2
  go_loopw [8, 9] (fun i8 i9 wr => ∃ (i : Nat) (a8 : Option Addr) (c : Nat), i ≤ k ∧ i9 = .int .i64 i ∧ i8 = .slice a8 i c ∧ Hid (wr.ownsRow w.heap.size 47 2 (.slice a8 i c) i (pr2 (List.replicate i (4, 0))) ∧ Below w.heap.size w wr)) (fun _ i9 _ => k - (intOf i9).toNat)
  case atStart => exact ⟨0, none, 0, by omega, rfl, rfl, hst⟩
  case round =>
    clear hst
    obtain ⟨i, a8, c, hi, rfl, rfl, hR⟩ := hrel
    by_cases hlt : i < k
    · have d1 : decide ((i : Int) < (k : Int)) = true := by simp; omega
      have d2 : (i : Int) < (k : Int) := by omega
      have hwi : IntKind.i64.wrap ((i : Int) + 1) = (i : Int) + 1 := by rw [IntKind.wrap_i64]; omega
      go_wp2_with (first | (at_builtin; refine wpList_append_lies _ rfl (.tmp 24) (.tmp 26) 45 rfl w.heap.size 47 j0 (.agg #[.int .i64 0, .int .i64 0]) 2 16 Try.underlying45 hj0 hy0 hy1 hy2 rfl (by decide) (.slice a8 i c) i _ (by simp [Act.eval]) (hR.out.1.alloc _) ⟨wr.heap.size, 0, none⟩ 1 1 (pr2 [(4, 0)]) (by simp [Act.eval]) (by simp [pr2]) (rd_pair wr 4 0 47) (pr2_one _) (by omega) (by omega) (by omega) (by simp only [World.size_alloc]; have := hR.out.2.size; omega) _ rfl ?_; intro g4 cap4 w4 hown4 hgrow4 hat4 hlt4))
      have hN : Hid (w4.ownsRow w.heap.size 47 2 (.slice (some ⟨g4, 0, none⟩) (i + 1) cap4) (i + 1) (pr2 (List.replicate (i + 1) (4, 0))) ∧ Below w.heap.size w w4) := by
        have hA : Below wr.heap.size wr (wr.alloc (.cells #[.int .i64 4, .int .i64 0] 47)) := (Below.refl _ _).alloc (Nat.le_refl _) _
        refine Lib.hid ⟨?_, (hR.out.2.trans (hA.mono hR.out.2.size)).grown hgrow4 (Nat.le_trans hR.out.2.size hA.size) (fun q e => (hR.out.1.lt q e).1)⟩
        rw [List.replicate_succ', pr2_app]; exact hown4
      clear hown4 hgrow4 hat4 hlt4 hR
      go_roundw
      case rel => exact ⟨i + 1, _, _, by omega, by go_num, rfl, hN⟩
      case measure => simp [intOf]; omega
    · obtain rfl : i = k := by omega
      have d1 : decide ((i : Int) < (i : Int)) = false := by rw [decide_eq_false]; omega
      obtain ⟨g, rfl⟩ := row_some hR.out.1 (by omega)
      obtain ⟨l1, hl1⟩ : ∃ l, l = i - 1 := ⟨_, rfl⟩
      have wk1 : IntKind.i64.wrap ((i : Int) - 1) = (l1 : Int) := by rw [IntKind.wrap_i64]; omega
      have hlast : (List.replicate i ((4 : Int), (0 : Int)))[l1]? = some (4, 0) := by rw [List.getElem?_replicate, if_pos (by omega)]
      obtain ⟨q0, q1⟩ := pr2_get _ _ _ hlast
      have s0 : wr.cell? ⟨g, l1 * 2, none⟩ = some (.int .i64 4) := (hR.out.1.cellAt _ (by omega)).trans q0
      have s1 : wr.cell? ⟨g, l1 * 2 + 1, none⟩ = some (.int .i64 0) := (hR.out.1.cellAt _ (by omega)).trans q1
      have z0 := hR.out.1.frozenAt (l1 * 2)
      have z1 := hR.out.1.frozenAt (l1 * 2 + 1)
      have hgw := (hR.out.1.lt g rfl).1
      have hR1 : Hid (((wr.setCell ⟨g, l1 * 2, none⟩ (.int .i64 (o : Int))).setCell ⟨g, l1 * 2 + 1, none⟩ (.int .i64 0)).ownsRow w.heap.size 47 2 (.slice (some ⟨g, 0, none⟩) i c) i (pr2 (eT i o)) ∧ Below w.heap.size w ((wr.setCell ⟨g, l1 * 2, none⟩ (.int .i64 (o : Int))).setCell ⟨g, l1 * 2 + 1, none⟩ (.int .i64 0))) := Lib.hid ⟨by
        unfold eT
        rw [← hl1, pr2_both _ l1 (by rw [List.length_replicate]; omega)]
        exact ((hR.out.1.stored _ _).1.stored _ _).1, (hR.out.2.setCell hgw _).setCell hgw _⟩
      clear hR q0 q1
      have p0 : (0 : Int) ≤ (l1 : Int) := by omega
      have p1 : (l1 : Int) < (i : Int) := by omega
      replace hl1 := Lib.hid hl1
      go_upto_region 8 with (first | (go_at_call 13; ((with_reducible refine (PO.out _).mono ?_); rintro e z1' ⟨rfl, hz1⟩; subst z1')))
      generalize (wr.setCell ⟨g, l1 * 2, none⟩ (.int .i64 (o : Int))).setCell ⟨g, l1 * 2 + 1, none⟩ (.int .i64 0) = W1 at *
      have PU := Lib.hid (unit_t (tape_tp (w := W1) (ad := none) (n := 0) (cap := 0) (fun k hk => by omega) (by omega)))
      clear s0 s1 z0 z1 PO
      go_wp2_with fail
      with_reducible refine PU.out.mono ?_
      rintro e wu ⟨vU, U, ug, ucap, M, rfl, hU, hcg⟩
      have hBu := Lib.hid (unit_bel hcg)
      clear PU hcg
      obtain ⟨na, nc, ka, kc, oa, oc, rfl⟩ := hU.ex
      have hBa := (Below.refl wu.heap.size wu).alloc (Nat.le_refl _) (.cells #[.slice na U.names.length nc, .slice ka U.classes.length kc, .slice (some ⟨ug, 0, none⟩) U.methods.length ucap, .slice oa U.objects.length oc, .int .i64 U.main] 27)
      obtain ⟨s, hs⟩ : ∃ s, s = (W1.alloc (.cells #[.slice none 0 0, .int .i64 0] 32)).heap.size + 1 := ⟨_, rfl⟩
      rw [← hs] at hU
      have hgl := (hR1.out.1.lt g rfl).2
      have hS : Hid (EnS w (wu.alloc (.cells #[.slice na U.names.length nc, .slice ka U.classes.length kc, .slice (some ⟨ug, 0, none⟩) U.methods.length ucap, .slice oa U.objects.length oc, .int .i64 U.main] 27)) wu.heap.size g i c (eT i o) (.agg #[.slice na U.names.length nc, .slice ka U.classes.length kc, .slice (some ⟨ug, 0, none⟩) U.methods.length ucap, .slice oa U.objects.length oc, .int .i64 U.main]) U s ug ucap M na ka oa nc kc oc) := Lib.hid ⟨row_bel (row_bel hR1.out.1 hBu.out) hBa, by unfold eT; simp, fun x hx => by
          rcases List.mem_or_eq_of_mem_set hx with hx | rfl
          · exact rep_in i x hx
          · exact ⟨in64_of (by simp only; omega) (by simp only; omega), in64_z⟩, hU.up hBa, ⟨by simp, by simp, by simp, by simp, by simp⟩, by rw [hs, World.size_alloc]; omega, by have := hBu.out.size; omega, hR1.out.2.trans ((hBu.out.trans (hBa.mono hBu.out.size)).mono hR1.out.2.size)⟩
      clear hU hBu hBa hs hR1 hgl hgw
      go_upto_region 9 with fail
      generalize wu.alloc (.cells #[.slice na U.names.length nc, .slice ka U.classes.length kc, .slice (some ⟨ug, 0, none⟩) U.methods.length ucap, .slice oa U.objects.length oc, .int .i64 U.main] 27) = W2 at *
      generalize wu.heap.size = q10 at *
      obtain ⟨dU, hdU, hrU⟩ := rowU
      replace hdU := Lib.hid hdU
      replace hrU := Lib.hid hrU
      have hk1000 : (eT i o).length ≤ 1000 := by unfold eT; simp; omega
      have in1 : In64 1 := in64_of (by omega) (by omega)
      go_cut [11] (fun v11 wx => v11 = .int .i64 (metR ⟨0, 1, [], bytL (eT i o)⟩ U.names.length U.classes.length U.methods.length) ∧ Hid (EnS w wx q10 g i c (eT i o) (.agg #[.slice na U.names.length nc, .slice ka U.classes.length kc, .slice (some ⟨ug, 0, none⟩) U.methods.length ucap, .slice oa U.objects.length oc, .int .i64 U.main]) U s ug ucap M na ka oa nc kc oc))
      case first =>
        replace hS := Lib.hid (hS.out.up ((Below.refl _ _).drew))
        refine wp_region_held_drew (S := (fun wr' => EnS w wr' q10 g i c (eT i o) (.agg #[.slice na U.names.length nc, .slice ka U.classes.length kc, .slice (some ⟨ug, 0, none⟩) U.methods.length ucap, .slice oa U.objects.length oc, .int .i64 U.main]) U s ug ucap M na ka oa nc kc oc)) (by kernel_rfl) ?_ (fun hHeld => ?_)
        · (try dsimp only); exact hS.out
        try simp only [Act.put, List.setIfInBounds_toArray, List.set_cons_zero, List.set_cons_succ]
        refine wpAnyH_take (i := 3) (oi := { dst := some 41, op := Op.load 27 (Operand.tmp 10), type := 27, pos := "law.go:142", after := #[], guard := none }) (v := (.agg #[.slice na U.names.length nc, .slice ka U.classes.length kc, .slice (some ⟨ug, 0, none⟩) U.methods.length ucap, .slice oa U.objects.length oc, .int .i64 U.main])) rfl (by kernel_rfl) (by kernel_rfl) (by kernel_rfl) (fun _ _ _ h => h) (yieldsIf_load_mid (by rfl) _ _ rfl q10 0 rfl [.slice na U.names.length nc, .slice ka U.classes.length kc, .slice (some ⟨ug, 0, none⟩) U.methods.length ucap, .slice oa U.objects.length oc, .int .i64 U.main] dU (fun w hw => hw.box.range) hdU.out hrU.out infoU) (by assumption) ?_
        try simp only [Act.put, List.setIfInBounds_toArray, List.set_cons_zero, List.set_cons_succ]
        refine wpAnyH_take (i := 0) (oi := { dst := some 38, op := Op.move (Operand.tmp 8), type := 45, pos := "law.go:142", after := #[], guard := none }) (v := ?_) rfl (by kernel_rfl) (by kernel_rfl) (by kernel_rfl) (fun _ _ _ h => h) (Or.inl ⟨by rfl, ?_⟩) (by assumption) ?_
        rotate_left 1
        · intro w hSw; (try dsimp only at hSw); go_simp <;> with_reducible rfl
        try simp only [Act.put, List.setIfInBounds_toArray, List.set_cons_zero, List.set_cons_succ]
        refine wpAnyH_ready (rs := [1]) (by kernel_rfl) (by simp) ?_
        refine AllReadyH.cons (o := { dst := some 39, op := Op.call { callee := Callee.value (Operand.func 14), args := #[Operand.tmp 38], argTypes := #[45] }, type := 35, pos := "law.go:142", after := #[{ on := 0, ground := Ground.data }], guard := none }) rfl (fun K9 hK => ?_) ?_
        · go_simp
          with_reducible refine (K.bytes hS.out.pr hk1000).mono ?_
          rintro e z1 ⟨vb, rfl, hvb, hb⟩
          obtain ⟨ba, bc, rfl, _⟩ := hvb.form
          replace hS := Lib.hid (hS.out.up hb)
          replace hvb := Lib.hid hvb
          clear hb
          go_wp2_with fail
          refine hK.out _ _ ?_ ?_
          · (try dsimp only); exact hS.out
          clear hK K9 hHeld; intro hHeld
          try simp only [Act.put, List.setIfInBounds_toArray, List.set_cons_zero, List.set_cons_succ]
          refine wpAnyH_take (i := 2) (oi := { dst := some 40, op := Op.build 37 #[(1, Operand.const (Value.int IntKind.i64 1)), (3, Operand.tmp 39)], type := 37, pos := "law.go:142", after := #[{ on := 1, ground := Ground.data }], guard := none }) (v := ?_) rfl (by kernel_rfl) (by kernel_rfl) (by kernel_rfl) (fun _ _ _ h => h) (Or.inl ⟨by rfl, ?_⟩) (by assumption) ?_
          rotate_left 1
          · intro w hSw; (try dsimp only at hSw); go_simp <;> with_reducible rfl
          try simp only [Act.put, List.setIfInBounds_toArray, List.set_cons_zero, List.set_cons_succ]
          refine wpAnyH_ready (rs := [4]) (by kernel_rfl) (by simp) ?_
          refine AllReadyH.cons (o := { dst := some 42, op := Op.call { callee := Callee.value (Operand.func 18), args := #[Operand.tmp 40, Operand.tmp 41], argTypes := #[37, 27] }, type := 54, pos := "law.go:142", after := #[{ on := 2, ground := Ground.data }, { on := 3, ground := Ground.data }, { on := 1, ground := Ground.chain }], guard := none }) rfl (fun K9 hK => ?_) ?_
          · go_simp
            with_reducible refine (K.right (MeV.of (PrV.nil _) hvb.out in64_z in1) hS.out.un.k).mono ?_
            rintro e z2 ⟨rfl, hb⟩
            replace hS := Lib.hid (hS.out.up hb)
            clear hb
            go_wp2_with fail
            refine hK.out _ _ ?_ ?_
            · (try dsimp only); exact hS.out
            clear hK K9 hHeld; intro hHeld
            try simp only [Act.put, List.setIfInBounds_toArray, List.set_cons_zero, List.set_cons_succ]
            refine wpAnyH_take (i := 5) (oi := { dst := some 11, op := Op.assign (Operand.tmp 42), type := 54, pos := "law.go:142", after := #[{ on := 4, ground := Ground.data }, { on := 4, ground := Ground.chain }, { on := 0, ground := Ground.phase }, { on := 1, ground := Ground.phase }, { on := 2, ground := Ground.phase }, { on := 3, ground := Ground.phase }, { on := 4, ground := Ground.phase }], guard := none }) (v := ?_) rfl (by kernel_rfl) (by kernel_rfl) (by kernel_rfl) (fun _ _ _ h => h) (Or.inl ⟨by rfl, ?_⟩) (by assumption) ?_
            rotate_left 1
            · intro w hSw; (try dsimp only at hSw); go_simp <;> with_reducible rfl
            try simp only [Act.put, List.setIfInBounds_toArray, List.set_cons_zero, List.set_cons_succ]
            refine wpAnyH_done (by kernel_rfl) ?_ _
            go_wp2_with fail
            go_meet
            exact ⟨rfl, hS⟩
          exact AllReadyH.nil
        exact AllReadyH.nil
      case rest =>
      clear hS hk1000 in1
      obtain ⟨rfl, hS⟩ := hcut
      obtain ⟨W3, hW3⟩ : ∃ W, W = wc := ⟨_, rfl⟩
      subst hW3
      obtain ⟨r1, hr1⟩ : ∃ r, r = metR ⟨0, 1, [], bytL (eT i o)⟩ U.names.length U.classes.length U.methods.length := ⟨_, rfl⟩
      have e1 : Hid ((r1 == 0) = decide (o = 14 ∨ o = 19 ∨ o = 16)) := Lib.hid (by rw [hr1]; exact he)
      rw [← hr1]
      clear hr1 he
      have hxo : (eT i o)[l1]? = some ((o : Int), 0) := by unfold eT; rw [← hl1.out]; exact List.getElem?_set_self (by rw [List.length_replicate]; have := hl1.out; omega)
      obtain ⟨s0, s1, z0, z1⟩ := hS.out.at hxo
      go_upto_region 10 with fail
      go_cut [12] (fun v12 wx => v12 = .bool (decide (o = 14 ∨ o = 19 ∨ o = 16)) ∧ wx = W3)
      case first =>
        by_cases h14 : o = 14
        · have c14 : ((o : Int) == 14) = true := by simp; omega
          have qq : Hid (decide (o = 14 ∨ o = 19 ∨ o = 16) = true) := Lib.hid (decide_eq_true (Or.inl h14))
          clear h14
          go_wp2
          go_meet
          exact ⟨by rw [qq.out], rfl⟩
        have c14 : ((o : Int) == 14) = false := by simp; omega
        by_cases h19 : o = 19
        · have c19 : ((o : Int) == 19) = true := by simp; omega
          have qq : Hid (decide (o = 14 ∨ o = 19 ∨ o = 16) = true) := Lib.hid (decide_eq_true (Or.inr (Or.inl h19)))
          clear h14 h19
          go_wp2
          go_meet
          exact ⟨by rw [qq.out], rfl⟩
        have c19 : ((o : Int) == 19) = false := by simp; omega
        by_cases h16 : o = 16
        · have c16 : ((o : Int) == 16) = true := by simp; omega
          have qq : Hid (decide (o = 14 ∨ o = 19 ∨ o = 16) = true) := Lib.hid (decide_eq_true (Or.inr (Or.inr h16)))
          clear h14 h19 h16
          go_wp2
          go_meet
          exact ⟨by rw [qq.out], rfl⟩
        · have c16 : ((o : Int) == 16) = false := by simp; omega
          have qq : Hid (decide (o = 14 ∨ o = 19 ∨ o = 16) = false) := Lib.hid (decide_eq_false (by omega))
          clear h14 h19 h16
          go_wp2
          go_meet
          exact ⟨by rw [qq.out], rfl⟩
      case rest =>
      obtain ⟨rfl, rfl⟩ := hcut
      obtain ⟨W8, hW8⟩ : ∃ W, W = wc := ⟨_, rfl⟩
      subst hW8
      generalize decide (o = 14 ∨ o = 19 ∨ o = 16) = b1 at *
      clear s0 s1 z0 z1
      have i4 : In64 4 := in64_of (by omega) (by omega)
      have i14 : In64 14 := in64_of (by omega) (by omega)
      have i15 : In64 15 := in64_of (by omega) (by omega)
      have i16 : In64 16 := in64_of (by omega) (by omega)
      have ia : In64 (a : Int) := in64_of (by omega) (by omega)
      have heT : Hid ((eT i o).set l1 (14, 0) = eT i 14) := Lib.hid (by rw [hl1.out]; exact eT_set i o)
      have hgT : Hid (((fT i a).set 0 (4, 0)).set l1 (16, (a : Int)) = gT i a) := Lib.hid (by rw [hl1.out]; exact gT_eq i hk22 hk2 a (by omega))
      have hfl : ((fT i a).set 0 (4, 0))[l1]? = some (14, 0) := by rw [hl1.out]; exact fT_l hk2 a
      have p2 : (0 : Int) < (i : Int) := by omega
      obtain ⟨s0, s1, z0, z1⟩ := hS.out.at (j := l1) hxo
      have hN := hS.out.set l1 (by have := hl1.out; omega) 14 0 i14 in64_z
      rw [heT.out] at hN
      replace hN := Lib.hid hN
      clear hS
      go_upto_region 12 with fail
      generalize (W8.setCell ⟨g, l1 * 2, none⟩ (.int .i64 14)).setCell ⟨g, l1 * 2 + 1, none⟩ (.int .i64 0) = W4 at *
      replace hS := hN
      clear hN s0 s1 z0 z1
      clear hxo heT
      go_upto_region 13 with (first | (go_at_call 13; ((with_reducible refine (PA.out _).mono ?_); rintro e z1' ⟨rfl, hz1⟩; subst z1')))
      clear PA
      obtain ⟨s0, s1, z0, z1⟩ := hS.out.at (j := 0) (eT_0 hk2)
      simp only [Nat.zero_mul, Nat.zero_add] at s0 s1 z0 z1
      have hN := hS.out.set 0 (by have := hl1.out; omega) 15 (a : Int) i15 ia
      simp only [Nat.zero_mul, Nat.zero_add] at hN
      rw [show (eT i 14).set 0 (15, (a : Int)) = fT i a from rfl] at hN
      replace hN := Lib.hid hN
      clear hS
      go_upto_region 14 with fail
      generalize (W4.setCell ⟨g, 0, none⟩ (.int .i64 15)).setCell ⟨g, 1, none⟩ (.int .i64 (a : Int)) = W5 at *
      replace hS := hN
      clear hN s0 s1 z0 z1
      have hk9 : (fT i a).length ≤ 1000 := by have := hS.out.len; omega
      go_cut [14] (fun v14 wx => v14 = .int .i64 (metR ⟨0, 0, [], bytL (fT i a)⟩ U.names.length U.classes.length U.methods.length) ∧ Hid (EnS w wx q10 g i c (fT i a) (.agg #[.slice na U.names.length nc, .slice ka U.classes.length kc, .slice (some ⟨ug, 0, none⟩) U.methods.length ucap, .slice oa U.objects.length oc, .int .i64 U.main]) U s ug ucap M na ka oa nc kc oc))
      case first =>
        replace hS := Lib.hid (hS.out.up ((Below.refl _ _).drew))
        refine wp_region_held_drew (S := (fun wr' => EnS w wr' q10 g i c (fT i a) (.agg #[.slice na U.names.length nc, .slice ka U.classes.length kc, .slice (some ⟨ug, 0, none⟩) U.methods.length ucap, .slice oa U.objects.length oc, .int .i64 U.main]) U s ug ucap M na ka oa nc kc oc)) (by kernel_rfl) ?_ (fun hHeld => ?_)
        · (try dsimp only); exact hS.out
        try simp only [Act.put, List.setIfInBounds_toArray, List.set_cons_zero, List.set_cons_succ]
        refine wpAnyH_take (i := 3) (oi := { dst := some 82, op := Op.load 27 (Operand.tmp 10), type := 27, pos := "law.go:147", after := #[], guard := none }) (v := (.agg #[.slice na U.names.length nc, .slice ka U.classes.length kc, .slice (some ⟨ug, 0, none⟩) U.methods.length ucap, .slice oa U.objects.length oc, .int .i64 U.main])) rfl (by kernel_rfl) (by kernel_rfl) (by kernel_rfl) (fun _ _ _ h => h) (yieldsIf_load_mid (by rfl) _ _ rfl q10 0 rfl [.slice na U.names.length nc, .slice ka U.classes.length kc, .slice (some ⟨ug, 0, none⟩) U.methods.length ucap, .slice oa U.objects.length oc, .int .i64 U.main] dU (fun w hw => hw.box.range) hdU.out hrU.out infoU) (by assumption) ?_
        try simp only [Act.put, List.setIfInBounds_toArray, List.set_cons_zero, List.set_cons_succ]
        refine wpAnyH_take (i := 0) (oi := { dst := some 79, op := Op.move (Operand.tmp 8), type := 45, pos := "law.go:147", after := #[], guard := none }) (v := ?_) rfl (by kernel_rfl) (by kernel_rfl) (by kernel_rfl) (fun _ _ _ h => h) (Or.inl ⟨by rfl, ?_⟩) (by assumption) ?_
        rotate_left 1
        · intro w hSw; (try dsimp only at hSw); go_simp <;> with_reducible rfl
        try simp only [Act.put, List.setIfInBounds_toArray, List.set_cons_zero, List.set_cons_succ]
        refine wpAnyH_ready (rs := [1]) (by kernel_rfl) (by simp) ?_
        refine AllReadyH.cons (o := { dst := some 80, op := Op.call { callee := Callee.value (Operand.func 14), args := #[Operand.tmp 79], argTypes := #[45] }, type := 35, pos := "law.go:147", after := #[{ on := 0, ground := Ground.data }], guard := none }) rfl (fun K9 hK => ?_) ?_
        · go_simp
          with_reducible refine (K.bytes hS.out.pr hk9).mono ?_
          rintro e z1 ⟨vb, rfl, hvb, hb⟩
          obtain ⟨ba, bc, rfl, _⟩ := hvb.form
          replace hS := Lib.hid (hS.out.up hb)
          replace hvb := Lib.hid hvb
          clear hb
          go_wp2_with fail
          refine hK.out _ _ ?_ ?_
          · (try dsimp only); exact hS.out
          clear hK K9 hHeld; intro hHeld
          try simp only [Act.put, List.setIfInBounds_toArray, List.set_cons_zero, List.set_cons_succ]
          refine wpAnyH_take (i := 2) (oi := { dst := some 81, op := Op.build 37 #[(3, Operand.tmp 80)], type := 37, pos := "law.go:147", after := #[{ on := 1, ground := Ground.data }], guard := none }) (v := ?_) rfl (by kernel_rfl) (by kernel_rfl) (by kernel_rfl) (fun _ _ _ h => h) (Or.inl ⟨by rfl, ?_⟩) (by assumption) ?_
          rotate_left 1
          · intro w hSw; (try dsimp only at hSw); go_simp <;> with_reducible rfl
          try simp only [Act.put, List.setIfInBounds_toArray, List.set_cons_zero, List.set_cons_succ]
          refine wpAnyH_ready (rs := [4]) (by kernel_rfl) (by simp) ?_
          refine AllReadyH.cons (o := { dst := some 83, op := Op.call { callee := Callee.value (Operand.func 18), args := #[Operand.tmp 81, Operand.tmp 82], argTypes := #[37, 27] }, type := 54, pos := "law.go:147", after := #[{ on := 2, ground := Ground.data }, { on := 3, ground := Ground.data }, { on := 1, ground := Ground.chain }], guard := none }) rfl (fun K9 hK => ?_) ?_
          · go_simp
            with_reducible refine (K.right (MeV.of (PrV.nil _) hvb.out in64_z in64_z) hS.out.un.k).mono ?_
            rintro e z2 ⟨rfl, hb⟩
            replace hS := Lib.hid (hS.out.up hb)
            clear hb
            go_wp2_with fail
            refine hK.out _ _ ?_ ?_
            · (try dsimp only); exact hS.out
            clear hK K9 hHeld; intro hHeld
            try simp only [Act.put, List.setIfInBounds_toArray, List.set_cons_zero, List.set_cons_succ]
            refine wpAnyH_take (i := 5) (oi := { dst := some 14, op := Op.assign (Operand.tmp 83), type := 54, pos := "law.go:147", after := #[{ on := 4, ground := Ground.data }, { on := 4, ground := Ground.chain }, { on := 0, ground := Ground.phase }, { on := 1, ground := Ground.phase }, { on := 2, ground := Ground.phase }, { on := 3, ground := Ground.phase }, { on := 4, ground := Ground.phase }], guard := none }) (v := ?_) rfl (by kernel_rfl) (by kernel_rfl) (by kernel_rfl) (fun _ _ _ h => h) (Or.inl ⟨by rfl, ?_⟩) (by assumption) ?_
            rotate_left 1
            · intro w hSw; (try dsimp only at hSw); go_simp <;> with_reducible rfl
            try simp only [Act.put, List.setIfInBounds_toArray, List.set_cons_zero, List.set_cons_succ]
            refine wpAnyH_done (by kernel_rfl) ?_ _
            go_wp2_with fail
            go_meet
            exact ⟨rfl, hS⟩
          exact AllReadyH.nil
        exact AllReadyH.nil
      case rest =>
      clear hS hk9
      obtain ⟨rfl, hS⟩ := hcut
      obtain ⟨W14, hW14⟩ : ∃ W, W = wc := ⟨_, rfl⟩
      subst hW14
      obtain ⟨r2, hr2⟩ : ∃ r, r = metR ⟨0, 0, [], bytL (fT i a)⟩ U.names.length U.classes.length U.methods.length := ⟨_, rfl⟩
      have e2 : Hid ((r2 == 0) = decide (a + 1 < i)) := Lib.hid (by rw [hr2]; exact hf)
      rw [← hr2]
      clear hr2 hf
      obtain ⟨s0, s1, z0, z1⟩ := hS.out.at (j := 0) (fT_0 hk2 a)
      simp only [Nat.zero_mul, Nat.zero_add] at s0 s1 z0 z1
      have hN := hS.out.set 0 (by have := hl1.out; omega) 4 0 i4 in64_z
      simp only [Nat.zero_mul, Nat.zero_add] at hN
      rw [show (fT i a).set 0 (4, 0) = (fT i a).set 0 (4, 0) from rfl] at hN
      replace hN := Lib.hid hN
      clear hS
      go_upto_region 16 with fail
      generalize (W14.setCell ⟨g, 0, none⟩ (.int .i64 4)).setCell ⟨g, 1, none⟩ (.int .i64 0) = W6 at *
      replace hS := hN
      clear hN s0 s1 z0 z1
      obtain ⟨s0, s1, z0, z1⟩ := hS.out.at (j := l1) hfl
      have hN := hS.out.set l1 (by have := hl1.out; omega) 16 (a : Int) i16 ia
      rw [hgT.out] at hN
      replace hN := Lib.hid hN
      clear hS
      go_upto_region 17 with fail
      generalize (W6.setCell ⟨g, l1 * 2, none⟩ (.int .i64 16)).setCell ⟨g, l1 * 2 + 1, none⟩ (.int .i64 (a : Int)) = W7 at *
      replace hS := hN
      clear hN s0 s1 z0 z1
      clear hfl hgT
      have hk9 : (gT i a).length ≤ 1000 := by have := hS.out.len; omega
      go_cut [15] (fun v15 wx => v15 = .int .i64 (metR ⟨0, 0, [], bytL (gT i a)⟩ U.names.length U.classes.length U.methods.length) ∧ Hid (EnS w wx q10 g i c (gT i a) (.agg #[.slice na U.names.length nc, .slice ka U.classes.length kc, .slice (some ⟨ug, 0, none⟩) U.methods.length ucap, .slice oa U.objects.length oc, .int .i64 U.main]) U s ug ucap M na ka oa nc kc oc))
      case first =>
        replace hS := Lib.hid (hS.out.up ((Below.refl _ _).drew))
        refine wp_region_held_drew (S := (fun wr' => EnS w wr' q10 g i c (gT i a) (.agg #[.slice na U.names.length nc, .slice ka U.classes.length kc, .slice (some ⟨ug, 0, none⟩) U.methods.length ucap, .slice oa U.objects.length oc, .int .i64 U.main]) U s ug ucap M na ka oa nc kc oc)) (by kernel_rfl) ?_ (fun hHeld => ?_)
        · (try dsimp only); exact hS.out
        try simp only [Act.put, List.setIfInBounds_toArray, List.set_cons_zero, List.set_cons_succ]
        refine wpAnyH_take (i := 3) (oi := { dst := some 96, op := Op.load 27 (Operand.tmp 10), type := 27, pos := "law.go:150", after := #[], guard := none }) (v := (.agg #[.slice na U.names.length nc, .slice ka U.classes.length kc, .slice (some ⟨ug, 0, none⟩) U.methods.length ucap, .slice oa U.objects.length oc, .int .i64 U.main])) rfl (by kernel_rfl) (by kernel_rfl) (by kernel_rfl) (fun _ _ _ h => h) (yieldsIf_load_mid (by rfl) _ _ rfl q10 0 rfl [.slice na U.names.length nc, .slice ka U.classes.length kc, .slice (some ⟨ug, 0, none⟩) U.methods.length ucap, .slice oa U.objects.length oc, .int .i64 U.main] dU (fun w hw => hw.box.range) hdU.out hrU.out infoU) (by assumption) ?_
        try simp only [Act.put, List.setIfInBounds_toArray, List.set_cons_zero, List.set_cons_succ]
        refine wpAnyH_take (i := 0) (oi := { dst := some 93, op := Op.move (Operand.tmp 8), type := 45, pos := "law.go:150", after := #[], guard := none }) (v := ?_) rfl (by kernel_rfl) (by kernel_rfl) (by kernel_rfl) (fun _ _ _ h => h) (Or.inl ⟨by rfl, ?_⟩) (by assumption) ?_
        rotate_left 1
        · intro w hSw; (try dsimp only at hSw); go_simp <;> with_reducible rfl
        try simp only [Act.put, List.setIfInBounds_toArray, List.set_cons_zero, List.set_cons_succ]
        refine wpAnyH_ready (rs := [1]) (by kernel_rfl) (by simp) ?_
        refine AllReadyH.cons (o := { dst := some 94, op := Op.call { callee := Callee.value (Operand.func 14), args := #[Operand.tmp 93], argTypes := #[45] }, type := 35, pos := "law.go:150", after := #[{ on := 0, ground := Ground.data }], guard := none }) rfl (fun K9 hK => ?_) ?_
        · go_simp
          with_reducible refine (K.bytes hS.out.pr hk9).mono ?_
          rintro e z1 ⟨vb, rfl, hvb, hb⟩
          obtain ⟨ba, bc, rfl, _⟩ := hvb.form
          replace hS := Lib.hid (hS.out.up hb)
          replace hvb := Lib.hid hvb
          clear hb
          go_wp2_with fail
          refine hK.out _ _ ?_ ?_
          · (try dsimp only); exact hS.out
          clear hK K9 hHeld; intro hHeld
          try simp only [Act.put, List.setIfInBounds_toArray, List.set_cons_zero, List.set_cons_succ]
          refine wpAnyH_take (i := 2) (oi := { dst := some 95, op := Op.build 37 #[(3, Operand.tmp 94)], type := 37, pos := "law.go:150", after := #[{ on := 1, ground := Ground.data }], guard := none }) (v := ?_) rfl (by kernel_rfl) (by kernel_rfl) (by kernel_rfl) (fun _ _ _ h => h) (Or.inl ⟨by rfl, ?_⟩) (by assumption) ?_
          rotate_left 1
          · intro w hSw; (try dsimp only at hSw); go_simp <;> with_reducible rfl
          try simp only [Act.put, List.setIfInBounds_toArray, List.set_cons_zero, List.set_cons_succ]
          refine wpAnyH_ready (rs := [4]) (by kernel_rfl) (by simp) ?_
          refine AllReadyH.cons (o := { dst := some 97, op := Op.call { callee := Callee.value (Operand.func 18), args := #[Operand.tmp 95, Operand.tmp 96], argTypes := #[37, 27] }, type := 54, pos := "law.go:150", after := #[{ on := 2, ground := Ground.data }, { on := 3, ground := Ground.data }, { on := 1, ground := Ground.chain }], guard := none }) rfl (fun K9 hK => ?_) ?_
          · go_simp
            with_reducible refine (K.right (MeV.of (PrV.nil _) hvb.out in64_z in64_z) hS.out.un.k).mono ?_
            rintro e z2 ⟨rfl, hb⟩
            replace hS := Lib.hid (hS.out.up hb)
            clear hb
            go_wp2_with fail
            refine hK.out _ _ ?_ ?_
            · (try dsimp only); exact hS.out
            clear hK K9 hHeld; intro hHeld
            try simp only [Act.put, List.setIfInBounds_toArray, List.set_cons_zero, List.set_cons_succ]
            refine wpAnyH_take (i := 5) (oi := { dst := some 15, op := Op.assign (Operand.tmp 97), type := 54, pos := "law.go:150", after := #[{ on := 4, ground := Ground.data }, { on := 4, ground := Ground.chain }, { on := 0, ground := Ground.phase }, { on := 1, ground := Ground.phase }, { on := 2, ground := Ground.phase }, { on := 3, ground := Ground.phase }, { on := 4, ground := Ground.phase }], guard := none }) (v := ?_) rfl (by kernel_rfl) (by kernel_rfl) (by kernel_rfl) (fun _ _ _ h => h) (Or.inl ⟨by rfl, ?_⟩) (by assumption) ?_
            rotate_left 1
            · intro w hSw; (try dsimp only at hSw); go_simp <;> with_reducible rfl
            try simp only [Act.put, List.setIfInBounds_toArray, List.set_cons_zero, List.set_cons_succ]
            refine wpAnyH_done (by kernel_rfl) ?_ _
            go_wp2_with fail
            go_meet
            exact ⟨rfl, hS⟩
          exact AllReadyH.nil
        exact AllReadyH.nil
      case rest =>
      clear hS hk9
      obtain ⟨rfl, hS⟩ := hcut
      obtain ⟨W15, hW15⟩ : ∃ W, W = wc := ⟨_, rfl⟩
      subst hW15
      obtain ⟨r3, hr3⟩ : ∃ r, r = metR ⟨0, 0, [], bytL (gT i a)⟩ U.names.length U.classes.length U.methods.length := ⟨_, rfl⟩
      have e3 : Hid ((r3 == 0) = decide (a ≤ i - 1)) := Lib.hid (by rw [hr3]; exact hg)
      rw [← hr3]
      clear hr3 hg
      have wa : IntKind.i64.wrap ((a : Int) + 1) = (a : Int) + 1 := by rw [IntKind.wrap_i64]; omega
      have f1 : (r1 == 0) = b1 := e1.out
      have f2 : (r2 == 0) = decide ((a : Int) + 1 < (i : Int)) := by rw [e2.out, decide_eq_decide]; omega
      have f3 : (r3 == 0) = decide (a ≤ l1) := by rw [e3.out, decide_eq_decide]; have := hl1.out; omega
      clear e1 e2 e3 d1 p0 p1 p2
      go_wp2_with fail
      with_reducible refine (known_c K _).mono ?_
      rintro e z9 ⟨rfl, hb⟩
      replace hS := Lib.hid (hS.out.up hb)
      go_wp2
      go_ret
      exact ⟨by simp, hS.out.bel⟩
end Wd
end Go.Proofs.Ythlijmdohejheaa
