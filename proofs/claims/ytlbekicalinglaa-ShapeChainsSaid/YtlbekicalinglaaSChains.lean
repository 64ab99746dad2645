/- ShapeChains, over what the laws ask of the package. -/
import Derived.Test.YtlbekicalinglaaSIv
import Derived.Test.YtlbekicalinglaaSCut
import Derived.Deep.RegionHeld3
import Derived.Deep.DeepCutAuto
import Derived.Deep.CutBlock
namespace Go.Proofs.Ytlbekicalinglaa
open Go.RowKit
set_option linter.unusedVariables false
set_option maxRecDepth 20000
namespace Wd
theorem chain_more {L : List ClassA} (h : TapeL L) : ∀ (f : Nat) (i : Int), i < f → chainR L i (f + 1) = chainR L i f
  | 0, i, hi => chainR_neg 1 (by omega)
  | f + 1, i, hi => by
    rw [chainR, chainR]
    by_cases h0 : 0 ≤ i
    · rw [if_pos h0, if_pos h0]
      cases hc : L[i.toNat]? with
      | none => rfl
      | some c =>
        simp only
        obtain ⟨_, hs⟩ := tape_down h hc
        rw [chain_more h f c.super (by omega)]
    · rw [if_neg h0, if_neg h0]
theorem superF_up {L : List ClassA} (h : TapeL L) {i : Nat} {c : ClassA} (hc : L[i]? = some c) : c.super < 0 ∨ superF L c.super ≤ c.fields := by
  have := tape_cls h hc
  unfold classOk at this
  simp only [Bool.and_eq_true, Bool.or_eq_true, decide_eq_true_eq] at this
  exact this.2
theorem chain_fields {L : List ClassA} (h : TapeL L) : ∀ (f : Nat) (i k : Int), k ∈ chainR L i f → superF L k ≤ superF L i
  | 0, _, _, hk => by simp [chainR] at hk
  | f + 1, i, k, hk => by
    rw [chainR] at hk
    by_cases h0 : 0 ≤ i
    · rw [if_pos h0] at hk
      cases hc : L[i.toNat]? with
      | none => rw [hc] at hk; simp at hk
      | some c =>
        rw [hc] at hk
        simp only [List.mem_cons] at hk
        rcases hk with rfl | hk
        · exact Int.le_refl _
        · have h1 := chain_fields h f c.super k hk
          have hi : superF L i = c.fields := by unfold superF; rw [hc]
          rcases superF_up h hc with h2 | h2
          · rw [chainR_neg f h2] at hk; cases hk
          · omega
    · rw [if_neg h0] at hk; cases hk
theorem SL.tail {w : World} {e : TypeId} {g n cap : Nat} {x : Int} {R : List Int} (h : SL w e (.slice (some ⟨g, 0, none⟩) n cap) (x :: R)) : n = R.length + 1 ∧ n ≤ cap ∧ w.cell? ⟨g, 0, none⟩ = some (.int .i64 x) ∧ ∃ ad : Addr, (if cap = 1 then (some ⟨g, 0, none⟩ : Option Addr) else some ⟨g, 1, none⟩) = some ad ∧ IV w (.slice (some ad) (n - 1) (cap - 1)) (n - 1) R := by
  rcases h.cases with ⟨e1, _⟩ | ⟨g', cap', e1, hle, _, _, ho⟩
  · cases e1
  · cases e1
    have hc := row_cell ho (k := 0) (x := x) rfl
    refine ⟨rfl, hle, hc, ?_⟩
    by_cases h1 : cap = 1
    · have hR : R = [] := by have : (x :: R).length ≤ 1 := by omega
                             exact List.length_eq_zero_iff.1 (by simpa using this)
      subst hR
      exact ⟨⟨g, 0, none⟩, by rw [if_pos h1], rfl, _, _, rfl, by simp, fun k y hy => by simp at hy⟩
    · refine ⟨⟨g, 1, none⟩, by rw [if_neg h1], by simp, _, cap - 1, by simp, by simp at hle ⊢; omega, fun k y hy => ⟨g, 1, rfl, ?_⟩⟩
      have := row_cell ho (k := k + 1) (x := y) (by simpa using hy)
      rw [Nat.add_comm 1 k]; exact this
set_option maxHeartbeats 64000000 in
theorem chains_any (K : ShapeK) {w : World} {ad : Option Addr} {n cap : Nat} (x : Int) (hx : In64 x) (HA : NumA w ad n) (hn : n ≤ 4611686018427387904) :
    Calls Try.prog 5 #[.slice ad n cap, .int .i64 x] w fun e w' => e = .returned (.bool true) ∧ Below w.heap.size w w' := by
  have P := Lib.hid (unit_c (tape_tp (cap := cap) HA hn))
  go_enter Try.func5, Try.ntmps5
  go_wp2_with fail
  refine P.out.mono ?_
  clear P
  rintro e w1 ⟨nv, cv, mv, ov, rfl, U, hU, hT, _, hcg⟩
  have hB := Lib.hid (unit_bel hcg)
  obtain ⟨⟨na, nm, nc, rfl⟩, ⟨ma, mm, mc, rfl⟩, ⟨oa, om, oc, rfl⟩⟩ := hU.forms
  have hv0 := hU.c
  have hTL := Lib.hid hT.tl
  have hm3 := hT.cl0
  clear hcg hU hT
  generalize U.classes = L at *
  obtain ⟨ca, cc, rfl, hcc, _⟩ := hv0.form
  obtain ⟨m, hm⟩ : ∃ m, m = L.length := ⟨_, rfl⟩
  rw [← hm] at hv0 hcc hm3 ⊢
  have hm5 : m ≤ 5 := by have := hTL.out.le; omega
  have hm' := Lib.hid hm
  have hv := Lib.hid hv0
  have hwm : IntKind.i64.wrap ((m : Int) - 1) = (m : Int) - 1 := by rw [IntKind.wrap_i64]; omega
  have PW := Lib.hid (within_c x 0 ((m : Int) - 1) hx.1 hx.2 (by omega) (by omega) (by omega))
  have hka := within_bd x 0 ((m : Int) - 1) (by omega)
  generalize within x 0 ((m : Int) - 1) = kk at *
  obtain ⟨i, rfl⟩ : ∃ k : Nat, kk = (k : Int) := ⟨kk.toNat, by omega⟩
  have him : i < m := by omega
  have him' : (i : Int) < (m : Int) := by omega
  have i0 : (0 : Int) ≤ (i : Int) := by omega
  have i64 : In64 (i : Int) := in64_of (by omega) (by omega)
  obtain ⟨c, hc⟩ : ∃ c, L[i]? = some c := ⟨L[i]'(by omega), by simp⟩
  have hdown := tape_down hTL.out hc
  have hCe : chain L (i : Int) = (i : Int) :: chainR L c.super 7 := chainR_on hc
  have hRe : chain L c.super = chainR L c.super 7 := chain_more hTL.out 7 c.super (by omega)
  obtain ⟨sx, fx, g0, off0, bv0, rfl, _, hs1, _, _, _⟩ := hv0.at hc
  obtain ⟨cn, cs, cf, cb⟩ := c
  simp only at hdown hCe hRe sx fx hs1
  have hc' := Lib.hid hc
  clear hm hv0 hka hc
  have z6 : In64 6 := in64_of (by omega) (by omega)
  have z9 : In64 9 := in64_of (by omega) (by omega)
  have hfd := unit_f1 na (some ⟨g0, off0, none⟩) ma oa nm m mm om nc cc mc oc 6 w1
  have hcs : ∀ wr : World, Below w1.heap.size w1 wr → wr.cell? ⟨g0, off0 + i * 4 + 1, none⟩ = some (.int .i64 cs) := fun wr hb => cell_up hb hs1
  replace hcs := Lib.hid hcs
  have hR0 : shapeR L 6 9 = 0 := tape_right hTL.out (by have := hm'.out; omega)
  clear hs1
  go_wp2_with fail
  have PR := K.right hv.out 6 9 z6 z9
  rw [hR0] at PR
  refine PR.mono ?_
  clear PR hR0 hfd
  rintro e w2 ⟨rfl, hb12⟩
  have hv2 := Lib.hid (hv.out.up hb12)
  have hB2 := Lib.hid (hB.out.trans (hb12.mono hB.out.size))
  clear hv hB
  go_wp2_with (first | (go_at_call 14; ((with_reducible refine (PW.out _).mono ?_); rintro e w3 ⟨rfl, hw3⟩; subst w3; go_wp2_with fail)))
  have PC := K.chn hv2.out (i : Int) i64
  rw [hCe] at PC
  refine PC.mono ?_
  clear PC PW
  rintro e w3 ⟨v3, rfl, hS, hb23⟩
  have hv3 := Lib.hid (hv2.out.up hb23)
  have hB3 := Lib.hid (hB2.out.trans (hb23.mono hB2.out.size))
  have hb13 := hb12.trans (hb23.mono hb12.size)
  clear hv2 hB2 hb12 hb23
  obtain ⟨R, hR⟩ : ∃ R, R = chainR L cs 7 := ⟨_, rfl⟩
  rw [← hR] at hS hCe hRe
  have hR' := Lib.hid hR
  have hC' := Lib.hid hCe
  have hRe' := Lib.hid hRe
  obtain ⟨ga, gc, rfl⟩ := hS.form
  obtain ⟨nn, hnn⟩ : ∃ nn, nn = ((i : Int) :: R).length := ⟨_, rfl⟩
  rw [← hnn] at hS ⊢
  obtain ⟨gg, hga, _⟩ := SL.at hS (k := 0) (x := (i : Int)) rfl
  subst hga
  obtain ⟨hn1, hncap, hc0, at_, hat, hiv⟩ := hS.tail
  have hnn' := Lib.hid hnn
  have hCl := chain_len L (i : Int)
  rw [hCe, ← hnn] at hCl
  clear hnn hR hCe hRe
  have hn1' := Lib.hid hn1
  have hnn1 : 1 ≤ nn := by omega
  clear hn1
  have q0 : ((nn : Int) == 0) = false := by simp; omega
  have q1 : (0 : Int) < (nn : Int) := by omega
  have q2 : (1 : Int) ≤ (nn : Int) := by omega
  have q3 : (nn : Int) ≤ (gc : Int) := by omega
  have hS' := Lib.hid hS
  have hiv' := Lib.hid hiv
  clear hS hiv
  go_wp2_with fail
  have PD := K.depth hv3.out (i : Int) i64
  rw [hC'.out, ← hnn'.out] at PD
  refine PD.mono ?_
  clear PD
  rintro e w4 ⟨rfl, hb34⟩
  have hv4 := Lib.hid (hv3.out.up hb34)
  have hB4 := Lib.hid (hB3.out.trans (hb34.mono hB3.out.size))
  have hS4 := Lib.hid (hS'.out.up hb34)
  have hiv4 := Lib.hid (hiv'.out.up hb34)
  have hb14 := hb13.trans (hb34.mono hb13.size)
  have hs4 := hcs.out w4 hb14
  clear hv3 hB3 hS' hiv' hb13 hb34 hc0 hcs hb14
  go_upto_region 9 with fail
  go_cut [71] (fun b wx => b = .bool false ∧ Hid (ClV wx (.slice (some ⟨g0, off0, none⟩) m cc) L) ∧ Hid (Below w.heap.size w wx) ∧ Hid (SL wx 3 (.slice (some ⟨gg, 0, none⟩) nn gc) ((i : Int) :: R)))
  case first =>
    by_cases hs0 : 0 ≤ cs
    · have hsd : decide (cs < 0) = false := by simp; omega
      have hsd2 : decide (0 ≤ cs) = true := by simp; omega
      have hsd3 : decide (cs ≥ 0) = true := by simp; omega
      have hRl : nn - 1 = R.length := by have := hn1'.out; omega
      have hR8 : R.length ≤ 8 := by omega
      have hiv4' : Hid (IV w4 (.slice (some at_) R.length (gc - 1)) R.length R) := by rw [← hRl]; exact hiv4
      refine wp_region_held_drew (S := (fun _ => True)) (by kernel_rfl) ?_ (fun hHeld => ?_)
      · (try dsimp only); try trivial
      try simp only [Act.put, List.setIfInBounds_toArray, List.set_cons_zero, List.set_cons_succ]
      refine wpAnyH_take (i := 0) (oi := { dst := some 52, op := Op.move (Operand.tmp 8), type := 3, pos := "law.go:120", after := #[], guard := none }) (v := ?_) rfl (by kernel_rfl) (by kernel_rfl) (by kernel_rfl) (fun _ _ _ h => h) (Or.inl ⟨by rfl, ?_⟩) (by assumption) ?_
      rotate_left 1
      · intro w hSw; (try dsimp only at hSw); go_simp <;> with_reducible rfl
      try simp only [Act.put, List.setIfInBounds_toArray, List.set_cons_zero, List.set_cons_succ]
      refine wpAnyH_take (i := 1) (oi := { dst := some 53, op := Op.binOp BinOp.geq 3 (Operand.tmp 52) (Operand.const (Value.int IntKind.i64 0)) 3, type := 4, pos := "law.go:120", after := #[{ on := 0, ground := Ground.data }], guard := none }) (v := ?_) rfl (by kernel_rfl) (by kernel_rfl) (by kernel_rfl) (fun _ _ _ h => h) (Or.inl ⟨by rfl, ?_⟩) (by assumption) ?_
      rotate_left 1
      · intro w hSw; (try dsimp only at hSw); go_simp <;> with_reducible rfl
      try simp only [Act.put, List.setIfInBounds_toArray, List.set_cons_zero, List.set_cons_succ]
      refine wpAnyH_take (i := 2) (oi := { dst := some 54, op := Op.move (Operand.tmp 53), type := 4, pos := "law.go:120", after := #[{ on := 1, ground := Ground.data }], guard := none }) (v := ?_) rfl (by kernel_rfl) (by kernel_rfl) (by kernel_rfl) (fun _ _ _ h => h) (Or.inl ⟨by rfl, ?_⟩) (by assumption) ?_
      rotate_left 1
      · intro w hSw; (try dsimp only at hSw); go_simp <;> with_reducible rfl
      try simp only [Act.put, List.setIfInBounds_toArray, List.set_cons_zero, List.set_cons_succ]
      refine wpAnyH_take (i := 3) (oi := { dst := some 55, op := Op.move (Operand.tmp 5), type := 23, pos := "law.go:120", after := #[{ on := 2, ground := Ground.guard }], guard := some (2, true) }) (v := ?_) rfl (by kernel_rfl) (by kernel_rfl) (by kernel_rfl) (fun _ _ _ h => h) (Or.inl ⟨by rfl, ?_⟩) (by assumption) ?_
      rotate_left 1
      · intro w hSw; (try dsimp only at hSw); go_simp <;> with_reducible rfl
      try simp only [Act.put, List.setIfInBounds_toArray, List.set_cons_zero, List.set_cons_succ]
      refine wpAnyH_take (i := 4) (oi := { dst := some 56, op := Op.move (Operand.tmp 8), type := 3, pos := "law.go:120", after := #[{ on := 2, ground := Ground.guard }], guard := some (2, true) }) (v := ?_) rfl (by kernel_rfl) (by kernel_rfl) (by kernel_rfl) (fun _ _ _ h => h) (Or.inl ⟨by rfl, ?_⟩) (by assumption) ?_
      rotate_left 1
      · intro w hSw; (try dsimp only at hSw); go_simp <;> with_reducible rfl
      try simp only [Act.put, List.setIfInBounds_toArray, List.set_cons_zero, List.set_cons_succ]
      refine wpAnyH_take (i := 6) (oi := { dst := some 58, op := Op.move (Operand.tmp 7), type := 29, pos := "law.go:120", after := #[{ on := 2, ground := Ground.guard }], guard := some (2, true) }) (v := ?_) rfl (by kernel_rfl) (by kernel_rfl) (by kernel_rfl) (fun _ _ _ h => h) (Or.inl ⟨by rfl, ?_⟩) (by assumption) ?_
      rotate_left 1
      · intro w hSw; (try dsimp only at hSw); go_simp <;> with_reducible rfl
      try simp only [Act.put, List.setIfInBounds_toArray, List.set_cons_zero, List.set_cons_succ]
      refine wpAnyH_take (i := 7) (oi := { dst := some 59, op := Op.slice 29 (Operand.tmp 58) (some (Operand.const (Value.int IntKind.i64 1))) none none, type := 29, pos := "law.go:120", after := #[{ on := 6, ground := Ground.data }, { on := 2, ground := Ground.guard }], guard := some (2, true) }) (v := ?_) rfl (by kernel_rfl) (by kernel_rfl) (by kernel_rfl) (fun _ _ _ h => h) (Or.inl ⟨by rfl, ?_⟩) (by assumption) ?_
      rotate_left 1
      · intro w hSw; (try dsimp only at hSw); go_simp <;> with_reducible rfl
      try simp only [Act.put, List.setIfInBounds_toArray, List.set_cons_zero, List.set_cons_succ]
      refine wpAnyH_ready (rs := [5]) (by kernel_rfl) (by simp) ?_
      refine AllReadyH.cons (o := { dst := some 57, op := Op.call { callee := Callee.value (Operand.func 15), args := #[Operand.tmp 55, Operand.tmp 56], argTypes := #[23, 3] }, type := 29, pos := "law.go:120", after := #[{ on := 3, ground := Ground.data }, { on := 4, ground := Ground.data }, { on := 2, ground := Ground.chain }, { on := 2, ground := Ground.guard }], guard := some (2, true) }) rfl (fun K9 hK => ?_) ?_
      · go_simp
        with_reducible refine (K.chn (hv4.out.up (Below.refl _ _).drew) cs sx).mono ?_
        rintro e y ⟨v5, rfl, hS5, hb⟩
        rw [hRe'.out] at hS5
        obtain ⟨a5, c5, rfl⟩ := hS5.form
        have hby : Below w4.heap.size w4 y := ((Below.refl _ _).drew).trans hb
        have hv5 := Lib.hid (hv4.out.up hby); have hB5 := Lib.hid (hB4.out.trans (hby.mono hB4.out.size)); have hS5' := Lib.hid (hS4.out.up hby); have hiv5 := Lib.hid (hiv4'.out.up hby); have hS5h := Lib.hid hS5
        clear hb hS5 hby
        go_wp2_with fail
        refine hK.out _ _ ?_ ?_
        · (try dsimp only); try trivial
        clear hK K9 hHeld; intro hHeld
        try simp only [Act.put, List.setIfInBounds_toArray, List.set_cons_zero, List.set_cons_succ]
        refine wpAnyH_ready (rs := [8]) (by kernel_rfl) (by simp) ?_
        refine AllReadyH.cons (o := { dst := some 60, op := Op.call { callee := Callee.value (Operand.func 17), args := #[Operand.tmp 57, Operand.tmp 59], argTypes := #[29, 29] }, type := 4, pos := "law.go:120", after := #[{ on := 5, ground := Ground.data }, { on := 7, ground := Ground.data }, { on := 5, ground := Ground.chain }, { on := 2, ground := Ground.guard }], guard := some (2, true) }) rfl (fun K9 hK => ?_) ?_
        · go_simp
          with_reducible refine (same_iv R R R.length R.length _ _ _ hS5h.out.iv hiv5.out (by omega) (by omega)).mono ?_
          rintro e y6 ⟨he6, q, hw6⟩
          rw [decide_eq_true (rfl : R = R)] at he6
          subst he6
          have hb6 : Below y.heap.size y y6 := (by rw [hw6]; exact drewK _ _)
          have hv6 := Lib.hid (hv5.out.up hb6); have hB6 := Lib.hid (hB5.out.trans (hb6.mono hB5.out.size)); have hS6 := Lib.hid (hS5'.out.up hb6)
          clear hb6 hw6
          go_wp2_with fail
          refine hK.out _ _ ?_ ?_
          · (try dsimp only); try trivial
          clear hK K9 hHeld; intro hHeld
          try simp only [Act.put, List.setIfInBounds_toArray, List.set_cons_zero, List.set_cons_succ]
          refine wpAnyH_take (i := 9) (oi := { dst := some 61, op := Op.unOp UnOp.not 4 (Operand.tmp 60), type := 4, pos := "law.go:120", after := #[{ on := 8, ground := Ground.data }, { on := 2, ground := Ground.guard }], guard := some (2, true) }) (v := ?_) rfl (by kernel_rfl) (by kernel_rfl) (by kernel_rfl) (fun _ _ _ h => h) (Or.inl ⟨by rfl, ?_⟩) (by assumption) ?_
          rotate_left 1
          · intro w hSw; (try dsimp only at hSw); go_simp <;> with_reducible rfl
          try simp only [Act.put, List.setIfInBounds_toArray, List.set_cons_zero, List.set_cons_succ]
          refine wpAnyH_take (i := 10) (oi := { dst := some 62, op := Op.pick (Operand.tmp 54) (Operand.tmp 61) (Operand.const (Value.bool false)), type := 4, pos := "law.go:120", after := #[{ on := 2, ground := Ground.data }, { on := 9, ground := Ground.data }], guard := none }) (v := ?_) rfl (by kernel_rfl) (by kernel_rfl) (by kernel_rfl) (fun _ _ _ h => h) (Or.inl ⟨by rfl, ?_⟩) (by assumption) ?_
          rotate_left 1
          · intro w hSw; (try dsimp only at hSw); go_simp <;> with_reducible rfl
          try simp only [Act.put, List.setIfInBounds_toArray, List.set_cons_zero, List.set_cons_succ]
          refine wpAnyH_take (i := 11) (oi := { dst := some 63, op := Op.move (Operand.tmp 62), type := 4, pos := "law.go:120", after := #[{ on := 10, ground := Ground.data }, { on := 8, ground := Ground.chain }], guard := none }) (v := ?_) rfl (by kernel_rfl) (by kernel_rfl) (by kernel_rfl) (fun _ _ _ h => h) (Or.inl ⟨by rfl, ?_⟩) (by assumption) ?_
          rotate_left 1
          · intro w hSw; (try dsimp only at hSw); go_simp <;> with_reducible rfl
          try simp only [Act.put, List.setIfInBounds_toArray, List.set_cons_zero, List.set_cons_succ]
          refine wpAnyH_take (i := 12) (oi := { dst := some 64, op := Op.move (Operand.tmp 8), type := 3, pos := "law.go:120", after := #[{ on := 11, ground := Ground.guard }], guard := some (11, false) }) (v := ?_) rfl (by kernel_rfl) (by kernel_rfl) (by kernel_rfl) (fun _ _ _ h => h) (Or.inl ⟨by rfl, ?_⟩) (by assumption) ?_
          rotate_left 1
          · intro w hSw; (try dsimp only at hSw); go_simp <;> with_reducible rfl
          try simp only [Act.put, List.setIfInBounds_toArray, List.set_cons_zero, List.set_cons_succ]
          refine wpAnyH_take (i := 13) (oi := { dst := some 65, op := Op.binOp BinOp.lss 3 (Operand.tmp 64) (Operand.const (Value.int IntKind.i64 0)) 3, type := 4, pos := "law.go:120", after := #[{ on := 12, ground := Ground.data }, { on := 11, ground := Ground.guard }], guard := some (11, false) }) (v := ?_) rfl (by kernel_rfl) (by kernel_rfl) (by kernel_rfl) (fun _ _ _ h => h) (Or.inl ⟨by rfl, ?_⟩) (by assumption) ?_
          rotate_left 1
          · intro w hSw; (try dsimp only at hSw); go_simp <;> with_reducible rfl
          try simp only [Act.put, List.setIfInBounds_toArray, List.set_cons_zero, List.set_cons_succ]
          refine wpAnyH_take (i := 14) (oi := { dst := some 66, op := Op.move (Operand.tmp 65), type := 4, pos := "law.go:120", after := #[{ on := 13, ground := Ground.data }, { on := 11, ground := Ground.chain }, { on := 11, ground := Ground.guard }], guard := some (11, false) }) (v := ?_) rfl (by kernel_rfl) (by kernel_rfl) (by kernel_rfl) (fun _ _ _ h => h) (Or.inl ⟨by rfl, ?_⟩) (by assumption) ?_
          rotate_left 1
          · intro w hSw; (try dsimp only at hSw); go_simp <;> with_reducible rfl
          try simp only [Act.put, List.setIfInBounds_toArray, List.set_cons_zero, List.set_cons_succ]
          refine wpAnyH_take (i := 15) (oi := { dst := some 67, op := Op.move (Operand.tmp 7), type := 29, pos := "law.go:120", after := #[{ on := 14, ground := Ground.guard }], guard := some (14, true) }) (v := undef) rfl (by kernel_rfl) (by kernel_rfl) (by kernel_rfl) (fun _ _ _ h => h) (Or.inr ⟨by rfl, rfl⟩) (by assumption) ?_
          try simp only [Act.put, List.setIfInBounds_toArray, List.set_cons_zero, List.set_cons_succ]
          refine wpAnyH_take (i := 16) (oi := { dst := some 68, op := Op.call { callee := Callee.builtin Builtin.len, args := #[Operand.tmp 67], argTypes := #[29] }, type := 3, pos := "law.go:120", after := #[{ on := 15, ground := Ground.data }, { on := 14, ground := Ground.guard }], guard := some (14, true) }) (v := undef) rfl (by kernel_rfl) (by kernel_rfl) (by kernel_rfl) (fun _ _ _ h => h) (Or.inr ⟨by rfl, rfl⟩) (by assumption) ?_
          try simp only [Act.put, List.setIfInBounds_toArray, List.set_cons_zero, List.set_cons_succ]
          refine wpAnyH_take (i := 17) (oi := { dst := some 69, op := Op.binOp BinOp.neq 3 (Operand.tmp 68) (Operand.const (Value.int IntKind.i64 1)) 3, type := 4, pos := "law.go:120", after := #[{ on := 16, ground := Ground.data }, { on := 14, ground := Ground.guard }], guard := some (14, true) }) (v := undef) rfl (by kernel_rfl) (by kernel_rfl) (by kernel_rfl) (fun _ _ _ h => h) (Or.inr ⟨by rfl, rfl⟩) (by assumption) ?_
          try simp only [Act.put, List.setIfInBounds_toArray, List.set_cons_zero, List.set_cons_succ]
          refine wpAnyH_take (i := 18) (oi := { dst := some 70, op := Op.pick (Operand.tmp 66) (Operand.tmp 69) (Operand.const (Value.bool false)), type := 4, pos := "law.go:120", after := #[{ on := 14, ground := Ground.data }, { on := 17, ground := Ground.data }, { on := 11, ground := Ground.guard }], guard := some (11, false) }) (v := ?_) rfl (by kernel_rfl) (by kernel_rfl) (by kernel_rfl) (fun _ _ _ h => h) (Or.inl ⟨by rfl, ?_⟩) (by assumption) ?_
          rotate_left 1
          · intro w hSw; (try dsimp only at hSw); go_simp <;> with_reducible rfl
          try simp only [Act.put, List.setIfInBounds_toArray, List.set_cons_zero, List.set_cons_succ]
          refine wpAnyH_take (i := 19) (oi := { dst := some 71, op := Op.pick (Operand.tmp 63) (Operand.const (Value.bool true)) (Operand.tmp 70), type := 4, pos := "law.go:120", after := #[{ on := 11, ground := Ground.data }, { on := 18, ground := Ground.data }], guard := none }) (v := ?_) rfl (by kernel_rfl) (by kernel_rfl) (by kernel_rfl) (fun _ _ _ h => h) (Or.inl ⟨by rfl, ?_⟩) (by assumption) ?_
          rotate_left 1
          · intro w hSw; (try dsimp only at hSw); go_simp <;> with_reducible rfl
          try simp only [Act.put, List.setIfInBounds_toArray, List.set_cons_zero, List.set_cons_succ]
          refine wpAnyH_done (by kernel_rfl) ?_ _
          go_wp2_with fail
          go_meet
          exact ⟨rfl, hv6, hB6, hS6⟩
        exact AllReadyH.nil
      exact AllReadyH.nil
    · have hsd : decide (cs < 0) = true := by simp; omega
      have hsd2 : decide (0 ≤ cs) = false := by simp; omega
      have hsd3 : decide (cs ≥ 0) = false := by simp; omega
      have hR0 : R = [] := by rw [hR'.out]; exact chainR_neg 7 (by omega)
      have hn11 : ((nn : Int) != 1) = false := by have := hn1'.out; rw [hR0] at this; simp at this; simp [this]
      go_big_quiet (fail)
      have hbq : Below w4.heap.size w4 (w4.drewN nq) := drewK _ _
      go_wp2_with fail
      go_meet
      exact ⟨rfl, Lib.hid (hv4.out.up hbq), Lib.hid (hB4.out.trans (hbq.mono hB4.out.size)), Lib.hid (hS4.out.up hbq)⟩
  case rest =>
    clear hv4 hB4 hS4 hiv4 hs4 hat
    obtain ⟨rfl, hv, hB, hS⟩ := hcut
    go_upto_block 0 with fail
    go_wp2_with fail
    go_loopw [74] (fun i74 wr => ∃ k : Nat, k ≤ m ∧ i74 = .int .i64 k ∧ Hid (ClV wr (.slice (some ⟨g0, off0, none⟩) m cc) L) ∧ Hid (Below w.heap.size w wr) ∧ Hid (SL wr 3 (.slice (some ⟨gg, 0, none⟩) nn gc) ((i : Int) :: R))) (fun i74 _ => m - (intOf i74).toNat)
    case atStart => exact ⟨0, by omega, rfl, hv, hB, hS⟩
    case round =>
      clear hv hB hS
      obtain ⟨k, hk, rfl, hv, hB, hS⟩ := hrel
      by_cases hkm : k < m
      · have hkm' : (k : Int) < (m : Int) := by omega
        have k0 : (0 : Int) ≤ (k : Int) := by omega
        have k64 : In64 (k : Int) := in64_of (by omega) (by omega)
        have hst : Hid (InR ((i : Int) :: R) (k : Int) 0 false) := Lib.hid ⟨by simp⟩
        go_upto_block 2 with fail
        go_wp2_with fail
        go_loopw [10, 79] (fun i10 i79 wr' => ∃ (j : Nat) (b : Bool), j ≤ nn ∧ i79 = .int .i64 j ∧ i10 = .bool b ∧ Hid (InR ((i : Int) :: R) (k : Int) j b) ∧ wr' = wr) (fun _ i79 _ => nn - (intOf i79).toNat)
        case atStart => exact ⟨0, false, by omega, rfl, rfl, hst, rfl⟩
        case round =>
          clear hst
          obtain ⟨j, b, hj, rfl, rfl, hR, rfl⟩ := hrel
          by_cases hlt : j < nn
          · have hlt' : decide ((j : Int) < (nn : Int)) = true := by simp; omega
            have p0 : (0 : Int) ≤ (j : Int) := by omega
            have p1 : (j : Int) < (nn : Int) := by omega
            obtain ⟨y, hy⟩ : ∃ y, ((i : Int) :: R)[j]? = some y := ⟨((i : Int) :: R)[j]'(by have := hnn'.out; omega), by simp⟩
            obtain ⟨g', eg, hcy⟩ := hS.out.at hy
            cases eg
            have hnx := Lib.hid (mem_take (k := (k : Int)) hy)
            clear hy
            cases b with
            | true =>
              have hR2 : Hid (InR ((i : Int) :: R) (k : Int) (j + 1) true) := Lib.hid ⟨by rw [hnx.out, ← hR.out.eq]; rfl⟩
              go_wp2
              go_roundw
              case rel => exact ⟨j + 1, true, by omega, by go_num, rfl, hR2, trivial⟩
              case measure => simp [intOf]; omega
            | false =>
              by_cases he : y = (k : Int)
              · have hR2 : Hid (InR ((i : Int) :: R) (k : Int) (j + 1) true) := Lib.hid ⟨by rw [hnx.out, ← hR.out.eq]; simp [he]⟩
                have he' : (y == (k : Int)) = true := by simpa using he
                clear he
                go_wp2
                go_roundw
                case rel => exact ⟨j + 1, true, by omega, by go_num, rfl, hR2, trivial⟩
                case measure => simp [intOf]; omega
              · have hR2 : Hid (InR ((i : Int) :: R) (k : Int) (j + 1) false) := Lib.hid ⟨by rw [hnx.out, ← hR.out.eq]; simp [he]⟩
                have he' : (y == (k : Int)) = false := by simpa using he
                go_wp2
                go_roundw
                case rel => exact ⟨j + 1, false, by omega, by go_num, rfl, hR2, trivial⟩
                case measure => simp [intOf]; omega
          · have hbe : Hid (b = decide ((k : Int) ∈ chain L (i : Int))) := Lib.hid (by have := hR.out.eq; rw [show j = ((i : Int) :: R).length by have := hnn'.out; omega, List.take_length, ← hC'.out] at this; exact this)
            clear hR
            obtain ⟨⟨kn, ks, kf, kb⟩, hkc⟩ : ∃ c, L[k]? = some c := ⟨L[k]'(by have := hm'.out; omega), by simp⟩
            obtain ⟨_, _, g1, off1, bv1, eg1, _, _, hkf, _, _⟩ := hv.out.at hkc
            cases eg1
            obtain ⟨_, _, g2, off2, bv2, eg2, _, _, hif, _, _⟩ := hv.out.at hc'.out
            cases eg2
            simp only at hkf hif
            have hfle : b = true → kf ≤ cf := fun hb => by
              have h1 : (k : Int) ∈ chain L (i : Int) := by have := hbe.out; rw [hb] at this; exact of_decide_eq_true this.symm
              have h2 := chain_fields hTL.out 8 (i : Int) (k : Int) h1
              unfold superF at h2
              rw [Int.toNat_natCast, Int.toNat_natCast, hkc, hc'.out] at h2
              exact h2
            have hbe2 := hbe
            clear hkc hbe
            go_upto_region 20 with fail
            go_cut [111] (fun v wx => v = .bool false ∧ Hid (Below wr.heap.size wr wx))
            case first =>
              cases b with
              | true =>
                have hfk : ¬ cf < kf := by have := hfle rfl; omega
                have hfd : decide (cf < kf) = false := by simpa using hfk
                have hfd2 : decide (kf > cf) = false := by simpa using hfk
                clear hfle
                go_region_held3 (fun wr => wr.cell? ⟨g0, off0 + k * 4 + 2, none⟩ = some (.int .i64 kf) ∧ wr.cell? ⟨g0, off0 + i * 4 + 2, none⟩ = some (.int .i64 cf)) (first | assumption | exact ⟨hkf, hif⟩ | exact ⟨cell_up hby hkf, cell_up hby hif⟩) (first | (go_at_call 18; ((with_reducible refine ((K.is (hv.out.up (by first | exact Below.refl _ _ | exact (Below.refl _ _).drew)) (i : Int) (k : Int) i64 k64)).mono ?_); rintro e y ⟨he, hb⟩; have hby : Below wr.heap.size wr y := (by first | exact hb | exact ((Below.refl _ _).drew).trans hb); rw [← hbe2.out] at he; subst he)))
                all_goals (go_wp2_with fail; go_meet; exact ⟨rfl, Lib.hid hby⟩)
              | false =>
                clear hfle
                refine wp_region_held_drew (S := (fun wr' => wr'.cell? ⟨g0, off0 + k * 4 + 2, none⟩ = some (.int .i64 kf) ∧ wr'.cell? ⟨g0, off0 + i * 4 + 2, none⟩ = some (.int .i64 cf))) (by kernel_rfl) ?_ (fun hHeld => ?_)
                · (try dsimp only); exact ⟨hkf, hif⟩
                try simp only [Act.put, List.setIfInBounds_toArray, List.set_cons_zero, List.set_cons_succ]
                refine wpAnyH_take (i := 0) (oi := { dst := some 90, op := Op.move (Operand.tmp 5), type := 23, pos := "law.go:128", after := #[], guard := none }) (v := ?_) rfl (by kernel_rfl) (by kernel_rfl) (by kernel_rfl) (fun _ _ _ h => h) (Or.inl ⟨by rfl, ?_⟩) (by assumption) ?_
                rotate_left 1
                · intro w hSw; (try dsimp only at hSw); go_simp <;> with_reducible rfl
                try simp only [Act.put, List.setIfInBounds_toArray, List.set_cons_zero, List.set_cons_succ]
                refine wpAnyH_take (i := 1) (oi := { dst := some 91, op := Op.move (Operand.tmp 6), type := 3, pos := "law.go:128", after := #[], guard := none }) (v := ?_) rfl (by kernel_rfl) (by kernel_rfl) (by kernel_rfl) (fun _ _ _ h => h) (Or.inl ⟨by rfl, ?_⟩) (by assumption) ?_
                rotate_left 1
                · intro w hSw; (try dsimp only at hSw); go_simp <;> with_reducible rfl
                try simp only [Act.put, List.setIfInBounds_toArray, List.set_cons_zero, List.set_cons_succ]
                refine wpAnyH_take (i := 2) (oi := { dst := some 92, op := Op.move (Operand.tmp 9), type := 3, pos := "law.go:128", after := #[], guard := none }) (v := ?_) rfl (by kernel_rfl) (by kernel_rfl) (by kernel_rfl) (fun _ _ _ h => h) (Or.inl ⟨by rfl, ?_⟩) (by assumption) ?_
                rotate_left 1
                · intro w hSw; (try dsimp only at hSw); go_simp <;> with_reducible rfl
                try simp only [Act.put, List.setIfInBounds_toArray, List.set_cons_zero, List.set_cons_succ]
                refine wpAnyH_take (i := 4) (oi := { dst := some 94, op := Op.move (Operand.tmp 10), type := 4, pos := "law.go:128", after := #[], guard := none }) (v := ?_) rfl (by kernel_rfl) (by kernel_rfl) (by kernel_rfl) (fun _ _ _ h => h) (Or.inl ⟨by rfl, ?_⟩) (by assumption) ?_
                rotate_left 1
                · intro w hSw; (try dsimp only at hSw); go_simp <;> with_reducible rfl
                try simp only [Act.put, List.setIfInBounds_toArray, List.set_cons_zero, List.set_cons_succ]
                refine wpAnyH_ready (rs := [3]) (by kernel_rfl) (by simp) ?_
                refine AllReadyH.cons (o := { dst := some 93, op := Op.call { callee := Callee.value (Operand.func 18), args := #[Operand.tmp 90, Operand.tmp 91, Operand.tmp 92], argTypes := #[23, 3, 3] }, type := 4, pos := "law.go:128", after := #[{ on := 0, ground := Ground.data }, { on := 1, ground := Ground.data }, { on := 2, ground := Ground.data }], guard := none }) rfl (fun K9 hK => ?_) ?_
                · go_simp
                  with_reducible refine (K.is (hv.out.up (Below.refl _ _).drew) (i : Int) (k : Int) i64 k64).mono ?_
                  rintro e y ⟨he, hb⟩
                  have hby : Below wr.heap.size wr y := ((Below.refl _ _).drew).trans hb
                  rw [← hbe2.out] at he
                  subst he
                  go_wp2_with fail
                  refine hK.out _ _ ?_ ?_
                  · (try dsimp only); exact ⟨cell_up hby hkf, cell_up hby hif⟩
                  clear hK K9 hHeld; intro hHeld
                  try simp only [Act.put, List.setIfInBounds_toArray, List.set_cons_zero, List.set_cons_succ]
                  refine wpAnyH_take (i := 5) (oi := { dst := some 95, op := Op.binOp BinOp.neq 4 (Operand.tmp 93) (Operand.tmp 94) 4, type := 4, pos := "law.go:128", after := #[{ on := 3, ground := Ground.data }, { on := 4, ground := Ground.data }], guard := none }) (v := ?_) rfl (by kernel_rfl) (by kernel_rfl) (by kernel_rfl) (fun _ _ _ h => h) (Or.inl ⟨by rfl, ?_⟩) (by assumption) ?_
                  rotate_left 1
                  · intro w hSw; (try dsimp only at hSw); go_simp <;> with_reducible rfl
                  try simp only [Act.put, List.setIfInBounds_toArray, List.set_cons_zero, List.set_cons_succ]
                  refine wpAnyH_take (i := 6) (oi := { dst := some 96, op := Op.move (Operand.tmp 95), type := 4, pos := "law.go:128", after := #[{ on := 5, ground := Ground.data }, { on := 3, ground := Ground.chain }], guard := none }) (v := ?_) rfl (by kernel_rfl) (by kernel_rfl) (by kernel_rfl) (fun _ _ _ h => h) (Or.inl ⟨by rfl, ?_⟩) (by assumption) ?_
                  rotate_left 1
                  · intro w hSw; (try dsimp only at hSw); go_simp <;> with_reducible rfl
                  try simp only [Act.put, List.setIfInBounds_toArray, List.set_cons_zero, List.set_cons_succ]
                  refine wpAnyH_take (i := 7) (oi := { dst := some 97, op := Op.move (Operand.tmp 10), type := 4, pos := "law.go:128", after := #[{ on := 6, ground := Ground.guard }], guard := some (6, false) }) (v := ?_) rfl (by kernel_rfl) (by kernel_rfl) (by kernel_rfl) (fun _ _ _ h => h) (Or.inl ⟨by rfl, ?_⟩) (by assumption) ?_
                  rotate_left 1
                  · intro w hSw; (try dsimp only at hSw); go_simp <;> with_reducible rfl
                  try simp only [Act.put, List.setIfInBounds_toArray, List.set_cons_zero, List.set_cons_succ]
                  refine wpAnyH_take (i := 8) (oi := { dst := some 98, op := Op.move (Operand.tmp 97), type := 4, pos := "law.go:128", after := #[{ on := 7, ground := Ground.data }, { on := 6, ground := Ground.chain }, { on := 6, ground := Ground.guard }], guard := some (6, false) }) (v := ?_) rfl (by kernel_rfl) (by kernel_rfl) (by kernel_rfl) (fun _ _ _ h => h) (Or.inl ⟨by rfl, ?_⟩) (by assumption) ?_
                  rotate_left 1
                  · intro w hSw; (try dsimp only at hSw); go_simp <;> with_reducible rfl
                  try simp only [Act.put, List.setIfInBounds_toArray, List.set_cons_zero, List.set_cons_succ]
                  refine wpAnyH_take (i := 9) (oi := { dst := some 99, op := Op.move (Operand.tmp 5), type := 23, pos := "law.go:128", after := #[{ on := 8, ground := Ground.guard }], guard := some (8, true) }) (v := undef) rfl (by kernel_rfl) (by kernel_rfl) (by kernel_rfl) (fun _ _ _ h => h) (Or.inr ⟨by rfl, rfl⟩) (by assumption) ?_
                  try simp only [Act.put, List.setIfInBounds_toArray, List.set_cons_zero, List.set_cons_succ]
                  refine wpAnyH_take (i := 10) (oi := { dst := some 100, op := Op.move (Operand.tmp 9), type := 3, pos := "law.go:128", after := #[{ on := 8, ground := Ground.guard }], guard := some (8, true) }) (v := undef) rfl (by kernel_rfl) (by kernel_rfl) (by kernel_rfl) (fun _ _ _ h => h) (Or.inr ⟨by rfl, rfl⟩) (by assumption) ?_
                  try simp only [Act.put, List.setIfInBounds_toArray, List.set_cons_zero, List.set_cons_succ]
                  refine wpAnyH_take (i := 11) (oi := { dst := some 101, op := Op.indexAddr 23 (Operand.tmp 99) (Operand.tmp 100), type := 0, pos := "law.go:128", after := #[{ on := 9, ground := Ground.data }, { on := 10, ground := Ground.data }, { on := 8, ground := Ground.guard }], guard := some (8, true) }) (v := undef) rfl (by kernel_rfl) (by kernel_rfl) (by kernel_rfl) (fun _ _ _ h => h) (Or.inr ⟨by rfl, rfl⟩) (by assumption) ?_
                  try simp only [Act.put, List.setIfInBounds_toArray, List.set_cons_zero, List.set_cons_succ]
                  refine wpAnyH_take (i := 12) (oi := { dst := some 102, op := Op.fieldAddr 38 (Operand.tmp 101) 2, type := 0, pos := "law.go:128", after := #[{ on := 11, ground := Ground.data }, { on := 8, ground := Ground.guard }], guard := some (8, true) }) (v := undef) rfl (by kernel_rfl) (by kernel_rfl) (by kernel_rfl) (fun _ _ _ h => h) (Or.inr ⟨by rfl, rfl⟩) (by assumption) ?_
                  try simp only [Act.put, List.setIfInBounds_toArray, List.set_cons_zero, List.set_cons_succ]
                  refine wpAnyH_take (i := 13) (oi := { dst := some 103, op := Op.load 3 (Operand.tmp 102), type := 3, pos := "law.go:128", after := #[{ on := 12, ground := Ground.data }, { on := 8, ground := Ground.guard }], guard := some (8, true) }) (v := undef) rfl (by kernel_rfl) (by kernel_rfl) (by kernel_rfl) (fun _ _ _ h => h) (Or.inr ⟨by rfl, rfl⟩) (by assumption) ?_
                  try simp only [Act.put, List.setIfInBounds_toArray, List.set_cons_zero, List.set_cons_succ]
                  refine wpAnyH_take (i := 14) (oi := { dst := some 104, op := Op.move (Operand.tmp 5), type := 23, pos := "law.go:128", after := #[{ on := 8, ground := Ground.guard }], guard := some (8, true) }) (v := undef) rfl (by kernel_rfl) (by kernel_rfl) (by kernel_rfl) (fun _ _ _ h => h) (Or.inr ⟨by rfl, rfl⟩) (by assumption) ?_
                  try simp only [Act.put, List.setIfInBounds_toArray, List.set_cons_zero, List.set_cons_succ]
                  refine wpAnyH_take (i := 15) (oi := { dst := some 105, op := Op.move (Operand.tmp 6), type := 3, pos := "law.go:128", after := #[{ on := 8, ground := Ground.guard }], guard := some (8, true) }) (v := undef) rfl (by kernel_rfl) (by kernel_rfl) (by kernel_rfl) (fun _ _ _ h => h) (Or.inr ⟨by rfl, rfl⟩) (by assumption) ?_
                  try simp only [Act.put, List.setIfInBounds_toArray, List.set_cons_zero, List.set_cons_succ]
                  refine wpAnyH_take (i := 16) (oi := { dst := some 106, op := Op.indexAddr 23 (Operand.tmp 104) (Operand.tmp 105), type := 0, pos := "law.go:128", after := #[{ on := 14, ground := Ground.data }, { on := 15, ground := Ground.data }, { on := 8, ground := Ground.guard }], guard := some (8, true) }) (v := undef) rfl (by kernel_rfl) (by kernel_rfl) (by kernel_rfl) (fun _ _ _ h => h) (Or.inr ⟨by rfl, rfl⟩) (by assumption) ?_
                  try simp only [Act.put, List.setIfInBounds_toArray, List.set_cons_zero, List.set_cons_succ]
                  refine wpAnyH_take (i := 17) (oi := { dst := some 107, op := Op.fieldAddr 38 (Operand.tmp 106) 2, type := 0, pos := "law.go:128", after := #[{ on := 16, ground := Ground.data }, { on := 8, ground := Ground.guard }], guard := some (8, true) }) (v := undef) rfl (by kernel_rfl) (by kernel_rfl) (by kernel_rfl) (fun _ _ _ h => h) (Or.inr ⟨by rfl, rfl⟩) (by assumption) ?_
                  try simp only [Act.put, List.setIfInBounds_toArray, List.set_cons_zero, List.set_cons_succ]
                  refine wpAnyH_take (i := 18) (oi := { dst := some 108, op := Op.load 3 (Operand.tmp 107), type := 3, pos := "law.go:128", after := #[{ on := 17, ground := Ground.data }, { on := 8, ground := Ground.guard }], guard := some (8, true) }) (v := undef) rfl (by kernel_rfl) (by kernel_rfl) (by kernel_rfl) (fun _ _ _ h => h) (Or.inr ⟨by rfl, rfl⟩) (by assumption) ?_
                  try simp only [Act.put, List.setIfInBounds_toArray, List.set_cons_zero, List.set_cons_succ]
                  refine wpAnyH_take (i := 19) (oi := { dst := some 109, op := Op.binOp BinOp.gtr 3 (Operand.tmp 103) (Operand.tmp 108) 3, type := 4, pos := "law.go:128", after := #[{ on := 13, ground := Ground.data }, { on := 18, ground := Ground.data }, { on := 8, ground := Ground.guard }], guard := some (8, true) }) (v := undef) rfl (by kernel_rfl) (by kernel_rfl) (by kernel_rfl) (fun _ _ _ h => h) (Or.inr ⟨by rfl, rfl⟩) (by assumption) ?_
                  try simp only [Act.put, List.setIfInBounds_toArray, List.set_cons_zero, List.set_cons_succ]
                  refine wpAnyH_take (i := 20) (oi := { dst := some 110, op := Op.pick (Operand.tmp 98) (Operand.tmp 109) (Operand.const (Value.bool false)), type := 4, pos := "law.go:128", after := #[{ on := 8, ground := Ground.data }, { on := 19, ground := Ground.data }, { on := 6, ground := Ground.guard }], guard := some (6, false) }) (v := ?_) rfl (by kernel_rfl) (by kernel_rfl) (by kernel_rfl) (fun _ _ _ h => h) (Or.inl ⟨by rfl, ?_⟩) (by assumption) ?_
                  rotate_left 1
                  · intro w hSw; (try dsimp only at hSw); go_simp <;> with_reducible rfl
                  try simp only [Act.put, List.setIfInBounds_toArray, List.set_cons_zero, List.set_cons_succ]
                  refine wpAnyH_take (i := 21) (oi := { dst := some 111, op := Op.pick (Operand.tmp 96) (Operand.const (Value.bool true)) (Operand.tmp 110), type := 4, pos := "law.go:128", after := #[{ on := 6, ground := Ground.data }, { on := 20, ground := Ground.data }], guard := none }) (v := ?_) rfl (by kernel_rfl) (by kernel_rfl) (by kernel_rfl) (fun _ _ _ h => h) (Or.inl ⟨by rfl, ?_⟩) (by assumption) ?_
                  rotate_left 1
                  · intro w hSw; (try dsimp only at hSw); go_simp <;> with_reducible rfl
                  try simp only [Act.put, List.setIfInBounds_toArray, List.set_cons_zero, List.set_cons_succ]
                  refine wpAnyH_done (by kernel_rfl) ?_ _
                  go_wp2_with fail
                  go_meet
                  exact ⟨rfl, Lib.hid hby⟩
                exact AllReadyH.nil
            case rest =>
              obtain ⟨rfl, hby⟩ := hcut
              have hv7 := Lib.hid (hv.out.up hby.out)
              have hB7 := Lib.hid (hB.out.trans (hby.out.mono hB.out.size))
              have hS7 := Lib.hid (hS.out.up hby.out)
              clear hv hB hS hkf hif hfle
              go_wp2_with fail
              go_roundw
              case rel => exact ⟨k + 1, by omega, by go_num, hv7, hB7, hS7⟩
              case measure => simp [intOf]; omega
      · go_wp2_with fail
        refine (known_c K _).mono ?_
        rintro e w6 ⟨rfl, hb⟩
        have hB6 := Lib.hid (hB.out.trans (hb.mono hB.out.size))
        go_wp2
        go_ret
        exact ⟨rfl, hB6.out⟩
end Wd
end Go.Proofs.Ytlbekicalinglaa
