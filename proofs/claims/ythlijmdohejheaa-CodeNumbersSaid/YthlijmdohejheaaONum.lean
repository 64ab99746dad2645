/- CodeNumbers, over what the laws ask of the package. -/
import Derived.Test.YthlijmdohejheaaONumA
namespace Go.Proofs.Ythlijmdohejheaa
open Go.RowKit
set_option linter.unusedVariables false
set_option maxRecDepth 20000
namespace Wd
set_option maxHeartbeats 64000000 in
theorem numbers_any (K : CodeK) (w : World) : Calls Try.prog 3 #[] w fun e w' => e = .returned (.bool true) ∧ Below w.heap.size w w' := by
  have hst : Hid (Below w.heap.size w w) := Lib.hid (Below.refl _ _)
  have h2 : In64 2 := in64_of (by omega) (by omega)
  have h3 : In64 3 := in64_of (by omega) (by omega)
  obtain ⟨dM, hdM, hrM⟩ := rowM
  obtain ⟨dU, hdU, hrU⟩ := rowU
  replace hdM := Lib.hid hdM
  replace hrM := Lib.hid hrM
  replace hdU := Lib.hid hdU
  replace hrU := Lib.hid hrU
  go_enter Try.func3, Try.ntmps3
  go_wp2
  go_loopw [1] (fun i1 wr => ∃ k : Nat, k ≤ 30 ∧ i1 = .int .i64 k ∧ Hid (Below w.heap.size w wr)) (fun i1 _ => 30 - (intOf i1).toNat)
  case atStart => exact ⟨0, by omega, rfl, hst⟩
  case round =>
    clear hst
    obtain ⟨k, hk, rfl, hB⟩ := hrel
    by_cases hlt : k < 30
    · have d1 : decide ((k : Int) < 30) = true := by simp; omega
      have hk64 : In64 (k : Int) := in64_of (by omega) (by omega)
      go_wp2_with fail
      with_reducible refine (tape_c k (by omega)).mono ?_
      rintro e wt ⟨ta, tc, rfl, hNA, hb⟩
      have hBt := Lib.hid (hB.out.trans (hb.mono hB.out.size))
      have PU := Lib.hid (unit_t (tape_tp (cap := tc) hNA (by omega)))
      clear hb hNA
      go_wp2_with fail
      with_reducible refine PU.out.mono ?_
      rintro e wu ⟨vU, U, ug, ucap, M, rfl, hU, hcg⟩
      have hBu := unit_bel hcg
      clear PU hcg
      obtain ⟨na, nc, ka, kc, oa, oc, rfl⟩ := hU.ex
      have hBa := (Below.refl wu.heap.size wu).alloc (Nat.le_refl _) (.cells #[.slice na U.names.length nc, .slice ka U.classes.length kc, .slice (some ⟨ug, 0, none⟩) U.methods.length ucap, .slice oa U.objects.length oc, .int .i64 U.main] 27)
      have hUB : Hid (UnC (wu.alloc (.cells #[.slice na U.names.length nc, .slice ka U.classes.length kc, .slice (some ⟨ug, 0, none⟩) U.methods.length ucap, .slice oa U.objects.length oc, .int .i64 U.main] 27)) wu.heap.size U na ka (some ⟨ug, 0, none⟩) oa nc kc ucap oc) := Lib.hid ⟨by simp, by simp, by simp, by simp, by simp⟩
      have hU1 := Lib.hid (hU.up hBa)
      have hW1 := Lib.hid (hBt.out.trans ((hBu.trans (hBa.mono hBu.size)).mono hBt.out.size))
      clear hU hBu hBa hBt
      go_upto_region 5 with fail
      generalize wu.alloc (.cells #[.slice na U.names.length nc, .slice ka U.classes.length kc, .slice (some ⟨ug, 0, none⟩) U.methods.length ucap, .slice oa U.objects.length oc, .int .i64 U.main] 27) = W1 at *
      generalize wu.heap.size = q2 at *
      have hml := hU1.out.ml
      obtain ⟨kj, hkj, hkj9⟩ : ∃ j : Nat, Int.tmod (k : Int) 9 = (j : Int) ∧ j < 9 := ⟨k % 9, by
        show Int.tmod _ ((9 : Nat) : Int) = _
        rw [← Int.ofNat_tmod], Nat.mod_lt _ (by omega)⟩
      have kj0 : (0 : Int) ≤ (kj : Int) := by omega
      have kj1 : (kj : Int) < 9 := by omega
      obtain ⟨⟨mM, lv, cv⟩, hMk⟩ : ∃ x, M[kj]? = some x := ⟨M[kj]'(by omega), by simp⟩
      obtain ⟨m0, m1, m2, m3, _, _, hl, hc⟩ := hU1.out.m hMk
      obtain ⟨la, lc, e1, _⟩ := hl.form
      obtain ⟨ca, cc, e2, _⟩ := hc.form
      simp only at m0 m1 m2 m3 e1 e2
      subst e1
      subst e2
      have hme := hU1.out.me hMk
      clear hl hc
      have u2' := hUB.out.c2
      rw [hml.2] at u2'
      have hC2 := Lib.hid (R2S.mk u2' m0 m1 m2 m3)
      go_cut [3] (fun v3 wx => ∃ q3 : Nat, v3 = .pointer (some ⟨q3, 0, none⟩) ∧ Hid (N2 w wx (.agg #[.int .i64 mM.args, .int .i64 mM.temps, .slice la mM.lits.length lc, .slice ca mM.code.length cc]) (.agg #[.slice na U.names.length nc, .slice ka U.classes.length kc, .slice (some ⟨ug, 0, none⟩) U.methods.length ucap, .slice oa U.objects.length oc, .int .i64 U.main]) mM U q2 q3 la ca na ka oa lc cc nc kc oc ug ucap))
      case first =>
        have hC := Lib.hid (hC2.out.up ((Below.refl _ _).drew))
        have hBa := (Below.refl W1.heap.size W1).alloc (Nat.le_refl _) (.cells #[.int .i64 mM.args, .int .i64 mM.temps, .slice la mM.lits.length lc, .slice ca mM.code.length cc] 37)
        have hBm := hBa.trans (((Below.refl _ (W1.alloc (.cells #[.int .i64 mM.args, .int .i64 mM.temps, .slice la mM.lits.length lc, .slice ca mM.code.length cc] 37))).drew).mono hBa.size)
        have hT : Hid (N2 w (W1.alloc (.cells #[.int .i64 mM.args, .int .i64 mM.temps, .slice la mM.lits.length lc, .slice ca mM.code.length cc] 37)).drew (.agg #[.int .i64 mM.args, .int .i64 mM.temps, .slice la mM.lits.length lc, .slice ca mM.code.length cc]) (.agg #[.slice na U.names.length nc, .slice ka U.classes.length kc, .slice (some ⟨ug, 0, none⟩) U.methods.length ucap, .slice oa U.objects.length oc, .int .i64 U.main]) mM U q2 W1.heap.size la ca na ka oa lc cc nc kc oc ug ucap) := Lib.hid ⟨⟨rfl, by simp, by simp, by simp, by simp, hme.up hBm⟩, hUB.out.up hBm, hU1.out.k.up hBm, hW1.out.trans (hBm.mono hW1.out.size)⟩
        clear hBa hBm
        refine wp_region_held_drew (S := (fun wr' => wr'.cell? ⟨q2, 2, none⟩ = some (.slice (some ⟨ug, 0, none⟩) 9 ucap) ∧ wr'.cell? ⟨ug, kj * 4, none⟩ = some (.int .i64 mM.args) ∧ wr'.cell? ⟨ug, kj * 4 + 1, none⟩ = some (.int .i64 mM.temps) ∧ wr'.cell? ⟨ug, kj * 4 + 2, none⟩ = some (.slice la mM.lits.length lc) ∧ wr'.cell? ⟨ug, kj * 4 + 3, none⟩ = some (.slice ca mM.code.length cc))) (by kernel_rfl) ?_ (fun hHeld => ?_)
        · (try dsimp only); exact hC.out.cs
        try simp only [Act.put, List.setIfInBounds_toArray, List.set_cons_zero, List.set_cons_succ]
        refine wpAnyH_take (i := 0) (oi := { dst := some 20, op := Op.fieldAddr 27 (Operand.tmp 2) 2, type := 0, pos := "law.go:70", after := #[], guard := none }) (v := ?_) rfl (by kernel_rfl) (by kernel_rfl) (by kernel_rfl) (fun _ _ _ h => h) (Or.inl ⟨by rfl, ?_⟩) (by assumption) ?_
        rotate_left 1
        · intro w hSw; (try dsimp only at hSw); go_simp <;> with_reducible rfl
        try simp only [Act.put, List.setIfInBounds_toArray, List.set_cons_zero, List.set_cons_succ]
        refine wpAnyH_take (i := 1) (oi := { dst := some 21, op := Op.load 24 (Operand.tmp 20), type := 24, pos := "law.go:70", after := #[{ on := 0, ground := Ground.data }], guard := none }) (v := ?_) rfl (by kernel_rfl) (by kernel_rfl) (by kernel_rfl) (fun _ _ _ h => h) (Or.inl ⟨by rfl, ?_⟩) (by assumption) ?_
        rotate_left 1
        · intro w hSw; (try dsimp only at hSw); go_simp <;> with_reducible rfl
        try simp only [Act.put, List.setIfInBounds_toArray, List.set_cons_zero, List.set_cons_succ]
        refine wpAnyH_take (i := 2) (oi := { dst := some 22, op := Op.move (Operand.tmp 1), type := 3, pos := "law.go:70", after := #[], guard := none }) (v := ?_) rfl (by kernel_rfl) (by kernel_rfl) (by kernel_rfl) (fun _ _ _ h => h) (Or.inl ⟨by rfl, ?_⟩) (by assumption) ?_
        rotate_left 1
        · intro w hSw; (try dsimp only at hSw); go_simp <;> with_reducible rfl
        try simp only [Act.put, List.setIfInBounds_toArray, List.set_cons_zero, List.set_cons_succ]
        refine wpAnyH_take (i := 3) (oi := { dst := some 23, op := Op.fieldAddr 27 (Operand.tmp 2) 2, type := 0, pos := "law.go:70", after := #[], guard := none }) (v := ?_) rfl (by kernel_rfl) (by kernel_rfl) (by kernel_rfl) (fun _ _ _ h => h) (Or.inl ⟨by rfl, ?_⟩) (by assumption) ?_
        rotate_left 1
        · intro w hSw; (try dsimp only at hSw); go_simp <;> with_reducible rfl
        try simp only [Act.put, List.setIfInBounds_toArray, List.set_cons_zero, List.set_cons_succ]
        refine wpAnyH_take (i := 4) (oi := { dst := some 24, op := Op.load 24 (Operand.tmp 23), type := 24, pos := "law.go:70", after := #[{ on := 3, ground := Ground.data }], guard := none }) (v := ?_) rfl (by kernel_rfl) (by kernel_rfl) (by kernel_rfl) (fun _ _ _ h => h) (Or.inl ⟨by rfl, ?_⟩) (by assumption) ?_
        rotate_left 1
        · intro w hSw; (try dsimp only at hSw); go_simp <;> with_reducible rfl
        try simp only [Act.put, List.setIfInBounds_toArray, List.set_cons_zero, List.set_cons_succ]
        refine wpAnyH_take (i := 5) (oi := { dst := some 25, op := Op.call { callee := Callee.builtin Builtin.len, args := #[Operand.tmp 24], argTypes := #[24] }, type := 3, pos := "law.go:70", after := #[{ on := 4, ground := Ground.data }], guard := none }) (v := ?_) rfl (by kernel_rfl) (by kernel_rfl) (by kernel_rfl) (fun _ _ _ h => h) (Or.inl ⟨by rfl, ?_⟩) (by assumption) ?_
        rotate_left 1
        · intro w hSw; (try dsimp only at hSw); go_simp <;> with_reducible rfl
        try simp only [Act.put, List.setIfInBounds_toArray, List.set_cons_zero, List.set_cons_succ]
        refine wpAnyH_take (i := 6) (oi := { dst := some 26, op := Op.binOp BinOp.rem 3 (Operand.tmp 22) (Operand.tmp 25) 3, type := 3, pos := "law.go:70", after := #[{ on := 2, ground := Ground.data }, { on := 5, ground := Ground.data }], guard := none }) (v := ?_) rfl (by kernel_rfl) (by kernel_rfl) (by kernel_rfl) (fun _ _ _ h => h) (Or.inl ⟨by rfl, ?_⟩) (by assumption) ?_
        rotate_left 1
        · intro w hSw; (try dsimp only at hSw); go_simp <;> with_reducible rfl
        try simp only [Act.put, List.setIfInBounds_toArray, List.set_cons_zero, List.set_cons_succ]
        refine wpAnyH_take (i := 7) (oi := { dst := some 27, op := Op.indexAddr 24 (Operand.tmp 21) (Operand.tmp 26), type := 0, pos := "law.go:70", after := #[{ on := 1, ground := Ground.data }, { on := 6, ground := Ground.data }], guard := none }) (v := ?_) rfl (by kernel_rfl) (by kernel_rfl) (by kernel_rfl) (fun _ _ _ h => h) (Or.inl ⟨by rfl, ?_⟩) (by assumption) ?_
        rotate_left 1
        · intro w hSw; (try dsimp only at hSw); go_simp <;> with_reducible rfl
        try simp only [Act.put, List.setIfInBounds_toArray, List.set_cons_zero, List.set_cons_succ]
        refine wpAnyH_take (i := 8) (oi := { dst := some 28, op := Op.load 37 (Operand.tmp 27), type := 37, pos := "law.go:70", after := #[{ on := 7, ground := Ground.data }], guard := none }) (v := ?_) rfl (by kernel_rfl) (by kernel_rfl) (by kernel_rfl) (fun _ _ _ h => h) (Or.inl ⟨by rfl, ?_⟩) (by assumption) ?_
        rotate_left 1
        · intro w hSw; (try dsimp only at hSw); go_simp <;> with_reducible rfl
        try simp only [Act.put, List.setIfInBounds_toArray, List.set_cons_zero, List.set_cons_succ]
        refine wpAnyH_ready (rs := [9]) (by kernel_rfl) (by simp) ?_
        refine AllReadyH.cons (o := { dst := some 3, op := Op.alloc 37, type := 0, pos := "law.go:70", after := #[], guard := none }) rfl (fun K9 hK => ?_) ?_
        · go_simp
          replace hC := Lib.hid (hC.out.up ((Below.refl _ _).alloc (Nat.le_refl _) (.cells #[.int .i64 0, .int .i64 0, .slice none 0 0, .slice none 0 0] 37)))
          refine hK.out _ _ ?_ ?_
          · (try dsimp only); exact hC.out.cs
          clear hK K9 hHeld; intro hHeld
          try simp only [Act.put, List.setIfInBounds_toArray, List.set_cons_zero, List.set_cons_succ]
          refine wpAnyH_ready (rs := [10]) (by kernel_rfl) (by simp) ?_
          refine AllReadyH.cons (o := { dst := none, op := Op.store 37 (Operand.tmp 3) (Operand.tmp 28), type := 0, pos := "law.go:70", after := #[{ on := 9, ground := Ground.data }, { on := 8, ground := Ground.data }, { on := 0, ground := Ground.phase }, { on := 1, ground := Ground.phase }, { on := 2, ground := Ground.phase }, { on := 3, ground := Ground.phase }, { on := 4, ground := Ground.phase }, { on := 5, ground := Ground.phase }, { on := 6, ground := Ground.phase }, { on := 7, ground := Ground.phase }, { on := 8, ground := Ground.phase }, { on := 9, ground := Ground.phase }], guard := none }) rfl (fun K9 hK => ?_) ?_
          · go_simp
            replace hC := Lib.hid ((hC2.out.up ((Below.refl W1.heap.size W1).alloc (Nat.le_refl _) (.cells #[.int .i64 mM.args, .int .i64 mM.temps, .slice la mM.lits.length lc, .slice ca mM.code.length cc] 37))).up ((Below.refl _ _).drew))
            refine hK.out _ _ ?_ ?_
            · (try dsimp only); exact hC.out.cs
            clear hK K9 hHeld; intro hHeld
            try simp only [Act.put, List.setIfInBounds_toArray, List.set_cons_zero, List.set_cons_succ]
            refine wpAnyH_done (by kernel_rfl) ?_ _
            go_wp2_with fail
            go_meet
            exact ⟨_, rfl, hT⟩
          exact AllReadyH.nil
        exact AllReadyH.nil
      case rest =>
      obtain ⟨q3, rfl, hS⟩ := hcut
      obtain ⟨W2, hW2⟩ : ∃ W, W = wc := ⟨_, rfl⟩
      subst hW2
      obtain ⟨hcM, hlM1⟩ : mM.code.length ≤ 300 ∧ mM.lits.length ≤ 100 := by
        have hk' : U.methods[kj]? = some mM := by rw [← hU1.out.mm, List.getElem?_map, hMk]; rfl
        have := meth_len (hU1.out.ta.mts kj mM hk')
        omega
      clear m0 m1 m2 m3 u2' hC2 hU1 hUB hW1 hme hml hkj hkj9 kj0 kj1 hMk d1
      go_wp2
      go_loopw [4] (fun i4 wr => ∃ j : Nat, j ≤ mM.code.length ∧ i4 = .int .i64 j ∧ Hid (N2 w wr (.agg #[.int .i64 mM.args, .int .i64 mM.temps, .slice la mM.lits.length lc, .slice ca mM.code.length cc]) (.agg #[.slice na U.names.length nc, .slice ka U.classes.length kc, .slice (some ⟨ug, 0, none⟩) U.methods.length ucap, .slice oa U.objects.length oc, .int .i64 U.main]) mM U q2 q3 la ca na ka oa lc cc nc kc oc ug ucap)) (fun i4 _ => mM.code.length - (intOf i4).toNat)
      case atStart => exact ⟨0, by omega, rfl, hS⟩
      case round =>
        clear hS
        obtain ⟨j, hj, rfl, hS⟩ := hrel
        have x3 := hS.out.bM.c3
        by_cases hjl : j < mM.code.length
        · have d2 : (j : Int) < (mM.code.length : Int) := by omega
          have hj64 : In64 (j : Int) := in64_of (by omega) (by omega)
          have hj164 : In64 ((j : Int) - 1) := in64_of (by omega) (by omega)
          have wj : IntKind.i64.wrap ((j : Int) - 1) = (j : Int) - 1 := by rw [IntKind.wrap_i64]; omega
          obtain ⟨s, hs⟩ : ∃ s : Nat, s = j * k := ⟨_, rfl⟩
          have hs1 : s ≤ 9000 := by rw [hs]; exact Nat.mul_le_mul (by omega : j ≤ 300) (by omega : k ≤ 30)
          have ws : IntKind.i64.wrap ((j : Int) * (k : Int)) = (s : Int) := by rw [← Int.natCast_mul, ← hs, IntKind.wrap_i64]; omega
          have ws2 : IntKind.i64.wrap ((s : Int) + (k : Int)) = (s : Int) + (k : Int) := by rw [IntKind.wrap_i64]; omega
          obtain ⟨z, hz, hz64⟩ : ∃ z, ((s : Int) + (k : Int)).tmod 26 = z ∧ In64 z := ⟨_, rfl, by
            have h1 := Int.tmod_lt_of_pos ((s : Int) + (k : Int)) (show (0 : Int) < 26 by omega)
            have h2 := Int.tmod_nonneg 26 (show 0 ≤ (s : Int) + (k : Int) by omega)
            exact in64_of (by omega) (by omega)⟩
          clear hs
          go_upto_region 9 with fail
          clear x3
          go_cut [58] (fun v58 wx => v58 = .bool false ∧ Hid (N2 w wx (.agg #[.int .i64 mM.args, .int .i64 mM.temps, .slice la mM.lits.length lc, .slice ca mM.code.length cc]) (.agg #[.slice na U.names.length nc, .slice ka U.classes.length kc, .slice (some ⟨ug, 0, none⟩) U.methods.length ucap, .slice oa U.objects.length oc, .int .i64 U.main]) mM U q2 q3 la ca na ka oa lc cc nc kc oc ug ucap))
          case first =>
            replace hS := Lib.hid (hS.out.up ((Below.refl _ _).drew))
            refine wp_region_held_drew (S := (fun wr' => N2 w wr' (.agg #[.int .i64 mM.args, .int .i64 mM.temps, .slice la mM.lits.length lc, .slice ca mM.code.length cc]) (.agg #[.slice na U.names.length nc, .slice ka U.classes.length kc, .slice (some ⟨ug, 0, none⟩) U.methods.length ucap, .slice oa U.objects.length oc, .int .i64 U.main]) mM U q2 q3 la ca na ka oa lc cc nc kc oc ug ucap)) (by kernel_rfl) ?_ (fun hHeld => ?_)
            · (try dsimp only); exact hS.out
            try simp only [Act.put, List.setIfInBounds_toArray, List.set_cons_zero, List.set_cons_succ]
            refine wpAnyH_take (i := 0) (oi := { dst := some 36, op := Op.load 37 (Operand.tmp 3), type := 37, pos := "law.go:72", after := #[], guard := none }) (v := (.agg #[.int .i64 mM.args, .int .i64 mM.temps, .slice la mM.lits.length lc, .slice ca mM.code.length cc])) rfl (by kernel_rfl) (by kernel_rfl) (by kernel_rfl) (fun _ _ _ h => h) (yieldsIf_load_mid (by rfl) _ _ rfl q3 0 rfl [.int .i64 mM.args, .int .i64 mM.temps, .slice la mM.lits.length lc, .slice ca mM.code.length cc] dM (fun w hw => hw.bM.range) hdM.out hrM.out infoM) (by assumption) ?_
            try simp only [Act.put, List.setIfInBounds_toArray, List.set_cons_zero, List.set_cons_succ]
            refine wpAnyH_take (i := 9) (oi := { dst := some 45, op := Op.load 27 (Operand.tmp 2), type := 27, pos := "law.go:72", after := #[], guard := none }) (v := (.agg #[.slice na U.names.length nc, .slice ka U.classes.length kc, .slice (some ⟨ug, 0, none⟩) U.methods.length ucap, .slice oa U.objects.length oc, .int .i64 U.main])) rfl (by kernel_rfl) (by kernel_rfl) (by kernel_rfl) (fun _ _ _ h => h) (yieldsIf_load_mid (by rfl) _ _ rfl q2 0 rfl [.slice na U.names.length nc, .slice ka U.classes.length kc, .slice (some ⟨ug, 0, none⟩) U.methods.length ucap, .slice oa U.objects.length oc, .int .i64 U.main] dU (fun w hw => hw.bU.range) hdU.out hrU.out infoU) (by assumption) ?_
            try simp only [Act.put, List.setIfInBounds_toArray, List.set_cons_zero, List.set_cons_succ]
            refine wpAnyH_take (i := 1) (oi := { dst := some 37, op := Op.move (Operand.tmp 4), type := 3, pos := "law.go:72", after := #[], guard := none }) (v := ?_) rfl (by kernel_rfl) (by kernel_rfl) (by kernel_rfl) (fun _ _ _ h => h) (Or.inl ⟨by rfl, ?_⟩) (by assumption) ?_
            rotate_left 1
            · intro w hSw; (try dsimp only at hSw); go_simp <;> with_reducible rfl
            try simp only [Act.put, List.setIfInBounds_toArray, List.set_cons_zero, List.set_cons_succ]
            refine wpAnyH_take (i := 2) (oi := { dst := some 38, op := Op.move (Operand.tmp 4), type := 3, pos := "law.go:72", after := #[], guard := none }) (v := ?_) rfl (by kernel_rfl) (by kernel_rfl) (by kernel_rfl) (fun _ _ _ h => h) (Or.inl ⟨by rfl, ?_⟩) (by assumption) ?_
            rotate_left 1
            · intro w hSw; (try dsimp only at hSw); go_simp <;> with_reducible rfl
            try simp only [Act.put, List.setIfInBounds_toArray, List.set_cons_zero, List.set_cons_succ]
            refine wpAnyH_take (i := 3) (oi := { dst := some 39, op := Op.move (Operand.tmp 1), type := 3, pos := "law.go:72", after := #[], guard := none }) (v := ?_) rfl (by kernel_rfl) (by kernel_rfl) (by kernel_rfl) (fun _ _ _ h => h) (Or.inl ⟨by rfl, ?_⟩) (by assumption) ?_
            rotate_left 1
            · intro w hSw; (try dsimp only at hSw); go_simp <;> with_reducible rfl
            try simp only [Act.put, List.setIfInBounds_toArray, List.set_cons_zero, List.set_cons_succ]
            refine wpAnyH_take (i := 4) (oi := { dst := some 40, op := Op.binOp BinOp.mul 3 (Operand.tmp 38) (Operand.tmp 39) 3, type := 3, pos := "law.go:72", after := #[{ on := 2, ground := Ground.data }, { on := 3, ground := Ground.data }], guard := none }) (v := ?_) rfl (by kernel_rfl) (by kernel_rfl) (by kernel_rfl) (fun _ _ _ h => h) (Or.inl ⟨by rfl, ?_⟩) (by assumption) ?_
            rotate_left 1
            · intro w hSw; (try dsimp only at hSw); go_simp <;> with_reducible rfl
            try simp only [Act.put, List.setIfInBounds_toArray, List.set_cons_zero, List.set_cons_succ]
            refine wpAnyH_take (i := 5) (oi := { dst := some 41, op := Op.move (Operand.tmp 1), type := 3, pos := "law.go:72", after := #[], guard := none }) (v := ?_) rfl (by kernel_rfl) (by kernel_rfl) (by kernel_rfl) (fun _ _ _ h => h) (Or.inl ⟨by rfl, ?_⟩) (by assumption) ?_
            rotate_left 1
            · intro w hSw; (try dsimp only at hSw); go_simp <;> with_reducible rfl
            try simp only [Act.put, List.setIfInBounds_toArray, List.set_cons_zero, List.set_cons_succ]
            refine wpAnyH_take (i := 6) (oi := { dst := some 42, op := Op.binOp BinOp.add 3 (Operand.tmp 40) (Operand.tmp 41) 3, type := 3, pos := "law.go:72", after := #[{ on := 4, ground := Ground.data }, { on := 5, ground := Ground.data }], guard := none }) (v := ?_) rfl (by kernel_rfl) (by kernel_rfl) (by kernel_rfl) (fun _ _ _ h => h) (Or.inl ⟨by rfl, ?_⟩) (by assumption) ?_
            rotate_left 1
            · intro w hSw; (try dsimp only at hSw); go_simp <;> with_reducible rfl
            try simp only [Act.put, List.setIfInBounds_toArray, List.set_cons_zero, List.set_cons_succ]
            refine wpAnyH_take (i := 7) (oi := { dst := some 43, op := Op.binOp BinOp.rem 3 (Operand.tmp 42) (Operand.const (Value.int IntKind.i64 26)) 3, type := 3, pos := "law.go:72", after := #[{ on := 6, ground := Ground.data }], guard := none }) (v := ?_) rfl (by kernel_rfl) (by kernel_rfl) (by kernel_rfl) (fun _ _ _ h => h) (Or.inl ⟨by rfl, ?_⟩) (by assumption) ?_
            rotate_left 1
            · intro w hSw; (try dsimp only at hSw); go_simp <;> with_reducible rfl
            try simp only [Act.put, List.setIfInBounds_toArray, List.set_cons_zero, List.set_cons_succ]
            refine wpAnyH_take (i := 10) (oi := { dst := some 46, op := Op.move (Operand.tmp 4), type := 3, pos := "law.go:72", after := #[], guard := none }) (v := ?_) rfl (by kernel_rfl) (by kernel_rfl) (by kernel_rfl) (fun _ _ _ h => h) (Or.inl ⟨by rfl, ?_⟩) (by assumption) ?_
            rotate_left 1
            · intro w hSw; (try dsimp only at hSw); go_simp <;> with_reducible rfl
            try simp only [Act.put, List.setIfInBounds_toArray, List.set_cons_zero, List.set_cons_succ]
            refine wpAnyH_take (i := 11) (oi := { dst := some 47, op := Op.binOp BinOp.sub 3 (Operand.tmp 46) (Operand.const (Value.int IntKind.i64 1)) 3, type := 3, pos := "law.go:72", after := #[{ on := 10, ground := Ground.data }], guard := none }) (v := ?_) rfl (by kernel_rfl) (by kernel_rfl) (by kernel_rfl) (fun _ _ _ h => h) (Or.inl ⟨by rfl, ?_⟩) (by assumption) ?_
            rotate_left 1
            · intro w hSw; (try dsimp only at hSw); go_simp <;> with_reducible rfl
            try simp only [Act.put, List.setIfInBounds_toArray, List.set_cons_zero, List.set_cons_succ]
            refine wpAnyH_ready (rs := [8]) (by kernel_rfl) (by simp) ?_
            refine AllReadyH.cons (o := { dst := some 44, op := Op.call { callee := Callee.value (Operand.func 11), args := #[Operand.tmp 36, Operand.const (Value.int IntKind.i64 2), Operand.tmp 37, Operand.tmp 43], argTypes := #[37, 3, 3, 3] }, type := 37, pos := "law.go:72", after := #[{ on := 0, ground := Ground.data }, { on := 1, ground := Ground.data }, { on := 7, ground := Ground.data }], guard := none }) rfl (fun K9 hK => ?_) ?_
            · go_simp
              with_reducible refine (odd_c hS.out.bM.me hcM hlM1 2 (j : Int) z h2 hj64 hz64).mono ?_
              rintro e y1 ⟨v5, rfl, m5, hm5, hc5, hl5, hb⟩
              replace hS := Lib.hid (hS.out.up hb)
              replace hm5 := Lib.hid hm5
              clear hb
              go_wp2_with fail
              refine hK.out _ _ ?_ ?_
              · (try dsimp only); exact hS.out
              clear hK K9 hHeld; intro hHeld
              try simp only [Act.put, List.setIfInBounds_toArray, List.set_cons_zero, List.set_cons_succ]
              refine wpAnyH_ready (rs := [12]) (by kernel_rfl) (by simp) ?_
              refine AllReadyH.cons (o := { dst := some 48, op := Op.call { callee := Callee.value (Operand.func 10), args := #[Operand.tmp 44, Operand.tmp 45, Operand.tmp 47], argTypes := #[37, 27, 3] }, type := 4, pos := "law.go:72", after := #[{ on := 8, ground := Ground.data }, { on := 9, ground := Ground.data }, { on := 11, ground := Ground.data }, { on := 8, ground := Ground.chain }], guard := none }) rfl (fun K9 hK => ?_) ?_
              · go_simp
                with_reducible refine (same_c K hm5.out hS.out.uk ((j : Int) - 1) hj164).mono ?_
                rintro e y2 ⟨rfl, hb⟩
                replace hS := Lib.hid (hS.out.up hb)
                clear hb
                go_wp2_with fail
                refine hK.out _ _ ?_ ?_
                · (try dsimp only); exact hS.out
                clear hK K9 hHeld; intro hHeld
                try simp only [Act.put, List.setIfInBounds_toArray, List.set_cons_zero, List.set_cons_succ]
                refine wpAnyH_take (i := 13) (oi := { dst := some 49, op := Op.unOp UnOp.not 4 (Operand.tmp 48), type := 4, pos := "law.go:72", after := #[{ on := 12, ground := Ground.data }], guard := none }) (v := ?_) rfl (by kernel_rfl) (by kernel_rfl) (by kernel_rfl) (fun _ _ _ h => h) (Or.inl ⟨by rfl, ?_⟩) (by assumption) ?_
                rotate_left 1
                · intro w hSw; (try dsimp only at hSw); go_simp <;> with_reducible rfl
                try simp only [Act.put, List.setIfInBounds_toArray, List.set_cons_zero, List.set_cons_succ]
                refine wpAnyH_take (i := 14) (oi := { dst := some 50, op := Op.move (Operand.tmp 49), type := 4, pos := "law.go:72", after := #[{ on := 13, ground := Ground.data }, { on := 12, ground := Ground.chain }], guard := none }) (v := ?_) rfl (by kernel_rfl) (by kernel_rfl) (by kernel_rfl) (fun _ _ _ h => h) (Or.inl ⟨by rfl, ?_⟩) (by assumption) ?_
                rotate_left 1
                · intro w hSw; (try dsimp only at hSw); go_simp <;> with_reducible rfl
                try simp only [Act.put, List.setIfInBounds_toArray, List.set_cons_zero, List.set_cons_succ]
                refine wpAnyH_take (i := 15) (oi := { dst := some 51, op := Op.load 37 (Operand.tmp 3), type := 37, pos := "law.go:72", after := #[{ on := 14, ground := Ground.guard }], guard := some (14, false) }) (v := (.agg #[.int .i64 mM.args, .int .i64 mM.temps, .slice la mM.lits.length lc, .slice ca mM.code.length cc])) rfl (by kernel_rfl) (by kernel_rfl) (by kernel_rfl) (fun _ _ _ h => h) (yieldsIf_load_mid (by rfl) _ _ rfl q3 0 rfl [.int .i64 mM.args, .int .i64 mM.temps, .slice la mM.lits.length lc, .slice ca mM.code.length cc] dM (fun w hw => hw.bM.range) hdM.out hrM.out infoM) (by assumption) ?_
                try simp only [Act.put, List.setIfInBounds_toArray, List.set_cons_zero, List.set_cons_succ]
                refine wpAnyH_take (i := 18) (oi := { dst := some 54, op := Op.load 27 (Operand.tmp 2), type := 27, pos := "law.go:72", after := #[{ on := 14, ground := Ground.guard }], guard := some (14, false) }) (v := (.agg #[.slice na U.names.length nc, .slice ka U.classes.length kc, .slice (some ⟨ug, 0, none⟩) U.methods.length ucap, .slice oa U.objects.length oc, .int .i64 U.main])) rfl (by kernel_rfl) (by kernel_rfl) (by kernel_rfl) (fun _ _ _ h => h) (yieldsIf_load_mid (by rfl) _ _ rfl q2 0 rfl [.slice na U.names.length nc, .slice ka U.classes.length kc, .slice (some ⟨ug, 0, none⟩) U.methods.length ucap, .slice oa U.objects.length oc, .int .i64 U.main] dU (fun w hw => hw.bU.range) hdU.out hrU.out infoU) (by assumption) ?_
                try simp only [Act.put, List.setIfInBounds_toArray, List.set_cons_zero, List.set_cons_succ]
                refine wpAnyH_take (i := 16) (oi := { dst := some 52, op := Op.move (Operand.tmp 4), type := 3, pos := "law.go:72", after := #[{ on := 14, ground := Ground.guard }], guard := some (14, false) }) (v := ?_) rfl (by kernel_rfl) (by kernel_rfl) (by kernel_rfl) (fun _ _ _ h => h) (Or.inl ⟨by rfl, ?_⟩) (by assumption) ?_
                rotate_left 1
                · intro w hSw; (try dsimp only at hSw); go_simp <;> with_reducible rfl
                try simp only [Act.put, List.setIfInBounds_toArray, List.set_cons_zero, List.set_cons_succ]
                refine wpAnyH_take (i := 19) (oi := { dst := some 55, op := Op.move (Operand.tmp 4), type := 3, pos := "law.go:72", after := #[{ on := 14, ground := Ground.guard }], guard := some (14, false) }) (v := ?_) rfl (by kernel_rfl) (by kernel_rfl) (by kernel_rfl) (fun _ _ _ h => h) (Or.inl ⟨by rfl, ?_⟩) (by assumption) ?_
                rotate_left 1
                · intro w hSw; (try dsimp only at hSw); go_simp <;> with_reducible rfl
                try simp only [Act.put, List.setIfInBounds_toArray, List.set_cons_zero, List.set_cons_succ]
                refine wpAnyH_ready (rs := [17]) (by kernel_rfl) (by simp) ?_
                refine AllReadyH.cons (o := { dst := some 53, op := Op.call { callee := Callee.value (Operand.func 11), args := #[Operand.tmp 51, Operand.const (Value.int IntKind.i64 3), Operand.tmp 52, Operand.const (Value.int IntKind.i64 0)], argTypes := #[37, 3, 3, 3] }, type := 37, pos := "law.go:72", after := #[{ on := 15, ground := Ground.data }, { on := 16, ground := Ground.data }, { on := 14, ground := Ground.chain }, { on := 14, ground := Ground.guard }], guard := some (14, false) }) rfl (fun K9 hK => ?_) ?_
                · go_simp
                  with_reducible refine (odd_c hS.out.bM.me hcM hlM1 3 (j : Int) 0 h3 hj64 in64_z).mono ?_
                  rintro e y3 ⟨v6, rfl, m6, hm6, hc6, hl6, hb⟩
                  replace hS := Lib.hid (hS.out.up hb)
                  replace hm6 := Lib.hid hm6
                  clear hb
                  go_wp2_with fail
                  refine hK.out _ _ ?_ ?_
                  · (try dsimp only); exact hS.out
                  clear hK K9 hHeld; intro hHeld
                  try simp only [Act.put, List.setIfInBounds_toArray, List.set_cons_zero, List.set_cons_succ]
                  refine wpAnyH_ready (rs := [20]) (by kernel_rfl) (by simp) ?_
                  refine AllReadyH.cons (o := { dst := some 56, op := Op.call { callee := Callee.value (Operand.func 10), args := #[Operand.tmp 53, Operand.tmp 54, Operand.tmp 55], argTypes := #[37, 27, 3] }, type := 4, pos := "law.go:72", after := #[{ on := 17, ground := Ground.data }, { on := 18, ground := Ground.data }, { on := 19, ground := Ground.data }, { on := 17, ground := Ground.chain }, { on := 14, ground := Ground.guard }], guard := some (14, false) }) rfl (fun K9 hK => ?_) ?_
                  · go_simp
                    with_reducible refine (same_c K hm6.out hS.out.uk (j : Int) hj64).mono ?_
                    rintro e y4 ⟨rfl, hb⟩
                    replace hS := Lib.hid (hS.out.up hb)
                    clear hb
                    go_wp2_with fail
                    refine hK.out _ _ ?_ ?_
                    · (try dsimp only); exact hS.out
                    clear hK K9 hHeld; intro hHeld
                    try simp only [Act.put, List.setIfInBounds_toArray, List.set_cons_zero, List.set_cons_succ]
                    refine wpAnyH_take (i := 21) (oi := { dst := some 57, op := Op.unOp UnOp.not 4 (Operand.tmp 56), type := 4, pos := "law.go:72", after := #[{ on := 20, ground := Ground.data }, { on := 14, ground := Ground.guard }], guard := some (14, false) }) (v := ?_) rfl (by kernel_rfl) (by kernel_rfl) (by kernel_rfl) (fun _ _ _ h => h) (Or.inl ⟨by rfl, ?_⟩) (by assumption) ?_
                    rotate_left 1
                    · intro w hSw; (try dsimp only at hSw); go_simp <;> with_reducible rfl
                    try simp only [Act.put, List.setIfInBounds_toArray, List.set_cons_zero, List.set_cons_succ]
                    refine wpAnyH_take (i := 22) (oi := { dst := some 58, op := Op.pick (Operand.tmp 50) (Operand.const (Value.bool true)) (Operand.tmp 57), type := 4, pos := "law.go:72", after := #[{ on := 14, ground := Ground.data }, { on := 21, ground := Ground.data }], guard := none }) (v := ?_) rfl (by kernel_rfl) (by kernel_rfl) (by kernel_rfl) (fun _ _ _ h => h) (Or.inl ⟨by rfl, ?_⟩) (by assumption) ?_
                    rotate_left 1
                    · intro w hSw; (try dsimp only at hSw); go_simp <;> with_reducible rfl
                    try simp only [Act.put, List.setIfInBounds_toArray, List.set_cons_zero, List.set_cons_succ]
                    refine wpAnyH_done (by kernel_rfl) ?_ _
                    go_wp2_with fail
                    go_meet
                    exact ⟨rfl, hS⟩
                  exact AllReadyH.nil
                exact AllReadyH.nil
              exact AllReadyH.nil
            exact AllReadyH.nil
          case rest =>
          clear hS
          obtain ⟨rfl, hS⟩ := hcut
          go_wp2
          go_roundw
          case rel => exact ⟨j + 1, by omega, by go_num, hS⟩
          case measure => simp [intOf]; omega
        · have d2 : ¬ (j : Int) < (mM.code.length : Int) := by omega
          go_wp2
          clear x3
          go_loopw [5] (fun i5 wr => ∃ wh : Nat, wh ≤ 8 ∧ i5 = .int .i64 wh ∧ Hid (N2 w wr (.agg #[.int .i64 mM.args, .int .i64 mM.temps, .slice la mM.lits.length lc, .slice ca mM.code.length cc]) (.agg #[.slice na U.names.length nc, .slice ka U.classes.length kc, .slice (some ⟨ug, 0, none⟩) U.methods.length ucap, .slice oa U.objects.length oc, .int .i64 U.main]) mM U q2 q3 la ca na ka oa lc cc nc kc oc ug ucap)) (fun i5 _ => 8 - (intOf i5).toNat)
          case atStart => exact ⟨0, by omega, rfl, hS⟩
          case round =>
            clear hS d2
            obtain ⟨wh, hwh8, rfl, hS⟩ := hrel
            by_cases hw8 : wh < 8
            · have d3 : decide ((wh : Int) < 8) = true := by simp; omega
              have hwh : In64 (wh : Int) := in64_of (by omega) (by omega)
              go_upto_region 15 with fail
              have hnew : ∀ (W : World), ∀ i, i < 15 → (W.alloc (.cells #[.int .i64 (-1), .int .i64 0, .int .i64 1, .int .i64 5, .int .i64 7, .int .i64 8, .int .i64 9, .int .i64 20, .int .i64 21, .int .i64 22, .int .i64 255, .int .i64 1073741824, .int .i64 (-1073741825), .int .i64 4611686018427387904, .int .i64 (-9223372036854775808)] 3)).cell? ⟨W.heap.size, i, none⟩ = some (.int .i64 (n15L.getD i 0)) := fun W i hi => cell_in (alloc_at W _ _ rfl) (n15_arr hi)
              have hN15 := Lib.hid (hnew wr)
              replace hS := Lib.hid (hS.out.up ((Below.refl _ _).alloc (Nat.le_refl _) (.cells #[.int .i64 (-1), .int .i64 0, .int .i64 1, .int .i64 5, .int .i64 7, .int .i64 8, .int .i64 9, .int .i64 20, .int .i64 21, .int .i64 22, .int .i64 255, .int .i64 1073741824, .int .i64 (-1073741825), .int .i64 4611686018427387904, .int .i64 (-9223372036854775808)] 3)))
              clear hnew
              generalize wr.alloc (.cells #[.int .i64 (-1), .int .i64 0, .int .i64 1, .int .i64 5, .int .i64 7, .int .i64 8, .int .i64 9, .int .i64 20, .int .i64 21, .int .i64 22, .int .i64 255, .int .i64 1073741824, .int .i64 (-1073741825), .int .i64 4611686018427387904, .int .i64 (-9223372036854775808)] 3) = W4 at *
              generalize wr.heap.size = qn at *
              go_wp2
              go_loopw [65] (fun i65 wr => ∃ i : Nat, i ≤ 15 ∧ i65 = .int .i64 i ∧ Hid (N2 w wr (.agg #[.int .i64 mM.args, .int .i64 mM.temps, .slice la mM.lits.length lc, .slice ca mM.code.length cc]) (.agg #[.slice na U.names.length nc, .slice ka U.classes.length kc, .slice (some ⟨ug, 0, none⟩) U.methods.length ucap, .slice oa U.objects.length oc, .int .i64 U.main]) mM U q2 q3 la ca na ka oa lc cc nc kc oc ug ucap) ∧ Hid (∀ i, i < 15 → wr.cell? ⟨qn, i, none⟩ = some (.int .i64 (n15L.getD i 0)))) (fun i65 _ => 15 - (intOf i65).toNat)
              case atStart => exact ⟨0, by omega, rfl, hS, hN15⟩
              case round =>
                clear hS hN15
                obtain ⟨i, hi, rfl, hS, hN15⟩ := hrel
                by_cases hi15 : i < 15
                · have d4 : decide ((i : Int) < 15) = true := by simp; omega
                  have i0 : (0 : Int) ≤ (i : Int) := by omega
                  have i1 : (i : Int) < 15 := by omega
                  have xc := hN15.out i hi15
                  have hnx := n15_64 i hi15
                  generalize n15L.getD i 0 = nx at *
                  replace hnx : In64 nx := hnx
                  go_upto_region 17 with fail
                  clear xc
                  obtain ⟨wv, hwv⟩ : ∃ W, W = wr := ⟨_, rfl⟩
                  subst hwv
                  go_cut [77] (fun v77 wx => v77 = .bool false ∧ Hid (N2 w wx (.agg #[.int .i64 mM.args, .int .i64 mM.temps, .slice la mM.lits.length lc, .slice ca mM.code.length cc]) (.agg #[.slice na U.names.length nc, .slice ka U.classes.length kc, .slice (some ⟨ug, 0, none⟩) U.methods.length ucap, .slice oa U.objects.length oc, .int .i64 U.main]) mM U q2 q3 la ca na ka oa lc cc nc kc oc ug ucap) ∧ Below wv.heap.size wv wx)
                  case first =>
                    have hB0 : Hid (Below wv.heap.size wv wv.drew) := Lib.hid ((Below.refl _ _).drew)
                    replace hS := Lib.hid (hS.out.up hB0.out)
                    refine wp_region_held_drew (S := (fun wr' => N2 w wr' (.agg #[.int .i64 mM.args, .int .i64 mM.temps, .slice la mM.lits.length lc, .slice ca mM.code.length cc]) (.agg #[.slice na U.names.length nc, .slice ka U.classes.length kc, .slice (some ⟨ug, 0, none⟩) U.methods.length ucap, .slice oa U.objects.length oc, .int .i64 U.main]) mM U q2 q3 la ca na ka oa lc cc nc kc oc ug ucap)) (by kernel_rfl) ?_ (fun hHeld => ?_)
                    · (try dsimp only); exact hS.out
                    try simp only [Act.put, List.setIfInBounds_toArray, List.set_cons_zero, List.set_cons_succ]
                    refine wpAnyH_take (i := 0) (oi := { dst := some 69, op := Op.load 37 (Operand.tmp 3), type := 37, pos := "law.go:78", after := #[], guard := none }) (v := (.agg #[.int .i64 mM.args, .int .i64 mM.temps, .slice la mM.lits.length lc, .slice ca mM.code.length cc])) rfl (by kernel_rfl) (by kernel_rfl) (by kernel_rfl) (fun _ _ _ h => h) (yieldsIf_load_mid (by rfl) _ _ rfl q3 0 rfl [.int .i64 mM.args, .int .i64 mM.temps, .slice la mM.lits.length lc, .slice ca mM.code.length cc] dM (fun w hw => hw.bM.range) hdM.out hrM.out infoM) (by assumption) ?_
                    try simp only [Act.put, List.setIfInBounds_toArray, List.set_cons_zero, List.set_cons_succ]
                    refine wpAnyH_take (i := 5) (oi := { dst := some 74, op := Op.load 27 (Operand.tmp 2), type := 27, pos := "law.go:78", after := #[], guard := none }) (v := (.agg #[.slice na U.names.length nc, .slice ka U.classes.length kc, .slice (some ⟨ug, 0, none⟩) U.methods.length ucap, .slice oa U.objects.length oc, .int .i64 U.main])) rfl (by kernel_rfl) (by kernel_rfl) (by kernel_rfl) (fun _ _ _ h => h) (yieldsIf_load_mid (by rfl) _ _ rfl q2 0 rfl [.slice na U.names.length nc, .slice ka U.classes.length kc, .slice (some ⟨ug, 0, none⟩) U.methods.length ucap, .slice oa U.objects.length oc, .int .i64 U.main] dU (fun w hw => hw.bU.range) hdU.out hrU.out infoU) (by assumption) ?_
                    try simp only [Act.put, List.setIfInBounds_toArray, List.set_cons_zero, List.set_cons_succ]
                    refine wpAnyH_take (i := 1) (oi := { dst := some 70, op := Op.move (Operand.tmp 5), type := 3, pos := "law.go:78", after := #[], guard := none }) (v := ?_) rfl (by kernel_rfl) (by kernel_rfl) (by kernel_rfl) (fun _ _ _ h => h) (Or.inl ⟨by rfl, ?_⟩) (by assumption) ?_
                    rotate_left 1
                    · intro w hSw; (try dsimp only at hSw); go_simp <;> with_reducible rfl
                    try simp only [Act.put, List.setIfInBounds_toArray, List.set_cons_zero, List.set_cons_succ]
                    refine wpAnyH_take (i := 2) (oi := { dst := some 71, op := Op.move (Operand.tmp 1), type := 3, pos := "law.go:78", after := #[], guard := none }) (v := ?_) rfl (by kernel_rfl) (by kernel_rfl) (by kernel_rfl) (fun _ _ _ h => h) (Or.inl ⟨by rfl, ?_⟩) (by assumption) ?_
                    rotate_left 1
                    · intro w hSw; (try dsimp only at hSw); go_simp <;> with_reducible rfl
                    try simp only [Act.put, List.setIfInBounds_toArray, List.set_cons_zero, List.set_cons_succ]
                    refine wpAnyH_take (i := 3) (oi := { dst := some 72, op := Op.move (Operand.tmp 7), type := 3, pos := "law.go:78", after := #[], guard := none }) (v := ?_) rfl (by kernel_rfl) (by kernel_rfl) (by kernel_rfl) (fun _ _ _ h => h) (Or.inl ⟨by rfl, ?_⟩) (by assumption) ?_
                    rotate_left 1
                    · intro w hSw; (try dsimp only at hSw); go_simp <;> with_reducible rfl
                    try simp only [Act.put, List.setIfInBounds_toArray, List.set_cons_zero, List.set_cons_succ]
                    refine wpAnyH_take (i := 6) (oi := { dst := some 75, op := Op.move (Operand.tmp 7), type := 3, pos := "law.go:78", after := #[], guard := none }) (v := ?_) rfl (by kernel_rfl) (by kernel_rfl) (by kernel_rfl) (fun _ _ _ h => h) (Or.inl ⟨by rfl, ?_⟩) (by assumption) ?_
                    rotate_left 1
                    · intro w hSw; (try dsimp only at hSw); go_simp <;> with_reducible rfl
                    try simp only [Act.put, List.setIfInBounds_toArray, List.set_cons_zero, List.set_cons_succ]
                    refine wpAnyH_ready (rs := [4]) (by kernel_rfl) (by simp) ?_
                    refine AllReadyH.cons (o := { dst := some 73, op := Op.call { callee := Callee.value (Operand.func 11), args := #[Operand.tmp 69, Operand.tmp 70, Operand.tmp 71, Operand.tmp 72], argTypes := #[37, 3, 3, 3] }, type := 37, pos := "law.go:78", after := #[{ on := 0, ground := Ground.data }, { on := 1, ground := Ground.data }, { on := 2, ground := Ground.data }, { on := 3, ground := Ground.data }], guard := none }) rfl (fun K9 hK => ?_) ?_
                    · go_simp
                      with_reducible refine (odd_c hS.out.bM.me hcM hlM1 (wh : Int) (k : Int) nx hwh hk64 hnx).mono ?_
                      rintro e y1 ⟨v5, rfl, m5, hm5, hc5, hl5, hb⟩
                      replace hS := Lib.hid (hS.out.up hb)
                      replace hm5 := Lib.hid hm5
                      replace hB0 := Lib.hid (hB0.out.trans (hb.mono hB0.out.size))
                      clear hb
                      go_wp2_with fail
                      refine hK.out _ _ ?_ ?_
                      · (try dsimp only); exact hS.out
                      clear hK K9 hHeld; intro hHeld
                      try simp only [Act.put, List.setIfInBounds_toArray, List.set_cons_zero, List.set_cons_succ]
                      refine wpAnyH_ready (rs := [7]) (by kernel_rfl) (by simp) ?_
                      refine AllReadyH.cons (o := { dst := some 76, op := Op.call { callee := Callee.value (Operand.func 10), args := #[Operand.tmp 73, Operand.tmp 74, Operand.tmp 75], argTypes := #[37, 27, 3] }, type := 4, pos := "law.go:78", after := #[{ on := 4, ground := Ground.data }, { on := 5, ground := Ground.data }, { on := 6, ground := Ground.data }, { on := 4, ground := Ground.chain }], guard := none }) rfl (fun K9 hK => ?_) ?_
                      · go_simp
                        with_reducible refine (same_c K hm5.out hS.out.uk nx hnx).mono ?_
                        rintro e y2 ⟨rfl, hb⟩
                        replace hS := Lib.hid (hS.out.up hb)
                        replace hB0 := Lib.hid (hB0.out.trans (hb.mono hB0.out.size))
                        clear hb
                        go_wp2_with fail
                        refine hK.out _ _ ?_ ?_
                        · (try dsimp only); exact hS.out
                        clear hK K9 hHeld; intro hHeld
                        try simp only [Act.put, List.setIfInBounds_toArray, List.set_cons_zero, List.set_cons_succ]
                        refine wpAnyH_take (i := 8) (oi := { dst := some 77, op := Op.unOp UnOp.not 4 (Operand.tmp 76), type := 4, pos := "law.go:78", after := #[{ on := 7, ground := Ground.data }], guard := none }) (v := ?_) rfl (by kernel_rfl) (by kernel_rfl) (by kernel_rfl) (fun _ _ _ h => h) (Or.inl ⟨by rfl, ?_⟩) (by assumption) ?_
                        rotate_left 1
                        · intro w hSw; (try dsimp only at hSw); go_simp <;> with_reducible rfl
                        try simp only [Act.put, List.setIfInBounds_toArray, List.set_cons_zero, List.set_cons_succ]
                        refine wpAnyH_done (by kernel_rfl) ?_ _
                        go_wp2_with fail
                        go_meet
                        exact ⟨rfl, hS, hB0.out⟩
                      exact AllReadyH.nil
                    exact AllReadyH.nil
                  case rest =>
                  clear hS
                  obtain ⟨rfl, hS, hbb⟩ := hcut
                  have hN16 := Lib.hid (fun i hi => cell_up hbb (hN15.out i hi))
                  clear hbb hN15
                  go_wp2
                  go_roundw
                  case rel => exact ⟨i + 1, by omega, by go_num, hS, hN16⟩
                  case measure => simp [intOf]; omega
                · have d4 : decide ((i : Int) < 15) = false := by simp; omega
                  go_wp2
                  go_roundw
                  case rel => exact ⟨wh + 1, by omega, by go_num, hS⟩
                  case measure => simp [intOf]; omega
            · have d3 : decide ((wh : Int) < 8) = false := by simp; omega
              go_wp2
              go_roundw
              case rel => exact ⟨k + 1, by omega, by go_num, Lib.hid hS.out.bel⟩
              case measure => simp [intOf]; omega
    · have d1 : decide ((k : Int) < 30) = false := by simp; omega
      have in64_1 : In64 1 := in64_of (by omega) (by omega)
      have hmc : ∀ w, (Instr.makeSlice 23 (.int .i64 3) (.int .i64 3)).run Try.prog w = .ok (.slice (some ⟨w.heap.size, 0, none⟩) 3 3) (w.alloc clO) := mk_cl
      have hmm : ∀ w, (Instr.makeSlice 24 (.int .i64 1) (.int .i64 1)).run Try.prog w = .ok (.slice (some ⟨w.heap.size, 0, none⟩) 1 1) (w.alloc mtO) := mk_mt
      go_wp2
      go_loopw [8] (fun i8 wr => ∃ o : Nat, o ≤ 24 ∧ i8 = .int .i64 o ∧ Hid (Below w.heap.size w wr)) (fun i8 _ => 24 - (intOf i8).toNat)
      case atStart => exact ⟨0, by omega, rfl, hB⟩
      case round =>
        clear hB d1
        obtain ⟨o, hoo, rfl, hB⟩ := hrel
        by_cases ho24 : o < 24
        · have d2 : decide ((o : Int) < 24) = true := by simp; omega
          have ho64 : In64 (o : Int) := in64_of (by omega) (by omega)
          have hob : 0 ≤ (o : Int) ∧ (o : Int) ≤ 255 := by omega
          go_wp2
          go_loopw [9] (fun i9 wr => ∃ a : Nat, a ≤ 30 ∧ i9 = .int .i64 a ∧ Hid (Below w.heap.size w wr)) (fun i9 _ => 30 - (intOf i9).toNat)
          case atStart => exact ⟨0, by omega, rfl, hB⟩
          case round =>
            clear hB
            obtain ⟨a, haa, rfl, hB⟩ := hrel
            by_cases ha30 : a < 30
            · have d3 : decide ((a : Int) < 30) = true := by simp; omega
              have ha64 : In64 (a : Int) := in64_of (by omega) (by omega)
              have hab : 0 ≤ (a : Int) ∧ (a : Int) ≤ 255 := by omega
              have eo : (o : Int) % 256 = (o : Int) := by omega
              have ea : (a : Int) % 256 = (a : Int) := by omega
              have eo2 : o % 256 = o := by omega
              have wo8 : IntKind.u8.wrap (o : Int) = (o : Int) := by
                show (o : Int) % 256 = (o : Int)
                omega
              have wa8 : IntKind.u8.wrap (a : Int) = (a : Int) := by
                show (a : Int) % 256 = (a : Int)
                omega
              have ea2 : a % 256 = a := by omega
              have hS5 := Lib.hid (N3.born (W := wr) (o : Int) (a : Int) hob hab hB.out)
              go_upto_region 27 with fail
              generalize ((wr.alloc (.cells #[.int .i64 3, .int .i64 0, .int .i64 5, .int .i64 0, .int .i64 6, .int .i64 1, .int .i64 6, .int .i64 2, .int .i64 7, .int .i64 0] 41)).alloc (.cells #[.int .u8 0, .int .u8 0, .int .u8 (o : Int), .int .u8 (a : Int), .int .u8 3, .int .u8 0, .int .u8 14, .int .u8 0] 5)).alloc (.cells #[.int .i64 1, .int .i64 2, .slice (some ⟨wr.heap.size, 0, none⟩) 5 5, .slice (some ⟨wr.heap.size + 1, 0, none⟩) 8 8] 37) = W5 at *
              obtain ⟨q10, hq10⟩ : ∃ q, q = wr.heap.size + 1 + 1 := ⟨_, rfl⟩
              obtain ⟨qb, hqb⟩ : ∃ q, q = wr.heap.size + 1 := ⟨_, rfl⟩
              obtain ⟨qa, hqa⟩ : ∃ q, q = wr.heap.size := ⟨_, rfl⟩
              rw [← hq10, ← hqb, ← hqa] at hS5
              rw [← hq10]
              clear hq10 hqb hqa hB
              go_cut [118] (fun v118 wx => v118 = .bool false ∧ Hid (Below w.heap.size w wx))
              case first =>
                have hS := Lib.hid (hS5.out.up ((Below.refl _ _).drew))
                refine wp_region_held_drew (S := (fun wr' => N3 w wr' q10 qa qb (o : Int) (a : Int))) (by kernel_rfl) ?_ (fun hHeld => ?_)
                · (try dsimp only); exact hS.out
                try simp only [Act.put, List.setIfInBounds_toArray, List.set_cons_zero, List.set_cons_succ]
                refine wpAnyH_take (i := 0) (oi := { dst := some 99, op := Op.load 37 (Operand.tmp 10), type := 37, pos := "law.go:87", after := #[], guard := none }) (v := (.agg #[.int .i64 1, .int .i64 2, .slice (some ⟨qa, 0, none⟩) 5 5, .slice (some ⟨qb, 0, none⟩) 8 8])) rfl (by kernel_rfl) (by kernel_rfl) (by kernel_rfl) (fun _ _ _ h => h) (yieldsIf_load_mid (by rfl) _ _ rfl q10 0 rfl [.int .i64 1, .int .i64 2, .slice (some ⟨qa, 0, none⟩) 5 5, .slice (some ⟨qb, 0, none⟩) 8 8] dM (fun w hw => hw.range) hdM.out hrM.out infoM) (by assumption) ?_
                try simp only [Act.put, List.setIfInBounds_toArray, List.set_cons_zero, List.set_cons_succ]
                refine wpAnyH_take (i := 5) (oi := { dst := some 104, op := Op.move (Operand.tmp 8), type := 3, pos := "law.go:87", after := #[], guard := none }) (v := ?_) rfl (by kernel_rfl) (by kernel_rfl) (by kernel_rfl) (fun _ _ _ h => h) (Or.inl ⟨by rfl, ?_⟩) (by assumption) ?_
                rotate_left 1
                · intro w hSw; (try dsimp only at hSw); go_simp <;> with_reducible rfl
                try simp only [Act.put, List.setIfInBounds_toArray, List.set_cons_zero, List.set_cons_succ]
                refine wpAnyH_ready (rs := [1, 2, 3]) (by kernel_rfl) (by simp) ?_
                refine AllReadyH.cons (o := { dst := some 100, op := Op.buildSlice 22 1 #[(0, Operand.const (Value.string { data := #[120] }))], type := 22, pos := "law.go:87", after := #[], guard := none }) rfl (fun K9 hK => ?_) ?_
                · go_simp
                  have hn1 := Lib.hid ((nm_new W5).up ((Below.refl _ _).drew))
                  replace hS := Lib.hid ((hS5.out.up ((Below.refl W5.heap.size W5).alloc (Nat.le_refl _) nmO)).up ((Below.refl _ _).drew))
                  generalize hgy : (W5.alloc nmO).drew = y1 at *
                  clear hgy
                  generalize W5.heap.size = bn at *
                  refine hK.out _ _ ?_ ?_
                  · (try dsimp only); exact hS.out
                  clear hK K9 hHeld; intro hHeld
                  try simp only [Act.put, List.setIfInBounds_toArray, List.set_cons_zero, List.set_cons_succ]
                  refine wpAnyH_ready (rs := [2, 3]) (by kernel_rfl) (by simp) ?_
                  refine AllReadyH.cons (o := { dst := some 101, op := Op.makeSlice 23 (Operand.const (Value.int IntKind.i64 3)) (Operand.const (Value.int IntKind.i64 3)), type := 23, pos := "law.go:87", after := #[], guard := none }) rfl (fun K9 hK => ?_) ?_
                  · go_simp
                    have hn2 := Lib.hid (cl_new y1)
                    have hba := (Below.refl y1.heap.size y1).alloc (Nat.le_refl _) clO
                    replace hS := Lib.hid (hS.out.up hba)
                    replace hn1 := Lib.hid (hn1.out.up hba)
                    clear hba
                    generalize hgy : y1.alloc clO = y2 at *
                    clear hgy
                    generalize y1.heap.size = bc at *
                    refine hK.out _ _ ?_ ?_
                    · (try dsimp only); exact hS.out
                    clear hK K9 hHeld; intro hHeld
                    try simp only [Act.put, List.setIfInBounds_toArray, List.set_cons_zero, List.set_cons_succ]
                    refine wpAnyH_ready (rs := [3]) (by kernel_rfl) (by simp) ?_
                    refine AllReadyH.cons (o := { dst := some 102, op := Op.makeSlice 24 (Operand.const (Value.int IntKind.i64 1)) (Operand.const (Value.int IntKind.i64 1)), type := 24, pos := "law.go:87", after := #[], guard := none }) rfl (fun K9 hK => ?_) ?_
                    · go_simp
                      have hn3 := Lib.hid (mt_new y2)
                      have hba := (Below.refl y2.heap.size y2).alloc (Nat.le_refl _) mtO
                      replace hS := Lib.hid (hS.out.up hba)
                      replace hn1 := Lib.hid (hn1.out.up hba)
                      replace hn2 := Lib.hid (hn2.out.up hba)
                      clear hba
                      generalize hgy : y2.alloc mtO = y3 at *
                      clear hgy
                      generalize y2.heap.size = bm at *
                      refine hK.out _ _ ?_ ?_
                      · (try dsimp only); exact hS.out
                      clear hK K9 hHeld; intro hHeld
                      try simp only [Act.put, List.setIfInBounds_toArray, List.set_cons_zero, List.set_cons_succ]
                      refine wpAnyH_take (i := 4) (oi := { dst := some 103, op := Op.build 27 #[(0, Operand.tmp 100), (1, Operand.tmp 101), (2, Operand.tmp 102)], type := 27, pos := "law.go:87", after := #[{ on := 1, ground := Ground.data }, { on := 2, ground := Ground.data }, { on := 3, ground := Ground.data }], guard := none }) (v := ?_) rfl (by kernel_rfl) (by kernel_rfl) (by kernel_rfl) (fun _ _ _ h => h) (Or.inl ⟨by rfl, ?_⟩) (by assumption) ?_
                      rotate_left 1
                      · intro w hSw; (try dsimp only at hSw); go_simp <;> with_reducible rfl
                      try simp only [Act.put, List.setIfInBounds_toArray, List.set_cons_zero, List.set_cons_succ]
                      refine wpAnyH_ready (rs := [6]) (by kernel_rfl) (by simp) ?_
                      refine AllReadyH.cons (o := { dst := some 105, op := Op.call { callee := Callee.value (Operand.func 10), args := #[Operand.tmp 99, Operand.tmp 103, Operand.tmp 104], argTypes := #[37, 27, 3] }, type := 4, pos := "law.go:87", after := #[{ on := 0, ground := Ground.data }, { on := 4, ground := Ground.data }, { on := 5, ground := Ground.data }], guard := none }) rfl (fun K9 hK => ?_) ?_
                      · go_simp
                        with_reducible refine (same_c K hS.out.bM.me (un_new hn1.out hn2.out hn3.out) (o : Int) ho64).mono ?_
                        rintro e y4 ⟨rfl, hb⟩
                        replace hS := Lib.hid (hS.out.up hb)
                        clear hb
                        go_wp2_with fail
                        refine hK.out _ _ ?_ ?_
                        · (try dsimp only); exact hS.out
                        clear hK K9 hHeld; intro hHeld
                        try simp only [Act.put, List.setIfInBounds_toArray, List.set_cons_zero, List.set_cons_succ]
                        refine wpAnyH_take (i := 7) (oi := { dst := some 106, op := Op.unOp UnOp.not 4 (Operand.tmp 105), type := 4, pos := "law.go:87", after := #[{ on := 6, ground := Ground.data }], guard := none }) (v := ?_) rfl (by kernel_rfl) (by kernel_rfl) (by kernel_rfl) (fun _ _ _ h => h) (Or.inl ⟨by rfl, ?_⟩) (by assumption) ?_
                        rotate_left 1
                        · intro w hSw; (try dsimp only at hSw); go_simp <;> with_reducible rfl
                        try simp only [Act.put, List.setIfInBounds_toArray, List.set_cons_zero, List.set_cons_succ]
                        refine wpAnyH_take (i := 8) (oi := { dst := some 107, op := Op.move (Operand.tmp 106), type := 4, pos := "law.go:87", after := #[{ on := 7, ground := Ground.data }, { on := 6, ground := Ground.chain }], guard := none }) (v := ?_) rfl (by kernel_rfl) (by kernel_rfl) (by kernel_rfl) (fun _ _ _ h => h) (Or.inl ⟨by rfl, ?_⟩) (by assumption) ?_
                        rotate_left 1
                        · intro w hSw; (try dsimp only at hSw); go_simp <;> with_reducible rfl
                        try simp only [Act.put, List.setIfInBounds_toArray, List.set_cons_zero, List.set_cons_succ]
                        refine wpAnyH_take (i := 9) (oi := { dst := some 108, op := Op.move (Operand.tmp 8), type := 3, pos := "law.go:87", after := #[{ on := 8, ground := Ground.guard }], guard := some (8, false) }) (v := ?_) rfl (by kernel_rfl) (by kernel_rfl) (by kernel_rfl) (fun _ _ _ h => h) (Or.inl ⟨by rfl, ?_⟩) (by assumption) ?_
                        rotate_left 1
                        · intro w hSw; (try dsimp only at hSw); go_simp <;> with_reducible rfl
                        try simp only [Act.put, List.setIfInBounds_toArray, List.set_cons_zero, List.set_cons_succ]
                        refine wpAnyH_take (i := 10) (oi := { dst := some 109, op := Op.convert 3 5 (Operand.tmp 108), type := 5, pos := "law.go:87", after := #[{ on := 9, ground := Ground.data }, { on := 8, ground := Ground.guard }], guard := some (8, false) }) (v := ?_) rfl (by kernel_rfl) (by kernel_rfl) (by kernel_rfl) (fun _ _ _ h => h) (Or.inl ⟨by rfl, ?_⟩) (by assumption) ?_
                        rotate_left 1
                        · intro w hSw; (try dsimp only at hSw); go_simp <;> with_reducible rfl
                        try simp only [Act.put, List.setIfInBounds_toArray, List.set_cons_zero, List.set_cons_succ]
                        refine wpAnyH_take (i := 11) (oi := { dst := some 110, op := Op.move (Operand.tmp 9), type := 3, pos := "law.go:87", after := #[{ on := 8, ground := Ground.guard }], guard := some (8, false) }) (v := ?_) rfl (by kernel_rfl) (by kernel_rfl) (by kernel_rfl) (fun _ _ _ h => h) (Or.inl ⟨by rfl, ?_⟩) (by assumption) ?_
                        rotate_left 1
                        · intro w hSw; (try dsimp only at hSw); go_simp <;> with_reducible rfl
                        try simp only [Act.put, List.setIfInBounds_toArray, List.set_cons_zero, List.set_cons_succ]
                        refine wpAnyH_take (i := 12) (oi := { dst := some 111, op := Op.convert 3 5 (Operand.tmp 110), type := 5, pos := "law.go:87", after := #[{ on := 11, ground := Ground.data }, { on := 8, ground := Ground.guard }], guard := some (8, false) }) (v := ?_) rfl (by kernel_rfl) (by kernel_rfl) (by kernel_rfl) (fun _ _ _ h => h) (Or.inl ⟨by rfl, ?_⟩) (by assumption) ?_
                        rotate_left 1
                        · intro w hSw; (try dsimp only at hSw); go_simp <;> with_reducible rfl
                        try simp only [Act.put, List.setIfInBounds_toArray, List.set_cons_zero, List.set_cons_succ]
                        refine wpAnyH_take (i := 15) (oi := { dst := some 114, op := Op.build 27 #[], type := 27, pos := "law.go:87", after := #[{ on := 8, ground := Ground.guard }], guard := some (8, false) }) (v := ?_) rfl (by kernel_rfl) (by kernel_rfl) (by kernel_rfl) (fun _ _ _ h => h) (Or.inl ⟨by rfl, ?_⟩) (by assumption) ?_
                        rotate_left 1
                        · intro w hSw; (try dsimp only at hSw); go_simp <;> with_reducible rfl
                        try simp only [Act.put, List.setIfInBounds_toArray, List.set_cons_zero, List.set_cons_succ]
                        refine wpAnyH_take (i := 16) (oi := { dst := some 115, op := Op.move (Operand.tmp 9), type := 3, pos := "law.go:87", after := #[{ on := 8, ground := Ground.guard }], guard := some (8, false) }) (v := ?_) rfl (by kernel_rfl) (by kernel_rfl) (by kernel_rfl) (fun _ _ _ h => h) (Or.inl ⟨by rfl, ?_⟩) (by assumption) ?_
                        rotate_left 1
                        · intro w hSw; (try dsimp only at hSw); go_simp <;> with_reducible rfl
                        try simp only [Act.put, List.setIfInBounds_toArray, List.set_cons_zero, List.set_cons_succ]
                        refine wpAnyH_ready (rs := [13]) (by kernel_rfl) (by simp) ?_
                        refine AllReadyH.cons (o := { dst := some 112, op := Op.buildSlice 35 2 #[(0, Operand.tmp 109), (1, Operand.tmp 111)], type := 35, pos := "law.go:87", after := #[{ on := 10, ground := Ground.data }, { on := 12, ground := Ground.data }, { on := 8, ground := Ground.guard }], guard := some (8, false) }) rfl (fun K9 hK => ?_) ?_
                        · go_simp
                          have hv2 := Lib.hid (by2_new y4 (o : Int) (a : Int) hob hab)
                          replace hS := Lib.hid (hS.out.up ((Below.refl y4.heap.size y4).alloc (Nat.le_refl _) (.cells #[.int .u8 (o : Int), .int .u8 (a : Int)] 5)))
                          generalize hgy : y4.alloc (.cells #[.int .u8 (o : Int), .int .u8 (a : Int)] 5) = y5 at *
                          clear hgy
                          generalize y4.heap.size = b5 at *
                          refine hK.out _ _ ?_ ?_
                          · (try dsimp only); exact hS.out
                          clear hK K9 hHeld; intro hHeld
                          try simp only [Act.put, List.setIfInBounds_toArray, List.set_cons_zero, List.set_cons_succ]
                          refine wpAnyH_take (i := 14) (oi := { dst := some 113, op := Op.build 37 #[(0, Operand.const (Value.int IntKind.i64 1)), (3, Operand.tmp 112)], type := 37, pos := "law.go:87", after := #[{ on := 13, ground := Ground.data }, { on := 8, ground := Ground.guard }], guard := some (8, false) }) (v := ?_) rfl (by kernel_rfl) (by kernel_rfl) (by kernel_rfl) (fun _ _ _ h => h) (Or.inl ⟨by rfl, ?_⟩) (by assumption) ?_
                          rotate_left 1
                          · intro w hSw; (try dsimp only at hSw); go_simp <;> with_reducible rfl
                          try simp only [Act.put, List.setIfInBounds_toArray, List.set_cons_zero, List.set_cons_succ]
                          refine wpAnyH_ready (rs := [17]) (by kernel_rfl) (by simp) ?_
                          refine AllReadyH.cons (o := { dst := some 116, op := Op.call { callee := Callee.value (Operand.func 10), args := #[Operand.tmp 113, Operand.tmp 114, Operand.tmp 115], argTypes := #[37, 27, 3] }, type := 4, pos := "law.go:87", after := #[{ on := 14, ground := Ground.data }, { on := 15, ground := Ground.data }, { on := 16, ground := Ground.data }, { on := 8, ground := Ground.chain }, { on := 8, ground := Ground.guard }], guard := some (8, false) }) rfl (fun K9 hK => ?_) ?_
                          · go_simp
                            with_reducible refine (same_c K (MeV.of (PrV.nil _) hv2.out in64_1 in64_z) (UnK.zero _) (a : Int) ha64).mono ?_
                            rintro e y6 ⟨rfl, hb⟩
                            replace hS := Lib.hid (hS.out.up hb)
                            clear hb
                            go_wp2_with fail
                            refine hK.out _ _ ?_ ?_
                            · (try dsimp only); exact hS.out
                            clear hK K9 hHeld; intro hHeld
                            try simp only [Act.put, List.setIfInBounds_toArray, List.set_cons_zero, List.set_cons_succ]
                            refine wpAnyH_take (i := 18) (oi := { dst := some 117, op := Op.unOp UnOp.not 4 (Operand.tmp 116), type := 4, pos := "law.go:87", after := #[{ on := 17, ground := Ground.data }, { on := 8, ground := Ground.guard }], guard := some (8, false) }) (v := ?_) rfl (by kernel_rfl) (by kernel_rfl) (by kernel_rfl) (fun _ _ _ h => h) (Or.inl ⟨by rfl, ?_⟩) (by assumption) ?_
                            rotate_left 1
                            · intro w hSw; (try dsimp only at hSw); go_simp <;> with_reducible rfl
                            try simp only [Act.put, List.setIfInBounds_toArray, List.set_cons_zero, List.set_cons_succ]
                            refine wpAnyH_take (i := 19) (oi := { dst := some 118, op := Op.pick (Operand.tmp 107) (Operand.const (Value.bool true)) (Operand.tmp 117), type := 4, pos := "law.go:87", after := #[{ on := 8, ground := Ground.data }, { on := 18, ground := Ground.data }], guard := none }) (v := ?_) rfl (by kernel_rfl) (by kernel_rfl) (by kernel_rfl) (fun _ _ _ h => h) (Or.inl ⟨by rfl, ?_⟩) (by assumption) ?_
                            rotate_left 1
                            · intro w hSw; (try dsimp only at hSw); go_simp <;> with_reducible rfl
                            try simp only [Act.put, List.setIfInBounds_toArray, List.set_cons_zero, List.set_cons_succ]
                            refine wpAnyH_done (by kernel_rfl) ?_ _
                            go_wp2_with fail
                            go_meet
                            exact ⟨rfl, Lib.hid hS.out.bel⟩
                          exact AllReadyH.nil
                        exact AllReadyH.nil
                      exact AllReadyH.nil
                    exact AllReadyH.nil
                  refine AllReadyH.cons (o := { dst := some 102, op := Op.makeSlice 24 (Operand.const (Value.int IntKind.i64 1)) (Operand.const (Value.int IntKind.i64 1)), type := 24, pos := "law.go:87", after := #[], guard := none }) rfl (fun K9 hK => ?_) ?_
                  · go_simp
                    have hn3 := Lib.hid (mt_new y1)
                    have hba := (Below.refl y1.heap.size y1).alloc (Nat.le_refl _) mtO
                    replace hS := Lib.hid (hS.out.up hba)
                    replace hn1 := Lib.hid (hn1.out.up hba)
                    clear hba
                    generalize hgy : y1.alloc mtO = y2 at *
                    clear hgy
                    generalize y1.heap.size = bm at *
                    refine hK.out _ _ ?_ ?_
                    · (try dsimp only); exact hS.out
                    clear hK K9 hHeld; intro hHeld
                    try simp only [Act.put, List.setIfInBounds_toArray, List.set_cons_zero, List.set_cons_succ]
                    refine wpAnyH_ready (rs := [2]) (by kernel_rfl) (by simp) ?_
                    refine AllReadyH.cons (o := { dst := some 101, op := Op.makeSlice 23 (Operand.const (Value.int IntKind.i64 3)) (Operand.const (Value.int IntKind.i64 3)), type := 23, pos := "law.go:87", after := #[], guard := none }) rfl (fun K9 hK => ?_) ?_
                    · go_simp
                      have hn2 := Lib.hid (cl_new y2)
                      have hba := (Below.refl y2.heap.size y2).alloc (Nat.le_refl _) clO
                      replace hS := Lib.hid (hS.out.up hba)
                      replace hn1 := Lib.hid (hn1.out.up hba)
                      replace hn3 := Lib.hid (hn3.out.up hba)
                      clear hba
                      generalize hgy : y2.alloc clO = y3 at *
                      clear hgy
                      generalize y2.heap.size = bc at *
                      refine hK.out _ _ ?_ ?_
                      · (try dsimp only); exact hS.out
                      clear hK K9 hHeld; intro hHeld
                      try simp only [Act.put, List.setIfInBounds_toArray, List.set_cons_zero, List.set_cons_succ]
                      refine wpAnyH_take (i := 4) (oi := { dst := some 103, op := Op.build 27 #[(0, Operand.tmp 100), (1, Operand.tmp 101), (2, Operand.tmp 102)], type := 27, pos := "law.go:87", after := #[{ on := 1, ground := Ground.data }, { on := 2, ground := Ground.data }, { on := 3, ground := Ground.data }], guard := none }) (v := ?_) rfl (by kernel_rfl) (by kernel_rfl) (by kernel_rfl) (fun _ _ _ h => h) (Or.inl ⟨by rfl, ?_⟩) (by assumption) ?_
                      rotate_left 1
                      · intro w hSw; (try dsimp only at hSw); go_simp <;> with_reducible rfl
                      try simp only [Act.put, List.setIfInBounds_toArray, List.set_cons_zero, List.set_cons_succ]
                      refine wpAnyH_ready (rs := [6]) (by kernel_rfl) (by simp) ?_
                      refine AllReadyH.cons (o := { dst := some 105, op := Op.call { callee := Callee.value (Operand.func 10), args := #[Operand.tmp 99, Operand.tmp 103, Operand.tmp 104], argTypes := #[37, 27, 3] }, type := 4, pos := "law.go:87", after := #[{ on := 0, ground := Ground.data }, { on := 4, ground := Ground.data }, { on := 5, ground := Ground.data }], guard := none }) rfl (fun K9 hK => ?_) ?_
                      · go_simp
                        with_reducible refine (same_c K hS.out.bM.me (un_new hn1.out hn2.out hn3.out) (o : Int) ho64).mono ?_
                        rintro e y4 ⟨rfl, hb⟩
                        replace hS := Lib.hid (hS.out.up hb)
                        clear hb
                        go_wp2_with fail
                        refine hK.out _ _ ?_ ?_
                        · (try dsimp only); exact hS.out
                        clear hK K9 hHeld; intro hHeld
                        try simp only [Act.put, List.setIfInBounds_toArray, List.set_cons_zero, List.set_cons_succ]
                        refine wpAnyH_take (i := 7) (oi := { dst := some 106, op := Op.unOp UnOp.not 4 (Operand.tmp 105), type := 4, pos := "law.go:87", after := #[{ on := 6, ground := Ground.data }], guard := none }) (v := ?_) rfl (by kernel_rfl) (by kernel_rfl) (by kernel_rfl) (fun _ _ _ h => h) (Or.inl ⟨by rfl, ?_⟩) (by assumption) ?_
                        rotate_left 1
                        · intro w hSw; (try dsimp only at hSw); go_simp <;> with_reducible rfl
                        try simp only [Act.put, List.setIfInBounds_toArray, List.set_cons_zero, List.set_cons_succ]
                        refine wpAnyH_take (i := 8) (oi := { dst := some 107, op := Op.move (Operand.tmp 106), type := 4, pos := "law.go:87", after := #[{ on := 7, ground := Ground.data }, { on := 6, ground := Ground.chain }], guard := none }) (v := ?_) rfl (by kernel_rfl) (by kernel_rfl) (by kernel_rfl) (fun _ _ _ h => h) (Or.inl ⟨by rfl, ?_⟩) (by assumption) ?_
                        rotate_left 1
                        · intro w hSw; (try dsimp only at hSw); go_simp <;> with_reducible rfl
                        try simp only [Act.put, List.setIfInBounds_toArray, List.set_cons_zero, List.set_cons_succ]
                        refine wpAnyH_take (i := 9) (oi := { dst := some 108, op := Op.move (Operand.tmp 8), type := 3, pos := "law.go:87", after := #[{ on := 8, ground := Ground.guard }], guard := some (8, false) }) (v := ?_) rfl (by kernel_rfl) (by kernel_rfl) (by kernel_rfl) (fun _ _ _ h => h) (Or.inl ⟨by rfl, ?_⟩) (by assumption) ?_
                        rotate_left 1
                        · intro w hSw; (try dsimp only at hSw); go_simp <;> with_reducible rfl
                        try simp only [Act.put, List.setIfInBounds_toArray, List.set_cons_zero, List.set_cons_succ]
                        refine wpAnyH_take (i := 10) (oi := { dst := some 109, op := Op.convert 3 5 (Operand.tmp 108), type := 5, pos := "law.go:87", after := #[{ on := 9, ground := Ground.data }, { on := 8, ground := Ground.guard }], guard := some (8, false) }) (v := ?_) rfl (by kernel_rfl) (by kernel_rfl) (by kernel_rfl) (fun _ _ _ h => h) (Or.inl ⟨by rfl, ?_⟩) (by assumption) ?_
                        rotate_left 1
                        · intro w hSw; (try dsimp only at hSw); go_simp <;> with_reducible rfl
                        try simp only [Act.put, List.setIfInBounds_toArray, List.set_cons_zero, List.set_cons_succ]
                        refine wpAnyH_take (i := 11) (oi := { dst := some 110, op := Op.move (Operand.tmp 9), type := 3, pos := "law.go:87", after := #[{ on := 8, ground := Ground.guard }], guard := some (8, false) }) (v := ?_) rfl (by kernel_rfl) (by kernel_rfl) (by kernel_rfl) (fun _ _ _ h => h) (Or.inl ⟨by rfl, ?_⟩) (by assumption) ?_
                        rotate_left 1
                        · intro w hSw; (try dsimp only at hSw); go_simp <;> with_reducible rfl
                        try simp only [Act.put, List.setIfInBounds_toArray, List.set_cons_zero, List.set_cons_succ]
                        refine wpAnyH_take (i := 12) (oi := { dst := some 111, op := Op.convert 3 5 (Operand.tmp 110), type := 5, pos := "law.go:87", after := #[{ on := 11, ground := Ground.data }, { on := 8, ground := Ground.guard }], guard := some (8, false) }) (v := ?_) rfl (by kernel_rfl) (by kernel_rfl) (by kernel_rfl) (fun _ _ _ h => h) (Or.inl ⟨by rfl, ?_⟩) (by assumption) ?_
                        rotate_left 1
                        · intro w hSw; (try dsimp only at hSw); go_simp <;> with_reducible rfl
                        try simp only [Act.put, List.setIfInBounds_toArray, List.set_cons_zero, List.set_cons_succ]
                        refine wpAnyH_take (i := 15) (oi := { dst := some 114, op := Op.build 27 #[], type := 27, pos := "law.go:87", after := #[{ on := 8, ground := Ground.guard }], guard := some (8, false) }) (v := ?_) rfl (by kernel_rfl) (by kernel_rfl) (by kernel_rfl) (fun _ _ _ h => h) (Or.inl ⟨by rfl, ?_⟩) (by assumption) ?_
                        rotate_left 1
                        · intro w hSw; (try dsimp only at hSw); go_simp <;> with_reducible rfl
                        try simp only [Act.put, List.setIfInBounds_toArray, List.set_cons_zero, List.set_cons_succ]
                        refine wpAnyH_take (i := 16) (oi := { dst := some 115, op := Op.move (Operand.tmp 9), type := 3, pos := "law.go:87", after := #[{ on := 8, ground := Ground.guard }], guard := some (8, false) }) (v := ?_) rfl (by kernel_rfl) (by kernel_rfl) (by kernel_rfl) (fun _ _ _ h => h) (Or.inl ⟨by rfl, ?_⟩) (by assumption) ?_
                        rotate_left 1
                        · intro w hSw; (try dsimp only at hSw); go_simp <;> with_reducible rfl
                        try simp only [Act.put, List.setIfInBounds_toArray, List.set_cons_zero, List.set_cons_succ]
                        refine wpAnyH_ready (rs := [13]) (by kernel_rfl) (by simp) ?_
                        refine AllReadyH.cons (o := { dst := some 112, op := Op.buildSlice 35 2 #[(0, Operand.tmp 109), (1, Operand.tmp 111)], type := 35, pos := "law.go:87", after := #[{ on := 10, ground := Ground.data }, { on := 12, ground := Ground.data }, { on := 8, ground := Ground.guard }], guard := some (8, false) }) rfl (fun K9 hK => ?_) ?_
                        · go_simp
                          have hv2 := Lib.hid (by2_new y4 (o : Int) (a : Int) hob hab)
                          replace hS := Lib.hid (hS.out.up ((Below.refl y4.heap.size y4).alloc (Nat.le_refl _) (.cells #[.int .u8 (o : Int), .int .u8 (a : Int)] 5)))
                          generalize hgy : y4.alloc (.cells #[.int .u8 (o : Int), .int .u8 (a : Int)] 5) = y5 at *
                          clear hgy
                          generalize y4.heap.size = b5 at *
                          refine hK.out _ _ ?_ ?_
                          · (try dsimp only); exact hS.out
                          clear hK K9 hHeld; intro hHeld
                          try simp only [Act.put, List.setIfInBounds_toArray, List.set_cons_zero, List.set_cons_succ]
                          refine wpAnyH_take (i := 14) (oi := { dst := some 113, op := Op.build 37 #[(0, Operand.const (Value.int IntKind.i64 1)), (3, Operand.tmp 112)], type := 37, pos := "law.go:87", after := #[{ on := 13, ground := Ground.data }, { on := 8, ground := Ground.guard }], guard := some (8, false) }) (v := ?_) rfl (by kernel_rfl) (by kernel_rfl) (by kernel_rfl) (fun _ _ _ h => h) (Or.inl ⟨by rfl, ?_⟩) (by assumption) ?_
                          rotate_left 1
                          · intro w hSw; (try dsimp only at hSw); go_simp <;> with_reducible rfl
                          try simp only [Act.put, List.setIfInBounds_toArray, List.set_cons_zero, List.set_cons_succ]
                          refine wpAnyH_ready (rs := [17]) (by kernel_rfl) (by simp) ?_
                          refine AllReadyH.cons (o := { dst := some 116, op := Op.call { callee := Callee.value (Operand.func 10), args := #[Operand.tmp 113, Operand.tmp 114, Operand.tmp 115], argTypes := #[37, 27, 3] }, type := 4, pos := "law.go:87", after := #[{ on := 14, ground := Ground.data }, { on := 15, ground := Ground.data }, { on := 16, ground := Ground.data }, { on := 8, ground := Ground.chain }, { on := 8, ground := Ground.guard }], guard := some (8, false) }) rfl (fun K9 hK => ?_) ?_
                          · go_simp
                            with_reducible refine (same_c K (MeV.of (PrV.nil _) hv2.out in64_1 in64_z) (UnK.zero _) (a : Int) ha64).mono ?_
                            rintro e y6 ⟨rfl, hb⟩
                            replace hS := Lib.hid (hS.out.up hb)
                            clear hb
                            go_wp2_with fail
                            refine hK.out _ _ ?_ ?_
                            · (try dsimp only); exact hS.out
                            clear hK K9 hHeld; intro hHeld
                            try simp only [Act.put, List.setIfInBounds_toArray, List.set_cons_zero, List.set_cons_succ]
                            refine wpAnyH_take (i := 18) (oi := { dst := some 117, op := Op.unOp UnOp.not 4 (Operand.tmp 116), type := 4, pos := "law.go:87", after := #[{ on := 17, ground := Ground.data }, { on := 8, ground := Ground.guard }], guard := some (8, false) }) (v := ?_) rfl (by kernel_rfl) (by kernel_rfl) (by kernel_rfl) (fun _ _ _ h => h) (Or.inl ⟨by rfl, ?_⟩) (by assumption) ?_
                            rotate_left 1
                            · intro w hSw; (try dsimp only at hSw); go_simp <;> with_reducible rfl
                            try simp only [Act.put, List.setIfInBounds_toArray, List.set_cons_zero, List.set_cons_succ]
                            refine wpAnyH_take (i := 19) (oi := { dst := some 118, op := Op.pick (Operand.tmp 107) (Operand.const (Value.bool true)) (Operand.tmp 117), type := 4, pos := "law.go:87", after := #[{ on := 8, ground := Ground.data }, { on := 18, ground := Ground.data }], guard := none }) (v := ?_) rfl (by kernel_rfl) (by kernel_rfl) (by kernel_rfl) (fun _ _ _ h => h) (Or.inl ⟨by rfl, ?_⟩) (by assumption) ?_
                            rotate_left 1
                            · intro w hSw; (try dsimp only at hSw); go_simp <;> with_reducible rfl
                            try simp only [Act.put, List.setIfInBounds_toArray, List.set_cons_zero, List.set_cons_succ]
                            refine wpAnyH_done (by kernel_rfl) ?_ _
                            go_wp2_with fail
                            go_meet
                            exact ⟨rfl, Lib.hid hS.out.bel⟩
                          exact AllReadyH.nil
                        exact AllReadyH.nil
                      exact AllReadyH.nil
                    exact AllReadyH.nil
                  exact AllReadyH.nil
                refine AllReadyH.cons (o := { dst := some 101, op := Op.makeSlice 23 (Operand.const (Value.int IntKind.i64 3)) (Operand.const (Value.int IntKind.i64 3)), type := 23, pos := "law.go:87", after := #[], guard := none }) rfl (fun K9 hK => ?_) ?_
                · go_simp
                  have hn2 := Lib.hid ((cl_new W5).up ((Below.refl _ _).drew))
                  replace hS := Lib.hid ((hS5.out.up ((Below.refl W5.heap.size W5).alloc (Nat.le_refl _) clO)).up ((Below.refl _ _).drew))
                  generalize hgy : (W5.alloc clO).drew = y1 at *
                  clear hgy
                  generalize W5.heap.size = bc at *
                  refine hK.out _ _ ?_ ?_
                  · (try dsimp only); exact hS.out
                  clear hK K9 hHeld; intro hHeld
                  try simp only [Act.put, List.setIfInBounds_toArray, List.set_cons_zero, List.set_cons_succ]
                  refine wpAnyH_ready (rs := [1, 3]) (by kernel_rfl) (by simp) ?_
                  refine AllReadyH.cons (o := { dst := some 100, op := Op.buildSlice 22 1 #[(0, Operand.const (Value.string { data := #[120] }))], type := 22, pos := "law.go:87", after := #[], guard := none }) rfl (fun K9 hK => ?_) ?_
                  · go_simp
                    have hn1 := Lib.hid (nm_new y1)
                    have hba := (Below.refl y1.heap.size y1).alloc (Nat.le_refl _) nmO
                    replace hS := Lib.hid (hS.out.up hba)
                    replace hn2 := Lib.hid (hn2.out.up hba)
                    clear hba
                    generalize hgy : y1.alloc nmO = y2 at *
                    clear hgy
                    generalize y1.heap.size = bn at *
                    refine hK.out _ _ ?_ ?_
                    · (try dsimp only); exact hS.out
                    clear hK K9 hHeld; intro hHeld
                    try simp only [Act.put, List.setIfInBounds_toArray, List.set_cons_zero, List.set_cons_succ]
                    refine wpAnyH_ready (rs := [3]) (by kernel_rfl) (by simp) ?_
                    refine AllReadyH.cons (o := { dst := some 102, op := Op.makeSlice 24 (Operand.const (Value.int IntKind.i64 1)) (Operand.const (Value.int IntKind.i64 1)), type := 24, pos := "law.go:87", after := #[], guard := none }) rfl (fun K9 hK => ?_) ?_
                    · go_simp
                      have hn3 := Lib.hid (mt_new y2)
                      have hba := (Below.refl y2.heap.size y2).alloc (Nat.le_refl _) mtO
                      replace hS := Lib.hid (hS.out.up hba)
                      replace hn2 := Lib.hid (hn2.out.up hba)
                      replace hn1 := Lib.hid (hn1.out.up hba)
                      clear hba
                      generalize hgy : y2.alloc mtO = y3 at *
                      clear hgy
                      generalize y2.heap.size = bm at *
                      refine hK.out _ _ ?_ ?_
                      · (try dsimp only); exact hS.out
                      clear hK K9 hHeld; intro hHeld
                      try simp only [Act.put, List.setIfInBounds_toArray, List.set_cons_zero, List.set_cons_succ]
                      refine wpAnyH_take (i := 4) (oi := { dst := some 103, op := Op.build 27 #[(0, Operand.tmp 100), (1, Operand.tmp 101), (2, Operand.tmp 102)], type := 27, pos := "law.go:87", after := #[{ on := 1, ground := Ground.data }, { on := 2, ground := Ground.data }, { on := 3, ground := Ground.data }], guard := none }) (v := ?_) rfl (by kernel_rfl) (by kernel_rfl) (by kernel_rfl) (fun _ _ _ h => h) (Or.inl ⟨by rfl, ?_⟩) (by assumption) ?_
                      rotate_left 1
                      · intro w hSw; (try dsimp only at hSw); go_simp <;> with_reducible rfl
                      try simp only [Act.put, List.setIfInBounds_toArray, List.set_cons_zero, List.set_cons_succ]
                      refine wpAnyH_ready (rs := [6]) (by kernel_rfl) (by simp) ?_
                      refine AllReadyH.cons (o := { dst := some 105, op := Op.call { callee := Callee.value (Operand.func 10), args := #[Operand.tmp 99, Operand.tmp 103, Operand.tmp 104], argTypes := #[37, 27, 3] }, type := 4, pos := "law.go:87", after := #[{ on := 0, ground := Ground.data }, { on := 4, ground := Ground.data }, { on := 5, ground := Ground.data }], guard := none }) rfl (fun K9 hK => ?_) ?_
                      · go_simp
                        with_reducible refine (same_c K hS.out.bM.me (un_new hn1.out hn2.out hn3.out) (o : Int) ho64).mono ?_
                        rintro e y4 ⟨rfl, hb⟩
                        replace hS := Lib.hid (hS.out.up hb)
                        clear hb
                        go_wp2_with fail
                        refine hK.out _ _ ?_ ?_
                        · (try dsimp only); exact hS.out
                        clear hK K9 hHeld; intro hHeld
                        try simp only [Act.put, List.setIfInBounds_toArray, List.set_cons_zero, List.set_cons_succ]
                        refine wpAnyH_take (i := 7) (oi := { dst := some 106, op := Op.unOp UnOp.not 4 (Operand.tmp 105), type := 4, pos := "law.go:87", after := #[{ on := 6, ground := Ground.data }], guard := none }) (v := ?_) rfl (by kernel_rfl) (by kernel_rfl) (by kernel_rfl) (fun _ _ _ h => h) (Or.inl ⟨by rfl, ?_⟩) (by assumption) ?_
                        rotate_left 1
                        · intro w hSw; (try dsimp only at hSw); go_simp <;> with_reducible rfl
                        try simp only [Act.put, List.setIfInBounds_toArray, List.set_cons_zero, List.set_cons_succ]
                        refine wpAnyH_take (i := 8) (oi := { dst := some 107, op := Op.move (Operand.tmp 106), type := 4, pos := "law.go:87", after := #[{ on := 7, ground := Ground.data }, { on := 6, ground := Ground.chain }], guard := none }) (v := ?_) rfl (by kernel_rfl) (by kernel_rfl) (by kernel_rfl) (fun _ _ _ h => h) (Or.inl ⟨by rfl, ?_⟩) (by assumption) ?_
                        rotate_left 1
                        · intro w hSw; (try dsimp only at hSw); go_simp <;> with_reducible rfl
                        try simp only [Act.put, List.setIfInBounds_toArray, List.set_cons_zero, List.set_cons_succ]
                        refine wpAnyH_take (i := 9) (oi := { dst := some 108, op := Op.move (Operand.tmp 8), type := 3, pos := "law.go:87", after := #[{ on := 8, ground := Ground.guard }], guard := some (8, false) }) (v := ?_) rfl (by kernel_rfl) (by kernel_rfl) (by kernel_rfl) (fun _ _ _ h => h) (Or.inl ⟨by rfl, ?_⟩) (by assumption) ?_
                        rotate_left 1
                        · intro w hSw; (try dsimp only at hSw); go_simp <;> with_reducible rfl
                        try simp only [Act.put, List.setIfInBounds_toArray, List.set_cons_zero, List.set_cons_succ]
                        refine wpAnyH_take (i := 10) (oi := { dst := some 109, op := Op.convert 3 5 (Operand.tmp 108), type := 5, pos := "law.go:87", after := #[{ on := 9, ground := Ground.data }, { on := 8, ground := Ground.guard }], guard := some (8, false) }) (v := ?_) rfl (by kernel_rfl) (by kernel_rfl) (by kernel_rfl) (fun _ _ _ h => h) (Or.inl ⟨by rfl, ?_⟩) (by assumption) ?_
                        rotate_left 1
                        · intro w hSw; (try dsimp only at hSw); go_simp <;> with_reducible rfl
                        try simp only [Act.put, List.setIfInBounds_toArray, List.set_cons_zero, List.set_cons_succ]
                        refine wpAnyH_take (i := 11) (oi := { dst := some 110, op := Op.move (Operand.tmp 9), type := 3, pos := "law.go:87", after := #[{ on := 8, ground := Ground.guard }], guard := some (8, false) }) (v := ?_) rfl (by kernel_rfl) (by kernel_rfl) (by kernel_rfl) (fun _ _ _ h => h) (Or.inl ⟨by rfl, ?_⟩) (by assumption) ?_
                        rotate_left 1
                        · intro w hSw; (try dsimp only at hSw); go_simp <;> with_reducible rfl
                        try simp only [Act.put, List.setIfInBounds_toArray, List.set_cons_zero, List.set_cons_succ]
                        refine wpAnyH_take (i := 12) (oi := { dst := some 111, op := Op.convert 3 5 (Operand.tmp 110), type := 5, pos := "law.go:87", after := #[{ on := 11, ground := Ground.data }, { on := 8, ground := Ground.guard }], guard := some (8, false) }) (v := ?_) rfl (by kernel_rfl) (by kernel_rfl) (by kernel_rfl) (fun _ _ _ h => h) (Or.inl ⟨by rfl, ?_⟩) (by assumption) ?_
                        rotate_left 1
                        · intro w hSw; (try dsimp only at hSw); go_simp <;> with_reducible rfl
                        try simp only [Act.put, List.setIfInBounds_toArray, List.set_cons_zero, List.set_cons_succ]
                        refine wpAnyH_take (i := 15) (oi := { dst := some 114, op := Op.build 27 #[], type := 27, pos := "law.go:87", after := #[{ on := 8, ground := Ground.guard }], guard := some (8, false) }) (v := ?_) rfl (by kernel_rfl) (by kernel_rfl) (by kernel_rfl) (fun _ _ _ h => h) (Or.inl ⟨by rfl, ?_⟩) (by assumption) ?_
                        rotate_left 1
                        · intro w hSw; (try dsimp only at hSw); go_simp <;> with_reducible rfl
                        try simp only [Act.put, List.setIfInBounds_toArray, List.set_cons_zero, List.set_cons_succ]
                        refine wpAnyH_take (i := 16) (oi := { dst := some 115, op := Op.move (Operand.tmp 9), type := 3, pos := "law.go:87", after := #[{ on := 8, ground := Ground.guard }], guard := some (8, false) }) (v := ?_) rfl (by kernel_rfl) (by kernel_rfl) (by kernel_rfl) (fun _ _ _ h => h) (Or.inl ⟨by rfl, ?_⟩) (by assumption) ?_
                        rotate_left 1
                        · intro w hSw; (try dsimp only at hSw); go_simp <;> with_reducible rfl
                        try simp only [Act.put, List.setIfInBounds_toArray, List.set_cons_zero, List.set_cons_succ]
                        refine wpAnyH_ready (rs := [13]) (by kernel_rfl) (by simp) ?_
                        refine AllReadyH.cons (o := { dst := some 112, op := Op.buildSlice 35 2 #[(0, Operand.tmp 109), (1, Operand.tmp 111)], type := 35, pos := "law.go:87", after := #[{ on := 10, ground := Ground.data }, { on := 12, ground := Ground.data }, { on := 8, ground := Ground.guard }], guard := some (8, false) }) rfl (fun K9 hK => ?_) ?_
                        · go_simp
                          have hv2 := Lib.hid (by2_new y4 (o : Int) (a : Int) hob hab)
                          replace hS := Lib.hid (hS.out.up ((Below.refl y4.heap.size y4).alloc (Nat.le_refl _) (.cells #[.int .u8 (o : Int), .int .u8 (a : Int)] 5)))
                          generalize hgy : y4.alloc (.cells #[.int .u8 (o : Int), .int .u8 (a : Int)] 5) = y5 at *
                          clear hgy
                          generalize y4.heap.size = b5 at *
                          refine hK.out _ _ ?_ ?_
                          · (try dsimp only); exact hS.out
                          clear hK K9 hHeld; intro hHeld
                          try simp only [Act.put, List.setIfInBounds_toArray, List.set_cons_zero, List.set_cons_succ]
                          refine wpAnyH_take (i := 14) (oi := { dst := some 113, op := Op.build 37 #[(0, Operand.const (Value.int IntKind.i64 1)), (3, Operand.tmp 112)], type := 37, pos := "law.go:87", after := #[{ on := 13, ground := Ground.data }, { on := 8, ground := Ground.guard }], guard := some (8, false) }) (v := ?_) rfl (by kernel_rfl) (by kernel_rfl) (by kernel_rfl) (fun _ _ _ h => h) (Or.inl ⟨by rfl, ?_⟩) (by assumption) ?_
                          rotate_left 1
                          · intro w hSw; (try dsimp only at hSw); go_simp <;> with_reducible rfl
                          try simp only [Act.put, List.setIfInBounds_toArray, List.set_cons_zero, List.set_cons_succ]
                          refine wpAnyH_ready (rs := [17]) (by kernel_rfl) (by simp) ?_
                          refine AllReadyH.cons (o := { dst := some 116, op := Op.call { callee := Callee.value (Operand.func 10), args := #[Operand.tmp 113, Operand.tmp 114, Operand.tmp 115], argTypes := #[37, 27, 3] }, type := 4, pos := "law.go:87", after := #[{ on := 14, ground := Ground.data }, { on := 15, ground := Ground.data }, { on := 16, ground := Ground.data }, { on := 8, ground := Ground.chain }, { on := 8, ground := Ground.guard }], guard := some (8, false) }) rfl (fun K9 hK => ?_) ?_
                          · go_simp
                            with_reducible refine (same_c K (MeV.of (PrV.nil _) hv2.out in64_1 in64_z) (UnK.zero _) (a : Int) ha64).mono ?_
                            rintro e y6 ⟨rfl, hb⟩
                            replace hS := Lib.hid (hS.out.up hb)
                            clear hb
                            go_wp2_with fail
                            refine hK.out _ _ ?_ ?_
                            · (try dsimp only); exact hS.out
                            clear hK K9 hHeld; intro hHeld
                            try simp only [Act.put, List.setIfInBounds_toArray, List.set_cons_zero, List.set_cons_succ]
                            refine wpAnyH_take (i := 18) (oi := { dst := some 117, op := Op.unOp UnOp.not 4 (Operand.tmp 116), type := 4, pos := "law.go:87", after := #[{ on := 17, ground := Ground.data }, { on := 8, ground := Ground.guard }], guard := some (8, false) }) (v := ?_) rfl (by kernel_rfl) (by kernel_rfl) (by kernel_rfl) (fun _ _ _ h => h) (Or.inl ⟨by rfl, ?_⟩) (by assumption) ?_
                            rotate_left 1
                            · intro w hSw; (try dsimp only at hSw); go_simp <;> with_reducible rfl
                            try simp only [Act.put, List.setIfInBounds_toArray, List.set_cons_zero, List.set_cons_succ]
                            refine wpAnyH_take (i := 19) (oi := { dst := some 118, op := Op.pick (Operand.tmp 107) (Operand.const (Value.bool true)) (Operand.tmp 117), type := 4, pos := "law.go:87", after := #[{ on := 8, ground := Ground.data }, { on := 18, ground := Ground.data }], guard := none }) (v := ?_) rfl (by kernel_rfl) (by kernel_rfl) (by kernel_rfl) (fun _ _ _ h => h) (Or.inl ⟨by rfl, ?_⟩) (by assumption) ?_
                            rotate_left 1
                            · intro w hSw; (try dsimp only at hSw); go_simp <;> with_reducible rfl
                            try simp only [Act.put, List.setIfInBounds_toArray, List.set_cons_zero, List.set_cons_succ]
                            refine wpAnyH_done (by kernel_rfl) ?_ _
                            go_wp2_with fail
                            go_meet
                            exact ⟨rfl, Lib.hid hS.out.bel⟩
                          exact AllReadyH.nil
                        exact AllReadyH.nil
                      exact AllReadyH.nil
                    exact AllReadyH.nil
                  refine AllReadyH.cons (o := { dst := some 102, op := Op.makeSlice 24 (Operand.const (Value.int IntKind.i64 1)) (Operand.const (Value.int IntKind.i64 1)), type := 24, pos := "law.go:87", after := #[], guard := none }) rfl (fun K9 hK => ?_) ?_
                  · go_simp
                    have hn3 := Lib.hid (mt_new y1)
                    have hba := (Below.refl y1.heap.size y1).alloc (Nat.le_refl _) mtO
                    replace hS := Lib.hid (hS.out.up hba)
                    replace hn2 := Lib.hid (hn2.out.up hba)
                    clear hba
                    generalize hgy : y1.alloc mtO = y2 at *
                    clear hgy
                    generalize y1.heap.size = bm at *
                    refine hK.out _ _ ?_ ?_
                    · (try dsimp only); exact hS.out
                    clear hK K9 hHeld; intro hHeld
                    try simp only [Act.put, List.setIfInBounds_toArray, List.set_cons_zero, List.set_cons_succ]
                    refine wpAnyH_ready (rs := [1]) (by kernel_rfl) (by simp) ?_
                    refine AllReadyH.cons (o := { dst := some 100, op := Op.buildSlice 22 1 #[(0, Operand.const (Value.string { data := #[120] }))], type := 22, pos := "law.go:87", after := #[], guard := none }) rfl (fun K9 hK => ?_) ?_
                    · go_simp
                      have hn1 := Lib.hid (nm_new y2)
                      have hba := (Below.refl y2.heap.size y2).alloc (Nat.le_refl _) nmO
                      replace hS := Lib.hid (hS.out.up hba)
                      replace hn2 := Lib.hid (hn2.out.up hba)
                      replace hn3 := Lib.hid (hn3.out.up hba)
                      clear hba
                      generalize hgy : y2.alloc nmO = y3 at *
                      clear hgy
                      generalize y2.heap.size = bn at *
                      refine hK.out _ _ ?_ ?_
                      · (try dsimp only); exact hS.out
                      clear hK K9 hHeld; intro hHeld
                      try simp only [Act.put, List.setIfInBounds_toArray, List.set_cons_zero, List.set_cons_succ]
                      refine wpAnyH_take (i := 4) (oi := { dst := some 103, op := Op.build 27 #[(0, Operand.tmp 100), (1, Operand.tmp 101), (2, Operand.tmp 102)], type := 27, pos := "law.go:87", after := #[{ on := 1, ground := Ground.data }, { on := 2, ground := Ground.data }, { on := 3, ground := Ground.data }], guard := none }) (v := ?_) rfl (by kernel_rfl) (by kernel_rfl) (by kernel_rfl) (fun _ _ _ h => h) (Or.inl ⟨by rfl, ?_⟩) (by assumption) ?_
                      rotate_left 1
                      · intro w hSw; (try dsimp only at hSw); go_simp <;> with_reducible rfl
                      try simp only [Act.put, List.setIfInBounds_toArray, List.set_cons_zero, List.set_cons_succ]
                      refine wpAnyH_ready (rs := [6]) (by kernel_rfl) (by simp) ?_
                      refine AllReadyH.cons (o := { dst := some 105, op := Op.call { callee := Callee.value (Operand.func 10), args := #[Operand.tmp 99, Operand.tmp 103, Operand.tmp 104], argTypes := #[37, 27, 3] }, type := 4, pos := "law.go:87", after := #[{ on := 0, ground := Ground.data }, { on := 4, ground := Ground.data }, { on := 5, ground := Ground.data }], guard := none }) rfl (fun K9 hK => ?_) ?_
                      · go_simp
                        with_reducible refine (same_c K hS.out.bM.me (un_new hn1.out hn2.out hn3.out) (o : Int) ho64).mono ?_
                        rintro e y4 ⟨rfl, hb⟩
                        replace hS := Lib.hid (hS.out.up hb)
                        clear hb
                        go_wp2_with fail
                        refine hK.out _ _ ?_ ?_
                        · (try dsimp only); exact hS.out
                        clear hK K9 hHeld; intro hHeld
                        try simp only [Act.put, List.setIfInBounds_toArray, List.set_cons_zero, List.set_cons_succ]
                        refine wpAnyH_take (i := 7) (oi := { dst := some 106, op := Op.unOp UnOp.not 4 (Operand.tmp 105), type := 4, pos := "law.go:87", after := #[{ on := 6, ground := Ground.data }], guard := none }) (v := ?_) rfl (by kernel_rfl) (by kernel_rfl) (by kernel_rfl) (fun _ _ _ h => h) (Or.inl ⟨by rfl, ?_⟩) (by assumption) ?_
                        rotate_left 1
                        · intro w hSw; (try dsimp only at hSw); go_simp <;> with_reducible rfl
                        try simp only [Act.put, List.setIfInBounds_toArray, List.set_cons_zero, List.set_cons_succ]
                        refine wpAnyH_take (i := 8) (oi := { dst := some 107, op := Op.move (Operand.tmp 106), type := 4, pos := "law.go:87", after := #[{ on := 7, ground := Ground.data }, { on := 6, ground := Ground.chain }], guard := none }) (v := ?_) rfl (by kernel_rfl) (by kernel_rfl) (by kernel_rfl) (fun _ _ _ h => h) (Or.inl ⟨by rfl, ?_⟩) (by assumption) ?_
                        rotate_left 1
                        · intro w hSw; (try dsimp only at hSw); go_simp <;> with_reducible rfl
                        try simp only [Act.put, List.setIfInBounds_toArray, List.set_cons_zero, List.set_cons_succ]
                        refine wpAnyH_take (i := 9) (oi := { dst := some 108, op := Op.move (Operand.tmp 8), type := 3, pos := "law.go:87", after := #[{ on := 8, ground := Ground.guard }], guard := some (8, false) }) (v := ?_) rfl (by kernel_rfl) (by kernel_rfl) (by kernel_rfl) (fun _ _ _ h => h) (Or.inl ⟨by rfl, ?_⟩) (by assumption) ?_
                        rotate_left 1
                        · intro w hSw; (try dsimp only at hSw); go_simp <;> with_reducible rfl
                        try simp only [Act.put, List.setIfInBounds_toArray, List.set_cons_zero, List.set_cons_succ]
                        refine wpAnyH_take (i := 10) (oi := { dst := some 109, op := Op.convert 3 5 (Operand.tmp 108), type := 5, pos := "law.go:87", after := #[{ on := 9, ground := Ground.data }, { on := 8, ground := Ground.guard }], guard := some (8, false) }) (v := ?_) rfl (by kernel_rfl) (by kernel_rfl) (by kernel_rfl) (fun _ _ _ h => h) (Or.inl ⟨by rfl, ?_⟩) (by assumption) ?_
                        rotate_left 1
                        · intro w hSw; (try dsimp only at hSw); go_simp <;> with_reducible rfl
                        try simp only [Act.put, List.setIfInBounds_toArray, List.set_cons_zero, List.set_cons_succ]
                        refine wpAnyH_take (i := 11) (oi := { dst := some 110, op := Op.move (Operand.tmp 9), type := 3, pos := "law.go:87", after := #[{ on := 8, ground := Ground.guard }], guard := some (8, false) }) (v := ?_) rfl (by kernel_rfl) (by kernel_rfl) (by kernel_rfl) (fun _ _ _ h => h) (Or.inl ⟨by rfl, ?_⟩) (by assumption) ?_
                        rotate_left 1
                        · intro w hSw; (try dsimp only at hSw); go_simp <;> with_reducible rfl
                        try simp only [Act.put, List.setIfInBounds_toArray, List.set_cons_zero, List.set_cons_succ]
                        refine wpAnyH_take (i := 12) (oi := { dst := some 111, op := Op.convert 3 5 (Operand.tmp 110), type := 5, pos := "law.go:87", after := #[{ on := 11, ground := Ground.data }, { on := 8, ground := Ground.guard }], guard := some (8, false) }) (v := ?_) rfl (by kernel_rfl) (by kernel_rfl) (by kernel_rfl) (fun _ _ _ h => h) (Or.inl ⟨by rfl, ?_⟩) (by assumption) ?_
                        rotate_left 1
                        · intro w hSw; (try dsimp only at hSw); go_simp <;> with_reducible rfl
                        try simp only [Act.put, List.setIfInBounds_toArray, List.set_cons_zero, List.set_cons_succ]
                        refine wpAnyH_take (i := 15) (oi := { dst := some 114, op := Op.build 27 #[], type := 27, pos := "law.go:87", after := #[{ on := 8, ground := Ground.guard }], guard := some (8, false) }) (v := ?_) rfl (by kernel_rfl) (by kernel_rfl) (by kernel_rfl) (fun _ _ _ h => h) (Or.inl ⟨by rfl, ?_⟩) (by assumption) ?_
                        rotate_left 1
                        · intro w hSw; (try dsimp only at hSw); go_simp <;> with_reducible rfl
                        try simp only [Act.put, List.setIfInBounds_toArray, List.set_cons_zero, List.set_cons_succ]
                        refine wpAnyH_take (i := 16) (oi := { dst := some 115, op := Op.move (Operand.tmp 9), type := 3, pos := "law.go:87", after := #[{ on := 8, ground := Ground.guard }], guard := some (8, false) }) (v := ?_) rfl (by kernel_rfl) (by kernel_rfl) (by kernel_rfl) (fun _ _ _ h => h) (Or.inl ⟨by rfl, ?_⟩) (by assumption) ?_
                        rotate_left 1
                        · intro w hSw; (try dsimp only at hSw); go_simp <;> with_reducible rfl
                        try simp only [Act.put, List.setIfInBounds_toArray, List.set_cons_zero, List.set_cons_succ]
                        refine wpAnyH_ready (rs := [13]) (by kernel_rfl) (by simp) ?_
                        refine AllReadyH.cons (o := { dst := some 112, op := Op.buildSlice 35 2 #[(0, Operand.tmp 109), (1, Operand.tmp 111)], type := 35, pos := "law.go:87", after := #[{ on := 10, ground := Ground.data }, { on := 12, ground := Ground.data }, { on := 8, ground := Ground.guard }], guard := some (8, false) }) rfl (fun K9 hK => ?_) ?_
                        · go_simp
                          have hv2 := Lib.hid (by2_new y4 (o : Int) (a : Int) hob hab)
                          replace hS := Lib.hid (hS.out.up ((Below.refl y4.heap.size y4).alloc (Nat.le_refl _) (.cells #[.int .u8 (o : Int), .int .u8 (a : Int)] 5)))
                          generalize hgy : y4.alloc (.cells #[.int .u8 (o : Int), .int .u8 (a : Int)] 5) = y5 at *
                          clear hgy
                          generalize y4.heap.size = b5 at *
                          refine hK.out _ _ ?_ ?_
                          · (try dsimp only); exact hS.out
                          clear hK K9 hHeld; intro hHeld
                          try simp only [Act.put, List.setIfInBounds_toArray, List.set_cons_zero, List.set_cons_succ]
                          refine wpAnyH_take (i := 14) (oi := { dst := some 113, op := Op.build 37 #[(0, Operand.const (Value.int IntKind.i64 1)), (3, Operand.tmp 112)], type := 37, pos := "law.go:87", after := #[{ on := 13, ground := Ground.data }, { on := 8, ground := Ground.guard }], guard := some (8, false) }) (v := ?_) rfl (by kernel_rfl) (by kernel_rfl) (by kernel_rfl) (fun _ _ _ h => h) (Or.inl ⟨by rfl, ?_⟩) (by assumption) ?_
                          rotate_left 1
                          · intro w hSw; (try dsimp only at hSw); go_simp <;> with_reducible rfl
                          try simp only [Act.put, List.setIfInBounds_toArray, List.set_cons_zero, List.set_cons_succ]
                          refine wpAnyH_ready (rs := [17]) (by kernel_rfl) (by simp) ?_
                          refine AllReadyH.cons (o := { dst := some 116, op := Op.call { callee := Callee.value (Operand.func 10), args := #[Operand.tmp 113, Operand.tmp 114, Operand.tmp 115], argTypes := #[37, 27, 3] }, type := 4, pos := "law.go:87", after := #[{ on := 14, ground := Ground.data }, { on := 15, ground := Ground.data }, { on := 16, ground := Ground.data }, { on := 8, ground := Ground.chain }, { on := 8, ground := Ground.guard }], guard := some (8, false) }) rfl (fun K9 hK => ?_) ?_
                          · go_simp
                            with_reducible refine (same_c K (MeV.of (PrV.nil _) hv2.out in64_1 in64_z) (UnK.zero _) (a : Int) ha64).mono ?_
                            rintro e y6 ⟨rfl, hb⟩
                            replace hS := Lib.hid (hS.out.up hb)
                            clear hb
                            go_wp2_with fail
                            refine hK.out _ _ ?_ ?_
                            · (try dsimp only); exact hS.out
                            clear hK K9 hHeld; intro hHeld
                            try simp only [Act.put, List.setIfInBounds_toArray, List.set_cons_zero, List.set_cons_succ]
                            refine wpAnyH_take (i := 18) (oi := { dst := some 117, op := Op.unOp UnOp.not 4 (Operand.tmp 116), type := 4, pos := "law.go:87", after := #[{ on := 17, ground := Ground.data }, { on := 8, ground := Ground.guard }], guard := some (8, false) }) (v := ?_) rfl (by kernel_rfl) (by kernel_rfl) (by kernel_rfl) (fun _ _ _ h => h) (Or.inl ⟨by rfl, ?_⟩) (by assumption) ?_
                            rotate_left 1
                            · intro w hSw; (try dsimp only at hSw); go_simp <;> with_reducible rfl
                            try simp only [Act.put, List.setIfInBounds_toArray, List.set_cons_zero, List.set_cons_succ]
                            refine wpAnyH_take (i := 19) (oi := { dst := some 118, op := Op.pick (Operand.tmp 107) (Operand.const (Value.bool true)) (Operand.tmp 117), type := 4, pos := "law.go:87", after := #[{ on := 8, ground := Ground.data }, { on := 18, ground := Ground.data }], guard := none }) (v := ?_) rfl (by kernel_rfl) (by kernel_rfl) (by kernel_rfl) (fun _ _ _ h => h) (Or.inl ⟨by rfl, ?_⟩) (by assumption) ?_
                            rotate_left 1
                            · intro w hSw; (try dsimp only at hSw); go_simp <;> with_reducible rfl
                            try simp only [Act.put, List.setIfInBounds_toArray, List.set_cons_zero, List.set_cons_succ]
                            refine wpAnyH_done (by kernel_rfl) ?_ _
                            go_wp2_with fail
                            go_meet
                            exact ⟨rfl, Lib.hid hS.out.bel⟩
                          exact AllReadyH.nil
                        exact AllReadyH.nil
                      exact AllReadyH.nil
                    exact AllReadyH.nil
                  exact AllReadyH.nil
                refine AllReadyH.cons (o := { dst := some 102, op := Op.makeSlice 24 (Operand.const (Value.int IntKind.i64 1)) (Operand.const (Value.int IntKind.i64 1)), type := 24, pos := "law.go:87", after := #[], guard := none }) rfl (fun K9 hK => ?_) ?_
                · go_simp
                  have hn3 := Lib.hid ((mt_new W5).up ((Below.refl _ _).drew))
                  replace hS := Lib.hid ((hS5.out.up ((Below.refl W5.heap.size W5).alloc (Nat.le_refl _) mtO)).up ((Below.refl _ _).drew))
                  generalize hgy : (W5.alloc mtO).drew = y1 at *
                  clear hgy
                  generalize W5.heap.size = bm at *
                  refine hK.out _ _ ?_ ?_
                  · (try dsimp only); exact hS.out
                  clear hK K9 hHeld; intro hHeld
                  try simp only [Act.put, List.setIfInBounds_toArray, List.set_cons_zero, List.set_cons_succ]
                  refine wpAnyH_ready (rs := [1, 2]) (by kernel_rfl) (by simp) ?_
                  refine AllReadyH.cons (o := { dst := some 100, op := Op.buildSlice 22 1 #[(0, Operand.const (Value.string { data := #[120] }))], type := 22, pos := "law.go:87", after := #[], guard := none }) rfl (fun K9 hK => ?_) ?_
                  · go_simp
                    have hn1 := Lib.hid (nm_new y1)
                    have hba := (Below.refl y1.heap.size y1).alloc (Nat.le_refl _) nmO
                    replace hS := Lib.hid (hS.out.up hba)
                    replace hn3 := Lib.hid (hn3.out.up hba)
                    clear hba
                    generalize hgy : y1.alloc nmO = y2 at *
                    clear hgy
                    generalize y1.heap.size = bn at *
                    refine hK.out _ _ ?_ ?_
                    · (try dsimp only); exact hS.out
                    clear hK K9 hHeld; intro hHeld
                    try simp only [Act.put, List.setIfInBounds_toArray, List.set_cons_zero, List.set_cons_succ]
                    refine wpAnyH_ready (rs := [2]) (by kernel_rfl) (by simp) ?_
                    refine AllReadyH.cons (o := { dst := some 101, op := Op.makeSlice 23 (Operand.const (Value.int IntKind.i64 3)) (Operand.const (Value.int IntKind.i64 3)), type := 23, pos := "law.go:87", after := #[], guard := none }) rfl (fun K9 hK => ?_) ?_
                    · go_simp
                      have hn2 := Lib.hid (cl_new y2)
                      have hba := (Below.refl y2.heap.size y2).alloc (Nat.le_refl _) clO
                      replace hS := Lib.hid (hS.out.up hba)
                      replace hn3 := Lib.hid (hn3.out.up hba)
                      replace hn1 := Lib.hid (hn1.out.up hba)
                      clear hba
                      generalize hgy : y2.alloc clO = y3 at *
                      clear hgy
                      generalize y2.heap.size = bc at *
                      refine hK.out _ _ ?_ ?_
                      · (try dsimp only); exact hS.out
                      clear hK K9 hHeld; intro hHeld
                      try simp only [Act.put, List.setIfInBounds_toArray, List.set_cons_zero, List.set_cons_succ]
                      refine wpAnyH_take (i := 4) (oi := { dst := some 103, op := Op.build 27 #[(0, Operand.tmp 100), (1, Operand.tmp 101), (2, Operand.tmp 102)], type := 27, pos := "law.go:87", after := #[{ on := 1, ground := Ground.data }, { on := 2, ground := Ground.data }, { on := 3, ground := Ground.data }], guard := none }) (v := ?_) rfl (by kernel_rfl) (by kernel_rfl) (by kernel_rfl) (fun _ _ _ h => h) (Or.inl ⟨by rfl, ?_⟩) (by assumption) ?_
                      rotate_left 1
                      · intro w hSw; (try dsimp only at hSw); go_simp <;> with_reducible rfl
                      try simp only [Act.put, List.setIfInBounds_toArray, List.set_cons_zero, List.set_cons_succ]
                      refine wpAnyH_ready (rs := [6]) (by kernel_rfl) (by simp) ?_
                      refine AllReadyH.cons (o := { dst := some 105, op := Op.call { callee := Callee.value (Operand.func 10), args := #[Operand.tmp 99, Operand.tmp 103, Operand.tmp 104], argTypes := #[37, 27, 3] }, type := 4, pos := "law.go:87", after := #[{ on := 0, ground := Ground.data }, { on := 4, ground := Ground.data }, { on := 5, ground := Ground.data }], guard := none }) rfl (fun K9 hK => ?_) ?_
                      · go_simp
                        with_reducible refine (same_c K hS.out.bM.me (un_new hn1.out hn2.out hn3.out) (o : Int) ho64).mono ?_
                        rintro e y4 ⟨rfl, hb⟩
                        replace hS := Lib.hid (hS.out.up hb)
                        clear hb
                        go_wp2_with fail
                        refine hK.out _ _ ?_ ?_
                        · (try dsimp only); exact hS.out
                        clear hK K9 hHeld; intro hHeld
                        try simp only [Act.put, List.setIfInBounds_toArray, List.set_cons_zero, List.set_cons_succ]
                        refine wpAnyH_take (i := 7) (oi := { dst := some 106, op := Op.unOp UnOp.not 4 (Operand.tmp 105), type := 4, pos := "law.go:87", after := #[{ on := 6, ground := Ground.data }], guard := none }) (v := ?_) rfl (by kernel_rfl) (by kernel_rfl) (by kernel_rfl) (fun _ _ _ h => h) (Or.inl ⟨by rfl, ?_⟩) (by assumption) ?_
                        rotate_left 1
                        · intro w hSw; (try dsimp only at hSw); go_simp <;> with_reducible rfl
                        try simp only [Act.put, List.setIfInBounds_toArray, List.set_cons_zero, List.set_cons_succ]
                        refine wpAnyH_take (i := 8) (oi := { dst := some 107, op := Op.move (Operand.tmp 106), type := 4, pos := "law.go:87", after := #[{ on := 7, ground := Ground.data }, { on := 6, ground := Ground.chain }], guard := none }) (v := ?_) rfl (by kernel_rfl) (by kernel_rfl) (by kernel_rfl) (fun _ _ _ h => h) (Or.inl ⟨by rfl, ?_⟩) (by assumption) ?_
                        rotate_left 1
                        · intro w hSw; (try dsimp only at hSw); go_simp <;> with_reducible rfl
                        try simp only [Act.put, List.setIfInBounds_toArray, List.set_cons_zero, List.set_cons_succ]
                        refine wpAnyH_take (i := 9) (oi := { dst := some 108, op := Op.move (Operand.tmp 8), type := 3, pos := "law.go:87", after := #[{ on := 8, ground := Ground.guard }], guard := some (8, false) }) (v := ?_) rfl (by kernel_rfl) (by kernel_rfl) (by kernel_rfl) (fun _ _ _ h => h) (Or.inl ⟨by rfl, ?_⟩) (by assumption) ?_
                        rotate_left 1
                        · intro w hSw; (try dsimp only at hSw); go_simp <;> with_reducible rfl
                        try simp only [Act.put, List.setIfInBounds_toArray, List.set_cons_zero, List.set_cons_succ]
                        refine wpAnyH_take (i := 10) (oi := { dst := some 109, op := Op.convert 3 5 (Operand.tmp 108), type := 5, pos := "law.go:87", after := #[{ on := 9, ground := Ground.data }, { on := 8, ground := Ground.guard }], guard := some (8, false) }) (v := ?_) rfl (by kernel_rfl) (by kernel_rfl) (by kernel_rfl) (fun _ _ _ h => h) (Or.inl ⟨by rfl, ?_⟩) (by assumption) ?_
                        rotate_left 1
                        · intro w hSw; (try dsimp only at hSw); go_simp <;> with_reducible rfl
                        try simp only [Act.put, List.setIfInBounds_toArray, List.set_cons_zero, List.set_cons_succ]
                        refine wpAnyH_take (i := 11) (oi := { dst := some 110, op := Op.move (Operand.tmp 9), type := 3, pos := "law.go:87", after := #[{ on := 8, ground := Ground.guard }], guard := some (8, false) }) (v := ?_) rfl (by kernel_rfl) (by kernel_rfl) (by kernel_rfl) (fun _ _ _ h => h) (Or.inl ⟨by rfl, ?_⟩) (by assumption) ?_
                        rotate_left 1
                        · intro w hSw; (try dsimp only at hSw); go_simp <;> with_reducible rfl
                        try simp only [Act.put, List.setIfInBounds_toArray, List.set_cons_zero, List.set_cons_succ]
                        refine wpAnyH_take (i := 12) (oi := { dst := some 111, op := Op.convert 3 5 (Operand.tmp 110), type := 5, pos := "law.go:87", after := #[{ on := 11, ground := Ground.data }, { on := 8, ground := Ground.guard }], guard := some (8, false) }) (v := ?_) rfl (by kernel_rfl) (by kernel_rfl) (by kernel_rfl) (fun _ _ _ h => h) (Or.inl ⟨by rfl, ?_⟩) (by assumption) ?_
                        rotate_left 1
                        · intro w hSw; (try dsimp only at hSw); go_simp <;> with_reducible rfl
                        try simp only [Act.put, List.setIfInBounds_toArray, List.set_cons_zero, List.set_cons_succ]
                        refine wpAnyH_take (i := 15) (oi := { dst := some 114, op := Op.build 27 #[], type := 27, pos := "law.go:87", after := #[{ on := 8, ground := Ground.guard }], guard := some (8, false) }) (v := ?_) rfl (by kernel_rfl) (by kernel_rfl) (by kernel_rfl) (fun _ _ _ h => h) (Or.inl ⟨by rfl, ?_⟩) (by assumption) ?_
                        rotate_left 1
                        · intro w hSw; (try dsimp only at hSw); go_simp <;> with_reducible rfl
                        try simp only [Act.put, List.setIfInBounds_toArray, List.set_cons_zero, List.set_cons_succ]
                        refine wpAnyH_take (i := 16) (oi := { dst := some 115, op := Op.move (Operand.tmp 9), type := 3, pos := "law.go:87", after := #[{ on := 8, ground := Ground.guard }], guard := some (8, false) }) (v := ?_) rfl (by kernel_rfl) (by kernel_rfl) (by kernel_rfl) (fun _ _ _ h => h) (Or.inl ⟨by rfl, ?_⟩) (by assumption) ?_
                        rotate_left 1
                        · intro w hSw; (try dsimp only at hSw); go_simp <;> with_reducible rfl
                        try simp only [Act.put, List.setIfInBounds_toArray, List.set_cons_zero, List.set_cons_succ]
                        refine wpAnyH_ready (rs := [13]) (by kernel_rfl) (by simp) ?_
                        refine AllReadyH.cons (o := { dst := some 112, op := Op.buildSlice 35 2 #[(0, Operand.tmp 109), (1, Operand.tmp 111)], type := 35, pos := "law.go:87", after := #[{ on := 10, ground := Ground.data }, { on := 12, ground := Ground.data }, { on := 8, ground := Ground.guard }], guard := some (8, false) }) rfl (fun K9 hK => ?_) ?_
                        · go_simp
                          have hv2 := Lib.hid (by2_new y4 (o : Int) (a : Int) hob hab)
                          replace hS := Lib.hid (hS.out.up ((Below.refl y4.heap.size y4).alloc (Nat.le_refl _) (.cells #[.int .u8 (o : Int), .int .u8 (a : Int)] 5)))
                          generalize hgy : y4.alloc (.cells #[.int .u8 (o : Int), .int .u8 (a : Int)] 5) = y5 at *
                          clear hgy
                          generalize y4.heap.size = b5 at *
                          refine hK.out _ _ ?_ ?_
                          · (try dsimp only); exact hS.out
                          clear hK K9 hHeld; intro hHeld
                          try simp only [Act.put, List.setIfInBounds_toArray, List.set_cons_zero, List.set_cons_succ]
                          refine wpAnyH_take (i := 14) (oi := { dst := some 113, op := Op.build 37 #[(0, Operand.const (Value.int IntKind.i64 1)), (3, Operand.tmp 112)], type := 37, pos := "law.go:87", after := #[{ on := 13, ground := Ground.data }, { on := 8, ground := Ground.guard }], guard := some (8, false) }) (v := ?_) rfl (by kernel_rfl) (by kernel_rfl) (by kernel_rfl) (fun _ _ _ h => h) (Or.inl ⟨by rfl, ?_⟩) (by assumption) ?_
                          rotate_left 1
                          · intro w hSw; (try dsimp only at hSw); go_simp <;> with_reducible rfl
                          try simp only [Act.put, List.setIfInBounds_toArray, List.set_cons_zero, List.set_cons_succ]
                          refine wpAnyH_ready (rs := [17]) (by kernel_rfl) (by simp) ?_
                          refine AllReadyH.cons (o := { dst := some 116, op := Op.call { callee := Callee.value (Operand.func 10), args := #[Operand.tmp 113, Operand.tmp 114, Operand.tmp 115], argTypes := #[37, 27, 3] }, type := 4, pos := "law.go:87", after := #[{ on := 14, ground := Ground.data }, { on := 15, ground := Ground.data }, { on := 16, ground := Ground.data }, { on := 8, ground := Ground.chain }, { on := 8, ground := Ground.guard }], guard := some (8, false) }) rfl (fun K9 hK => ?_) ?_
                          · go_simp
                            with_reducible refine (same_c K (MeV.of (PrV.nil _) hv2.out in64_1 in64_z) (UnK.zero _) (a : Int) ha64).mono ?_
                            rintro e y6 ⟨rfl, hb⟩
                            replace hS := Lib.hid (hS.out.up hb)
                            clear hb
                            go_wp2_with fail
                            refine hK.out _ _ ?_ ?_
                            · (try dsimp only); exact hS.out
                            clear hK K9 hHeld; intro hHeld
                            try simp only [Act.put, List.setIfInBounds_toArray, List.set_cons_zero, List.set_cons_succ]
                            refine wpAnyH_take (i := 18) (oi := { dst := some 117, op := Op.unOp UnOp.not 4 (Operand.tmp 116), type := 4, pos := "law.go:87", after := #[{ on := 17, ground := Ground.data }, { on := 8, ground := Ground.guard }], guard := some (8, false) }) (v := ?_) rfl (by kernel_rfl) (by kernel_rfl) (by kernel_rfl) (fun _ _ _ h => h) (Or.inl ⟨by rfl, ?_⟩) (by assumption) ?_
                            rotate_left 1
                            · intro w hSw; (try dsimp only at hSw); go_simp <;> with_reducible rfl
                            try simp only [Act.put, List.setIfInBounds_toArray, List.set_cons_zero, List.set_cons_succ]
                            refine wpAnyH_take (i := 19) (oi := { dst := some 118, op := Op.pick (Operand.tmp 107) (Operand.const (Value.bool true)) (Operand.tmp 117), type := 4, pos := "law.go:87", after := #[{ on := 8, ground := Ground.data }, { on := 18, ground := Ground.data }], guard := none }) (v := ?_) rfl (by kernel_rfl) (by kernel_rfl) (by kernel_rfl) (fun _ _ _ h => h) (Or.inl ⟨by rfl, ?_⟩) (by assumption) ?_
                            rotate_left 1
                            · intro w hSw; (try dsimp only at hSw); go_simp <;> with_reducible rfl
                            try simp only [Act.put, List.setIfInBounds_toArray, List.set_cons_zero, List.set_cons_succ]
                            refine wpAnyH_done (by kernel_rfl) ?_ _
                            go_wp2_with fail
                            go_meet
                            exact ⟨rfl, Lib.hid hS.out.bel⟩
                          exact AllReadyH.nil
                        exact AllReadyH.nil
                      exact AllReadyH.nil
                    exact AllReadyH.nil
                  refine AllReadyH.cons (o := { dst := some 101, op := Op.makeSlice 23 (Operand.const (Value.int IntKind.i64 3)) (Operand.const (Value.int IntKind.i64 3)), type := 23, pos := "law.go:87", after := #[], guard := none }) rfl (fun K9 hK => ?_) ?_
                  · go_simp
                    have hn2 := Lib.hid (cl_new y1)
                    have hba := (Below.refl y1.heap.size y1).alloc (Nat.le_refl _) clO
                    replace hS := Lib.hid (hS.out.up hba)
                    replace hn3 := Lib.hid (hn3.out.up hba)
                    clear hba
                    generalize hgy : y1.alloc clO = y2 at *
                    clear hgy
                    generalize y1.heap.size = bc at *
                    refine hK.out _ _ ?_ ?_
                    · (try dsimp only); exact hS.out
                    clear hK K9 hHeld; intro hHeld
                    try simp only [Act.put, List.setIfInBounds_toArray, List.set_cons_zero, List.set_cons_succ]
                    refine wpAnyH_ready (rs := [1]) (by kernel_rfl) (by simp) ?_
                    refine AllReadyH.cons (o := { dst := some 100, op := Op.buildSlice 22 1 #[(0, Operand.const (Value.string { data := #[120] }))], type := 22, pos := "law.go:87", after := #[], guard := none }) rfl (fun K9 hK => ?_) ?_
                    · go_simp
                      have hn1 := Lib.hid (nm_new y2)
                      have hba := (Below.refl y2.heap.size y2).alloc (Nat.le_refl _) nmO
                      replace hS := Lib.hid (hS.out.up hba)
                      replace hn3 := Lib.hid (hn3.out.up hba)
                      replace hn2 := Lib.hid (hn2.out.up hba)
                      clear hba
                      generalize hgy : y2.alloc nmO = y3 at *
                      clear hgy
                      generalize y2.heap.size = bn at *
                      refine hK.out _ _ ?_ ?_
                      · (try dsimp only); exact hS.out
                      clear hK K9 hHeld; intro hHeld
                      try simp only [Act.put, List.setIfInBounds_toArray, List.set_cons_zero, List.set_cons_succ]
                      refine wpAnyH_take (i := 4) (oi := { dst := some 103, op := Op.build 27 #[(0, Operand.tmp 100), (1, Operand.tmp 101), (2, Operand.tmp 102)], type := 27, pos := "law.go:87", after := #[{ on := 1, ground := Ground.data }, { on := 2, ground := Ground.data }, { on := 3, ground := Ground.data }], guard := none }) (v := ?_) rfl (by kernel_rfl) (by kernel_rfl) (by kernel_rfl) (fun _ _ _ h => h) (Or.inl ⟨by rfl, ?_⟩) (by assumption) ?_
                      rotate_left 1
                      · intro w hSw; (try dsimp only at hSw); go_simp <;> with_reducible rfl
                      try simp only [Act.put, List.setIfInBounds_toArray, List.set_cons_zero, List.set_cons_succ]
                      refine wpAnyH_ready (rs := [6]) (by kernel_rfl) (by simp) ?_
                      refine AllReadyH.cons (o := { dst := some 105, op := Op.call { callee := Callee.value (Operand.func 10), args := #[Operand.tmp 99, Operand.tmp 103, Operand.tmp 104], argTypes := #[37, 27, 3] }, type := 4, pos := "law.go:87", after := #[{ on := 0, ground := Ground.data }, { on := 4, ground := Ground.data }, { on := 5, ground := Ground.data }], guard := none }) rfl (fun K9 hK => ?_) ?_
                      · go_simp
                        with_reducible refine (same_c K hS.out.bM.me (un_new hn1.out hn2.out hn3.out) (o : Int) ho64).mono ?_
                        rintro e y4 ⟨rfl, hb⟩
                        replace hS := Lib.hid (hS.out.up hb)
                        clear hb
                        go_wp2_with fail
                        refine hK.out _ _ ?_ ?_
                        · (try dsimp only); exact hS.out
                        clear hK K9 hHeld; intro hHeld
                        try simp only [Act.put, List.setIfInBounds_toArray, List.set_cons_zero, List.set_cons_succ]
                        refine wpAnyH_take (i := 7) (oi := { dst := some 106, op := Op.unOp UnOp.not 4 (Operand.tmp 105), type := 4, pos := "law.go:87", after := #[{ on := 6, ground := Ground.data }], guard := none }) (v := ?_) rfl (by kernel_rfl) (by kernel_rfl) (by kernel_rfl) (fun _ _ _ h => h) (Or.inl ⟨by rfl, ?_⟩) (by assumption) ?_
                        rotate_left 1
                        · intro w hSw; (try dsimp only at hSw); go_simp <;> with_reducible rfl
                        try simp only [Act.put, List.setIfInBounds_toArray, List.set_cons_zero, List.set_cons_succ]
                        refine wpAnyH_take (i := 8) (oi := { dst := some 107, op := Op.move (Operand.tmp 106), type := 4, pos := "law.go:87", after := #[{ on := 7, ground := Ground.data }, { on := 6, ground := Ground.chain }], guard := none }) (v := ?_) rfl (by kernel_rfl) (by kernel_rfl) (by kernel_rfl) (fun _ _ _ h => h) (Or.inl ⟨by rfl, ?_⟩) (by assumption) ?_
                        rotate_left 1
                        · intro w hSw; (try dsimp only at hSw); go_simp <;> with_reducible rfl
                        try simp only [Act.put, List.setIfInBounds_toArray, List.set_cons_zero, List.set_cons_succ]
                        refine wpAnyH_take (i := 9) (oi := { dst := some 108, op := Op.move (Operand.tmp 8), type := 3, pos := "law.go:87", after := #[{ on := 8, ground := Ground.guard }], guard := some (8, false) }) (v := ?_) rfl (by kernel_rfl) (by kernel_rfl) (by kernel_rfl) (fun _ _ _ h => h) (Or.inl ⟨by rfl, ?_⟩) (by assumption) ?_
                        rotate_left 1
                        · intro w hSw; (try dsimp only at hSw); go_simp <;> with_reducible rfl
                        try simp only [Act.put, List.setIfInBounds_toArray, List.set_cons_zero, List.set_cons_succ]
                        refine wpAnyH_take (i := 10) (oi := { dst := some 109, op := Op.convert 3 5 (Operand.tmp 108), type := 5, pos := "law.go:87", after := #[{ on := 9, ground := Ground.data }, { on := 8, ground := Ground.guard }], guard := some (8, false) }) (v := ?_) rfl (by kernel_rfl) (by kernel_rfl) (by kernel_rfl) (fun _ _ _ h => h) (Or.inl ⟨by rfl, ?_⟩) (by assumption) ?_
                        rotate_left 1
                        · intro w hSw; (try dsimp only at hSw); go_simp <;> with_reducible rfl
                        try simp only [Act.put, List.setIfInBounds_toArray, List.set_cons_zero, List.set_cons_succ]
                        refine wpAnyH_take (i := 11) (oi := { dst := some 110, op := Op.move (Operand.tmp 9), type := 3, pos := "law.go:87", after := #[{ on := 8, ground := Ground.guard }], guard := some (8, false) }) (v := ?_) rfl (by kernel_rfl) (by kernel_rfl) (by kernel_rfl) (fun _ _ _ h => h) (Or.inl ⟨by rfl, ?_⟩) (by assumption) ?_
                        rotate_left 1
                        · intro w hSw; (try dsimp only at hSw); go_simp <;> with_reducible rfl
                        try simp only [Act.put, List.setIfInBounds_toArray, List.set_cons_zero, List.set_cons_succ]
                        refine wpAnyH_take (i := 12) (oi := { dst := some 111, op := Op.convert 3 5 (Operand.tmp 110), type := 5, pos := "law.go:87", after := #[{ on := 11, ground := Ground.data }, { on := 8, ground := Ground.guard }], guard := some (8, false) }) (v := ?_) rfl (by kernel_rfl) (by kernel_rfl) (by kernel_rfl) (fun _ _ _ h => h) (Or.inl ⟨by rfl, ?_⟩) (by assumption) ?_
                        rotate_left 1
                        · intro w hSw; (try dsimp only at hSw); go_simp <;> with_reducible rfl
                        try simp only [Act.put, List.setIfInBounds_toArray, List.set_cons_zero, List.set_cons_succ]
                        refine wpAnyH_take (i := 15) (oi := { dst := some 114, op := Op.build 27 #[], type := 27, pos := "law.go:87", after := #[{ on := 8, ground := Ground.guard }], guard := some (8, false) }) (v := ?_) rfl (by kernel_rfl) (by kernel_rfl) (by kernel_rfl) (fun _ _ _ h => h) (Or.inl ⟨by rfl, ?_⟩) (by assumption) ?_
                        rotate_left 1
                        · intro w hSw; (try dsimp only at hSw); go_simp <;> with_reducible rfl
                        try simp only [Act.put, List.setIfInBounds_toArray, List.set_cons_zero, List.set_cons_succ]
                        refine wpAnyH_take (i := 16) (oi := { dst := some 115, op := Op.move (Operand.tmp 9), type := 3, pos := "law.go:87", after := #[{ on := 8, ground := Ground.guard }], guard := some (8, false) }) (v := ?_) rfl (by kernel_rfl) (by kernel_rfl) (by kernel_rfl) (fun _ _ _ h => h) (Or.inl ⟨by rfl, ?_⟩) (by assumption) ?_
                        rotate_left 1
                        · intro w hSw; (try dsimp only at hSw); go_simp <;> with_reducible rfl
                        try simp only [Act.put, List.setIfInBounds_toArray, List.set_cons_zero, List.set_cons_succ]
                        refine wpAnyH_ready (rs := [13]) (by kernel_rfl) (by simp) ?_
                        refine AllReadyH.cons (o := { dst := some 112, op := Op.buildSlice 35 2 #[(0, Operand.tmp 109), (1, Operand.tmp 111)], type := 35, pos := "law.go:87", after := #[{ on := 10, ground := Ground.data }, { on := 12, ground := Ground.data }, { on := 8, ground := Ground.guard }], guard := some (8, false) }) rfl (fun K9 hK => ?_) ?_
                        · go_simp
                          have hv2 := Lib.hid (by2_new y4 (o : Int) (a : Int) hob hab)
                          replace hS := Lib.hid (hS.out.up ((Below.refl y4.heap.size y4).alloc (Nat.le_refl _) (.cells #[.int .u8 (o : Int), .int .u8 (a : Int)] 5)))
                          generalize hgy : y4.alloc (.cells #[.int .u8 (o : Int), .int .u8 (a : Int)] 5) = y5 at *
                          clear hgy
                          generalize y4.heap.size = b5 at *
                          refine hK.out _ _ ?_ ?_
                          · (try dsimp only); exact hS.out
                          clear hK K9 hHeld; intro hHeld
                          try simp only [Act.put, List.setIfInBounds_toArray, List.set_cons_zero, List.set_cons_succ]
                          refine wpAnyH_take (i := 14) (oi := { dst := some 113, op := Op.build 37 #[(0, Operand.const (Value.int IntKind.i64 1)), (3, Operand.tmp 112)], type := 37, pos := "law.go:87", after := #[{ on := 13, ground := Ground.data }, { on := 8, ground := Ground.guard }], guard := some (8, false) }) (v := ?_) rfl (by kernel_rfl) (by kernel_rfl) (by kernel_rfl) (fun _ _ _ h => h) (Or.inl ⟨by rfl, ?_⟩) (by assumption) ?_
                          rotate_left 1
                          · intro w hSw; (try dsimp only at hSw); go_simp <;> with_reducible rfl
                          try simp only [Act.put, List.setIfInBounds_toArray, List.set_cons_zero, List.set_cons_succ]
                          refine wpAnyH_ready (rs := [17]) (by kernel_rfl) (by simp) ?_
                          refine AllReadyH.cons (o := { dst := some 116, op := Op.call { callee := Callee.value (Operand.func 10), args := #[Operand.tmp 113, Operand.tmp 114, Operand.tmp 115], argTypes := #[37, 27, 3] }, type := 4, pos := "law.go:87", after := #[{ on := 14, ground := Ground.data }, { on := 15, ground := Ground.data }, { on := 16, ground := Ground.data }, { on := 8, ground := Ground.chain }, { on := 8, ground := Ground.guard }], guard := some (8, false) }) rfl (fun K9 hK => ?_) ?_
                          · go_simp
                            with_reducible refine (same_c K (MeV.of (PrV.nil _) hv2.out in64_1 in64_z) (UnK.zero _) (a : Int) ha64).mono ?_
                            rintro e y6 ⟨rfl, hb⟩
                            replace hS := Lib.hid (hS.out.up hb)
                            clear hb
                            go_wp2_with fail
                            refine hK.out _ _ ?_ ?_
                            · (try dsimp only); exact hS.out
                            clear hK K9 hHeld; intro hHeld
                            try simp only [Act.put, List.setIfInBounds_toArray, List.set_cons_zero, List.set_cons_succ]
                            refine wpAnyH_take (i := 18) (oi := { dst := some 117, op := Op.unOp UnOp.not 4 (Operand.tmp 116), type := 4, pos := "law.go:87", after := #[{ on := 17, ground := Ground.data }, { on := 8, ground := Ground.guard }], guard := some (8, false) }) (v := ?_) rfl (by kernel_rfl) (by kernel_rfl) (by kernel_rfl) (fun _ _ _ h => h) (Or.inl ⟨by rfl, ?_⟩) (by assumption) ?_
                            rotate_left 1
                            · intro w hSw; (try dsimp only at hSw); go_simp <;> with_reducible rfl
                            try simp only [Act.put, List.setIfInBounds_toArray, List.set_cons_zero, List.set_cons_succ]
                            refine wpAnyH_take (i := 19) (oi := { dst := some 118, op := Op.pick (Operand.tmp 107) (Operand.const (Value.bool true)) (Operand.tmp 117), type := 4, pos := "law.go:87", after := #[{ on := 8, ground := Ground.data }, { on := 18, ground := Ground.data }], guard := none }) (v := ?_) rfl (by kernel_rfl) (by kernel_rfl) (by kernel_rfl) (fun _ _ _ h => h) (Or.inl ⟨by rfl, ?_⟩) (by assumption) ?_
                            rotate_left 1
                            · intro w hSw; (try dsimp only at hSw); go_simp <;> with_reducible rfl
                            try simp only [Act.put, List.setIfInBounds_toArray, List.set_cons_zero, List.set_cons_succ]
                            refine wpAnyH_done (by kernel_rfl) ?_ _
                            go_wp2_with fail
                            go_meet
                            exact ⟨rfl, Lib.hid hS.out.bel⟩
                          exact AllReadyH.nil
                        exact AllReadyH.nil
                      exact AllReadyH.nil
                    exact AllReadyH.nil
                  exact AllReadyH.nil
                exact AllReadyH.nil
              case rest =>
              clear hS5
              obtain ⟨rfl, hB⟩ := hcut
              go_wp2
              go_roundw
              case rel => exact ⟨a + 1, by omega, by go_num, hB⟩
              case measure => simp [intOf]; omega
            · have d3 : decide ((a : Int) < 30) = false := by simp; omega
              go_wp2
              go_roundw
              case rel => exact ⟨o + 1, by omega, by go_num, hB⟩
              case measure => simp [intOf]; omega
        · have d2 : decide ((o : Int) < 24) = false := by simp; omega
          have i1 : In64 (-9223372036854775808) := ⟨by omega, by omega⟩
          have i2 : In64 9223372036854775806 := ⟨by omega, by omega⟩
          have hv1 := Lib.hid (by1_new wr 1 (by omega))
          replace hB := Lib.hid (hB.out.trans (((Below.refl wr.heap.size wr).alloc (Nat.le_refl _) (.cells #[.int .u8 1] 5)).mono hB.out.size))
          go_wp2_with fail
          with_reducible refine (same_c K (MeV.of (PrV.nil _) hv1.out in64_z in64_z) (UnK.zero _) (-9223372036854775808) i1).mono ?_
          rintro e y1 ⟨rfl, hb⟩
          replace hB := Lib.hid (hB.out.trans (hb.mono hB.out.size))
          clear hb
          have hv2 := Lib.hid (by2_new y1 1 2 (by omega) (by omega))
          replace hB := Lib.hid (hB.out.trans (((Below.refl y1.heap.size y1).alloc (Nat.le_refl _) (.cells #[.int .u8 1, .int .u8 2] 5)).mono hB.out.size))
          go_wp2_with fail
          with_reducible refine (same_c K (MeV.of (PrV.nil _) hv2.out in64_z in64_z) (UnK.zero _) 9223372036854775806 i2).mono ?_
          rintro e y2 ⟨rfl, hb⟩
          replace hB := Lib.hid (hB.out.trans (hb.mono hB.out.size))
          clear hb
          go_wp2_with fail
          with_reducible refine (known_c K _).mono ?_
          rintro e y3 ⟨rfl, hb⟩
          replace hB := Lib.hid (hB.out.trans (hb.mono hB.out.size))
          go_wp2
          go_ret
          exact ⟨rfl, hB.out⟩
end Wd
end Go.Proofs.Ythlijmdohejheaa
