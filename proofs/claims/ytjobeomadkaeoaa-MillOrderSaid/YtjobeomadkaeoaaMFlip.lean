/- The document's own mill: Flip. -/
import Derived.Test.YtjobeomadkaeoaaMColor
import Derived.StillTailTactics
import Derived.BigRegion
namespace Go.Proofs.Ytjobeomadkaeoaa
open Go.RowKit
namespace Wd
theorem grown_cells {w w1 : World} {b : Nat} (g : w.grownBy w1 (some b)) (k : Nat) (v : Value) : w.grownBy (w1.setCell ⟨b, k, none⟩ v) (some b) := by
  refine ⟨g.os, g.tape, g.output, by simpa [World.setCell] using g.size, fun j hj hne => ?_⟩
  rw [Below.heap_setCell _ _ _ _ (by simpa using hne)]
  exact g.block j hj hne
theorem grown_drew {w w1 : World} {row : Option Nat} (g : w.grownBy w1 row) : w.grownBy w1.drew row := ⟨g.os, g.tape, g.output, g.size, g.block⟩
theorem below_row {w w1 : World} {row : Option Nat} (h : Below w.heap.size w w1) : w.grownBy w1 row := ⟨h.os, h.tape, h.output, h.size, fun k hk _ => h.block k hk⟩
set_option maxHeartbeats 16000000 in
theorem rflip_c (b : Nat) (A : Mst) (V : Nat → Value) (w : World) (h : RefM w b A V) (hl : ∀ k, k < 4 → (A k).length ≤ 8192) :
    Calls Try.prog 23 #[.pointer (some ⟨b, 0, none⟩)] w fun e w' => ∃ u V', e = .returned u ∧ RefM w' b (flipA A) V' ∧ w.grownBy w' (some b) ∧ Comes V V' w.heap.size ∧ SL w' 3 u (flipR A) ∧ (∀ g, u.ownBlock = some g → w.heap.size ≤ g) := by
  have c2 := h.c 2 (by decide)
  obtain ⟨a2, k2, hv2⟩ := (h.own 2 (by decide)).form
  rw [hv2] at c2
  by_cases hg : A 2 = []
  · have eA : flipA A = upA (upA (upA A 0 (A 0 ++ A 3)) 3 (A 1)) 1 [] := by unfold flipA; rw [if_pos hg]
    have eR : flipR A = A 3 := by unfold flipR; rw [if_pos hg]
    rw [eA, eR]
    rw [hg] at c2
    have c3 := h.c 3 (by decide)
    have hb := h.lt.1
    have hl0 := hl 0 (by decide)
    have hl3 := hl 3 (by decide)
    have RD := (h.own 3 (by decide)).reads
    replace h := Lib.hid h
    replace RD := Lib.hid RD
    clear eA eR hv2 hg
    go_enter Try.func23, Try.ntmps23
    go_wp2_with (first | (at_builtin; refine wpList_app rfl (.tmp 11) (.tmp 16) rfl w.heap.size 0 (.slice (some ⟨w.heap.size, 0, none⟩) 0 0) _ [] (A 3) (by simp [Act.eval]) rfl (World.ownsRow_made w #[] 0 (Nat.le_refl _) (by decide) rfl) ((SL.keep (h.out.own 3 (by decide)) ((Below.refl _ _).alloc (Nat.le_refl _) _)).reads) (by omega) (by simp) ?_; intro v1 w1 hown1 hgrow1 hat1; have hB1 : Below w.heap.size w w1 := ((Below.refl _ _).alloc (Nat.le_refl _) _).grown hgrow1 (by simp) (fun k hk => by simp [Value.ownBlock] at hk; omega); simp only [List.nil_append, Nat.zero_add] at hown1; obtain ⟨x1, n1, c1, rfl⟩ := slice_form hown1; have RW := Lib.hid (h.out.keep hB1); have FN : Hid (∀ g, (Value.slice x1 n1 c1).ownBlock = some g → w.heap.size ≤ g) := Lib.hid (fun g hg => (hown1.lt g hg).1); have O1 : Hid (SL w1 3 (.slice x1 n1 c1) (A 3)) := Lib.hid (own_base hown1); have G0 : Hid (w.grownBy w1 (some b)) := Lib.hid (below_row hB1); clear hown1 hgrow1 hat1 hB1 RD c2 c3))
    have FB : Hid ((Value.slice x1 n1 c1).ownBlock ≠ some b) := Lib.hid (fun e => by have := FN.out b e; omega)
    have hck := RW.out.c 0 (by decide)
    have hzk := RW.out.z 0
    have hb1 := RW.out.lt.1
    have MK : Hid (∀ wX, Below w1.heap.size w1 wX → wX.cell? ⟨b, 0, none⟩ = some (V 0) ∧ wX.frozen? ⟨b, 0, none⟩ = false ∧ Below w1.heap.size w1 wX) := Lib.hid (fun wX hX => ⟨(hX.cell hb1).trans hck, (hX.frozen hb1).trans hzk, hX⟩)
    have T1 : Hid (∀ wX, Below w1.heap.size w1 wX → Reads wX (V 0) (A 0)) := Lib.hid (fun wX hX => (SL.keep (RW.out.own 0 (by decide)) hX).reads)
    refine wp_region_last (d := 13) (fuel := 13) (S := (fun w' => w'.cell? ⟨b, 0, none⟩ = some (V 0) ∧ w'.frozen? ⟨b, 0, none⟩ = false ∧ Below w1.heap.size w1 w')) (by kernel_rfl) (by kernel_rfl) rfl ?_ (fun hHeld => ?_)
    · (try dsimp only); (refine MK.out _ ?_; first | exact hB3 | exact hB2 | exact (Below.refl _ _).drew | exact ((Below.refl _ _).alloc (Nat.le_refl _) _).drew | exact hHeld.2.2.alloc hHeld.2.2.size _)
    try simp only [Act.put, List.setIfInBounds_toArray, List.set_cons_zero, List.set_cons_succ]
    refine wpAnyH_take (i := 0) (oi := { dst := some 18, op := Op.move (Operand.tmp 0), type := 41, pos := "ref.go:138", after := #[], guard := none }) (v := ?_) rfl (by kernel_rfl) (by kernel_rfl) (by kernel_rfl) (fun _ _ _ h => h) (Or.inl ⟨by rfl, ?_⟩) (by assumption) ?_
    rotate_left 1
    · intro w hSw; (try dsimp only at hSw); go_simp <;> with_reducible rfl
    try simp only [Act.put, List.setIfInBounds_toArray, List.set_cons_zero, List.set_cons_succ]
    refine wpAnyH_take (i := 2) (oi := { dst := some 20, op := Op.move (Operand.tmp 0), type := 41, pos := "ref.go:138", after := #[], guard := none }) (v := ?_) rfl (by kernel_rfl) (by kernel_rfl) (by kernel_rfl) (fun _ _ _ h => h) (Or.inl ⟨by rfl, ?_⟩) (by assumption) ?_
    rotate_left 1
    · intro w hSw; (try dsimp only at hSw); go_simp <;> with_reducible rfl
    try simp only [Act.put, List.setIfInBounds_toArray, List.set_cons_zero, List.set_cons_succ]
    refine wpAnyH_take (i := 3) (oi := { dst := some 21, op := Op.nilCheck (Operand.tmp 20), type := 0, pos := "ref.go:138", after := #[{ on := 2, ground := Ground.data }], guard := none }) (v := ?_) rfl (by kernel_rfl) (by kernel_rfl) (by kernel_rfl) (fun _ _ _ h => h) (Or.inl ⟨by rfl, ?_⟩) (by assumption) ?_
    rotate_left 1
    · intro w hSw; (try dsimp only at hSw); go_simp <;> with_reducible rfl
    try simp only [Act.put, List.setIfInBounds_toArray, List.set_cons_zero, List.set_cons_succ]
    refine wpAnyH_take (i := 4) (oi := { dst := some 22, op := Op.fieldAddr 53 (Operand.tmp 21) 0, type := 0, pos := "ref.go:138", after := #[{ on := 3, ground := Ground.data }], guard := none }) (v := ?_) rfl (by kernel_rfl) (by kernel_rfl) (by kernel_rfl) (fun _ _ _ h => h) (Or.inl ⟨by rfl, ?_⟩) (by assumption) ?_
    rotate_left 1
    · intro w hSw; (try dsimp only at hSw); go_simp <;> with_reducible rfl
    try simp only [Act.put, List.setIfInBounds_toArray, List.set_cons_zero, List.set_cons_succ]
    refine wpAnyH_take (i := 5) (oi := { dst := some 23, op := Op.indexAddr 51 (Operand.tmp 22) (Operand.const (Value.int IntKind.i64 0)), type := 0, pos := "ref.go:138", after := #[{ on := 4, ground := Ground.data }], guard := none }) (v := ?_) rfl (by kernel_rfl) (by kernel_rfl) (by kernel_rfl) (fun _ _ _ h => h) (Or.inl ⟨by rfl, ?_⟩) (by assumption) ?_
    rotate_left 1
    · intro w hSw; (try dsimp only at hSw); go_simp <;> with_reducible rfl
    try simp only [Act.put, List.setIfInBounds_toArray, List.set_cons_zero, List.set_cons_succ]
    refine wpAnyH_take (i := 6) (oi := { dst := some 24, op := Op.load 33 (Operand.tmp 23), type := 33, pos := "ref.go:138", after := #[{ on := 5, ground := Ground.data }], guard := none }) (v := ?_) rfl (by kernel_rfl) (by kernel_rfl) (by kernel_rfl) (fun _ _ _ h => h) (Or.inl ⟨by rfl, ?_⟩) (by assumption) ?_
    rotate_left 1
    · intro w hSw; (try dsimp only at hSw); go_simp <;> with_reducible rfl
    try simp only [Act.put, List.setIfInBounds_toArray, List.set_cons_zero, List.set_cons_succ]
    refine wpAnyH_take (i := 8) (oi := { dst := some 26, op := Op.move (Operand.tmp 3), type := 33, pos := "ref.go:138", after := #[], guard := none }) (v := ?_) rfl (by kernel_rfl) (by kernel_rfl) (by kernel_rfl) (fun _ _ _ h => h) (Or.inl ⟨by rfl, ?_⟩) (by assumption) ?_
    rotate_left 1
    · intro w hSw; (try dsimp only at hSw); go_simp <;> with_reducible rfl
    try simp only [Act.put, List.setIfInBounds_toArray, List.set_cons_zero, List.set_cons_succ]
    refine wpAnyH_take (i := 10) (oi := { dst := some 28, op := Op.nilCheck (Operand.tmp 18), type := 0, pos := "ref.go:138", after := #[{ on := 0, ground := Ground.data }], guard := none }) (v := ?_) rfl (by kernel_rfl) (by kernel_rfl) (by kernel_rfl) (fun _ _ _ h => h) (Or.inl ⟨by rfl, ?_⟩) (by assumption) ?_
    rotate_left 1
    · intro w hSw; (try dsimp only at hSw); go_simp <;> with_reducible rfl
    try simp only [Act.put, List.setIfInBounds_toArray, List.set_cons_zero, List.set_cons_succ]
    refine wpAnyH_take (i := 11) (oi := { dst := some 29, op := Op.fieldAddr 53 (Operand.tmp 28) 0, type := 0, pos := "ref.go:138", after := #[{ on := 10, ground := Ground.data }], guard := none }) (v := ?_) rfl (by kernel_rfl) (by kernel_rfl) (by kernel_rfl) (fun _ _ _ h => h) (Or.inl ⟨by rfl, ?_⟩) (by assumption) ?_
    rotate_left 1
    · intro w hSw; (try dsimp only at hSw); go_simp <;> with_reducible rfl
    try simp only [Act.put, List.setIfInBounds_toArray, List.set_cons_zero, List.set_cons_succ]
    refine wpAnyH_ready (rs := [1]) (by kernel_rfl) (by simp) ?_
    refine AllReadyH.cons (o := { dst := some 19, op := Op.buildSlice 33 0 #[], type := 33, pos := "ref.go:138", after := #[], guard := none }) rfl (fun K hK => ?_) ?_
    · go_simp
      refine hK.out _ _ ?_ ?_
      · (try dsimp only); (refine MK.out _ ?_; first | exact hB3 | exact hB2 | exact (Below.refl _ _).drew | exact ((Below.refl _ _).alloc (Nat.le_refl _) _).drew | exact hHeld.2.2.alloc hHeld.2.2.size _)
      clear hK K hHeld; intro hHeld
      try simp only [Act.put, List.setIfInBounds_toArray, List.set_cons_zero, List.set_cons_succ]
      refine wpAnyH_ready (rs := [7]) (by kernel_rfl) (by simp) ?_
      refine AllReadyH.cons (o := { dst := some 25, op := Op.call { callee := Callee.builtin Builtin.append, args := #[Operand.tmp 19, Operand.tmp 24], argTypes := #[33, 33] }, type := 33, pos := "ref.go:138", after := #[{ on := 1, ground := Ground.data }, { on := 6, ground := Ground.data }], guard := none }) rfl (fun K hK => ?_) ?_
      · refine step_app rfl (.tmp 19) (.tmp 24) rfl w1.heap.size 0 (.slice (some ⟨w1.heap.size, 0, none⟩) 0 0) _ [] (A 0) rfl rfl (by first | exact World.ownsRow_made w1 #[] 0 (Nat.le_refl _) (by decide) rfl | exact (World.ownsRow_made w1 #[] 0 (Nat.le_refl _) (by decide) rfl).alloc _ | exact made_after _ _ _) (T1.out _ hHeld.2.2) (by first | omega | (simp; omega)) hHeld.2.2.size ?_; intro v2 w2 hown2 hgrow2 hat2; have hB2 : Below w1.heap.size w1 w2 := hHeld.2.2.grown hgrow2 hHeld.2.2.size (fun k hk => by simp [Value.ownBlock] at hk; omega); simp only [List.nil_append, Nat.zero_add] at hown2; obtain ⟨x2, n2, c2, rfl⟩ := slice_form hown2
        refine hK.out _ _ ?_ ?_
        · (try dsimp only); (refine MK.out _ ?_; first | exact hB3 | exact hB2 | exact (Below.refl _ _).drew | exact ((Below.refl _ _).alloc (Nat.le_refl _) _).drew | exact hHeld.2.2.alloc hHeld.2.2.size _)
        clear hK K hHeld; intro hHeld
        try simp only [Act.put, List.setIfInBounds_toArray, List.set_cons_zero, List.set_cons_succ]
        refine wpAnyH_ready (rs := [9]) (by kernel_rfl) (by simp) ?_
        refine AllReadyH.cons (o := { dst := some 27, op := Op.call { callee := Callee.builtin Builtin.append, args := #[Operand.tmp 25, Operand.tmp 26], argTypes := #[33, 33] }, type := 33, pos := "ref.go:138", after := #[{ on := 7, ground := Ground.data }, { on := 8, ground := Ground.data }, { on := 7, ground := Ground.chain }], guard := none }) rfl (fun K hK => ?_) ?_
        · refine step_app rfl (.tmp 25) (.tmp 26) rfl w1.heap.size _ _ _ _ (A 3) rfl rfl hown2 ((SL.keep O1.out hHeld.2.2).reads) (by first | omega | (simp only [List.length_append] at *; omega)) hHeld.2.2.size ?_; intro v3 w3 hown3 hgrow3 hat3; have hB3 : Below w1.heap.size w1 w3 := hHeld.2.2.grown hgrow3 hHeld.2.2.size (fun k hk => (hown2.lt k hk).1); rw [← List.length_append] at hown3; obtain ⟨x3, n3, c3, rfl⟩ := slice_form hown3
          refine hK.out _ _ ?_ ?_
          · (try dsimp only); (refine MK.out _ ?_; first | exact hB3 | exact hB2 | exact (Below.refl _ _).drew | exact ((Below.refl _ _).alloc (Nat.le_refl _) _).drew | exact hHeld.2.2.alloc hHeld.2.2.size _)
          clear hK K hHeld; intro hHeld
          try simp only [Act.put, List.setIfInBounds_toArray, List.set_cons_zero, List.set_cons_succ]
          refine wpAnyH_take (i := 12) (oi := { dst := some 30, op := Op.indexAddr 51 (Operand.tmp 29) (Operand.const (Value.int IntKind.i64 0)), type := 0, pos := "ref.go:138", after := #[{ on := 11, ground := Ground.data }, { on := 0, ground := Ground.phase }, { on := 1, ground := Ground.phase }, { on := 2, ground := Ground.phase }, { on := 3, ground := Ground.phase }, { on := 4, ground := Ground.phase }, { on := 5, ground := Ground.phase }, { on := 6, ground := Ground.phase }, { on := 7, ground := Ground.phase }, { on := 8, ground := Ground.phase }, { on := 9, ground := Ground.phase }], guard := none }) (v := ?_) rfl (by kernel_rfl) (by kernel_rfl) (by kernel_rfl) (fun _ _ _ h => h) (Or.inl ⟨by rfl, ?_⟩) (by assumption) ?_
          rotate_left 1
          · intro w hSw; (try dsimp only at hSw); go_simp <;> with_reducible rfl
          try simp only [Act.put, List.setIfInBounds_toArray, List.set_cons_zero, List.set_cons_succ]
          refine last_step (o := { dst := none, op := Op.store 33 (Operand.tmp 30) (Operand.tmp 27), type := 0, pos := "ref.go:138", after := #[{ on := 12, ground := Ground.data }, { on := 9, ground := Ground.data }, { on := 9, ground := Ground.chain }, { on := 0, ground := Ground.phase }, { on := 1, ground := Ground.phase }, { on := 2, ground := Ground.phase }, { on := 3, ground := Ground.phase }, { on := 4, ground := Ground.phase }, { on := 5, ground := Ground.phase }, { on := 6, ground := Ground.phase }, { on := 7, ground := Ground.phase }, { on := 8, ground := Ground.phase }, { on := 9, ground := Ground.phase }], guard := none }) rfl (by kernel_rfl) (fun K hK => ?_)
          go_simp
          refine hK.out _ _ ?_
          clear hK K
          try simp only [Act.put, List.setIfInBounds_toArray, List.set_cons_zero, List.set_cons_succ]
          have R1 := RefM.put (k := 0) (RW.out.keep hHeld.2.2) (by decide) (own_base hown3) (fun e => by have := (hown3.lt b e).1; have := RW.out.lt.1; omega)
          have G1 := grown_put2 (k := 0) G0.out hHeld.2.2 (.slice x3 n3 c3)
          have C1 := (Comes.refl V w.heap.size).up 0 (v := .slice x3 n3 c3) (fun g hg => Or.inl (Nat.le_trans G0.out.size (hown3.lt g hg).1))
          have O3 := SL.keep (SL.keep O1.out hHeld.2.2) (w' := w3) (Below.refl _ _)
          have O4 : SL (w3.setCell ⟨b, 0, none⟩ (.slice x3 n3 c3)) 3 (.slice x1 n1 c1) (A 3) := ownsRow_setCell_other O3 FB.out _
          clear MK T1 O3
          generalize hV1 : upV V 0 (.slice x3 n3 c3) = V1 at R1 C1
          have hV11 : V1 1 = V 1 := by rw [← hV1]; rfl
          obtain ⟨a9, c9, hv9⟩ := (RW.out.own 1 (by decide)).form
          rw [hv9] at hV11
          clear hV1 hHeld hown2 hgrow2 hat2 hB2 hown3 hgrow3 hat3 hB3
          generalize w3.setCell ⟨b, 0, none⟩ (.slice x3 n3 c3) = w4 at R1 G1 O4 ⊢
          have d1 := R1.c 1 (by decide)
          have d3 := R1.c 3 (by decide)
          rw [hV11] at d1
          have z1 := R1.z 1
          have z3 := R1.z 3
          replace R1 := Lib.hid R1
          replace G1 := Lib.hid G1
          replace C1 := Lib.hid C1
          replace O4 := Lib.hid O4
          have R2 := RefM.put (k := 3) R1.out (by decide) (v := .slice a9 (A 1).length c9) (X := A 1) (by have := R1.out.own 1 (by decide); rw [hV11] at this; exact this) (by rw [← hV11]; exact R1.out.apart 1 (by decide))
          have R3 := RefM.put (k := 1) R2 (by decide) (v := .slice none 0 0) (X := []) (World.ownsRow_nil _ _ _ _) (by simp [Value.ownBlock])
          have C3 := ((C1.out.up 3 (v := .slice a9 (A 1).length c9) (fun g hg => Or.inr ⟨1, by decide, by rw [hv9]; exact hg⟩)).up 1 (v := .slice none 0 0) (fun g hg => by cases hg))
          have O5 := ownsRow_setCell_other (ownsRow_setCell_other O4.out FB.out (.slice a9 (A 1).length c9) (a := ⟨b, 3, none⟩)) FB.out (.slice none 0 0) (a := ⟨b, 1, none⟩)
          have G3 : w.grownBy ((w4.setCell ⟨b, 3, none⟩ (.slice a9 (A 1).length c9)).setCell ⟨b, 1, none⟩ (.slice none 0 0)) (some b) := grown_cells (grown_cells G1.out 3 _) 1 _
          replace R3 := Lib.hid R3
          replace C3 := Lib.hid C3
          replace O5 := Lib.hid O5
          replace G3 := Lib.hid G3
          clear R2
          go_wp2
          go_region
          all_goals go_wp2
          all_goals go_ret
          all_goals exact ⟨_, _, rfl, R3.out.same (fun _ _ => rfl), grown_drew G3.out, C3.out, O5.out, FN.out⟩
        exact AllReadyH.nil
      exact AllReadyH.nil
    exact AllReadyH.nil
  · have eA : flipA A = A := by unfold flipA; rw [if_neg hg]
    have eR : flipR A = [] := by unfold flipR; rw [if_neg hg]
    rw [eA, eR]
    have hp : 0 < (A 2).length := List.length_pos_iff.2 hg
    have hp' : decide (((A 2).length : Int) > 0) = true := by simp; omega
    have hp2 : decide ((0 : Int) < ((A 2).length : Int)) = true := by simp; omega
    replace h := Lib.hid h
    clear eA eR hg hv2
    go_enter Try.func23, Try.ntmps23
    go_wp2
    go_ret
    exact ⟨_, V, rfl, h.out, grown_refl _ _, Comes.refl _ _, World.ownsRow_nil _ _ _ _, fun g hg => by cases hg⟩
end Wd
end Go.Proofs.Ytjobeomadkaeoaa
