/- Texts joined: MShade, MFlip, MNew, FPure, EGood. -/
import Derived.Test.YtdaojohdmidemaaGreatJ1
import Derived.Test.YtdaojohdmidemaaGreatJ2
import Derived.StillTailTactics
import Derived.BigRegion
import Derived.Laws.BitsAllLaws
import Derived.Laws.BitsLemmas
import Derived.RowKit
import Derived.OpenShut
import Derived.Deep.RegionHeld3
/- The document's own mill: Shade. -/
namespace Go.Proofs.YtdaojohdmidemaaGreat
open Go.RowKit
set_option linter.unusedVariables false
namespace Wd
/-- those of a row that are left so far -/
structure FiltSt (w : World) (i : Int) (M : List Int) (k : Nat) (v : Value) (wr : World) : Prop where
  own : wr.ownsRow w.heap.size 3 1 v ((M.take k).filter (· ≠ i)).length (ints ((M.take k).filter (· ≠ i)))
  bel : Below w.heap.size w wr
theorem filt_in {M : List Int} {k : Nat} {x i : Int} (hx : M[k]? = some x) (h : x ≠ i) : (M.take (k + 1)).filter (· ≠ i) = (M.take k).filter (· ≠ i) ++ [x] := by
  rw [List.take_add_one, hx, List.filter_append]
  simp [h]
theorem filt_out {M : List Int} {k : Nat} {i : Int} (hx : M[k]? = some i) : (M.take (k + 1)).filter (· ≠ i) = (M.take k).filter (· ≠ i) := by
  rw [List.take_add_one, hx, List.filter_append]
  simp
theorem colorR_in {A : Mst} {i : Int} (h : colorR A i = 3) : i ∈ A 3 := by
  unfold colorR at h
  repeat' (split at h)
  all_goals first | assumption | omega
set_option maxHeartbeats 16000000 in
theorem rshade_c (i : Int) (b : Nat) (A : Mst) (V : Nat → Value) (w : World) (h : RefM w b A V) (hl : ∀ k, k < 4 → (A k).length ≤ 8192) :
    Calls Tryz.prog 95 #[.pointer (some ⟨b, 0, none⟩), .int .i64 i] w fun e w' => e = .returned (.bool (decide (colorR A i = 3))) ∧ ∃ V', RefM w' b (shadeA A i) V' ∧ w.grownBy w' (some b) ∧ Comes V V' w.heap.size := by
  by_cases hc : colorR A i = 3
  · have eA : shadeA A i = upA (upA A 3 ((A 3).filter (· ≠ i))) 2 (A 2 ++ [i]) := by unfold shadeA; rw [if_pos hc]
    rw [eA, decide_eq_true hc]
    have hm3 := colorR_in hc
    have P0 := rcolor_c i b A V w h hl
    rw [hc] at P0
    have c3 := h.c 3 (by decide)
    have hl3 := hl 3 (by decide)
    have hl2 := hl 2 (by decide)
    rcases (h.own 3 (by decide)).cases with ⟨_, h0⟩ | ⟨g, cap, hv, hle, hm, hg, hown⟩
    · rw [h0] at hm3; cases hm3
    rw [hv] at c3
    obtain ⟨n, hn⟩ : ∃ n, n = (A 3).length := ⟨_, rfl⟩
    rw [← hn] at c3 hle hl3
    have HN := Lib.hid hn
    have HO : Hid (∀ wX, Below w.heap.size w wX → ∀ k x, (A 3)[k]? = some x → wX.cell? ⟨g, k, none⟩ = some (.int .i64 x)) := Lib.hid (fun wX hX k x hx => (hX.cell (p := ⟨g, k, none⟩) hg).trans (row_cell hown hx))
    have S0 : Hid (FiltSt w i (A 3) 0 (.slice none 0 0) w) := Lib.hid ⟨by simpa [ints] using World.ownsRow_nil w w.heap.size 3 1, Below.refl _ _⟩
    have MC : Hid (∀ wX, Below w.heap.size w wX → wX.cell? ⟨b, 3, none⟩ = some (.slice (some ⟨g, 0, none⟩) n cap) ∧ wX.frozen? ⟨b, 3, none⟩ = false) := Lib.hid (fun wX hX => ⟨(hX.cell h.lt.1).trans c3, (hX.frozen h.lt.1).trans (h.z 3)⟩)
    replace h := Lib.hid h
    replace P0 := Lib.hid P0
    clear hown hv hn hm3 eA hc hm hg
    go_enter Tryz.func95, Tryz.ntmps95
    go_wp2_with (first | (go_at_call 55; ((with_reducible refine P0.out.mono ?_); rintro e w' ⟨rfl, hw'⟩; subst w')))
    go_loopw [5, 18] (fun v s wr => ∃ k : Nat, k ≤ n ∧ s = .int .i64 k ∧ FiltSt w i (A 3) k v wr) (fun _ s _ => n - (intOf s).toNat)
    case atStart => exact ⟨0, by omega, rfl, S0.out⟩
    case round =>
      obtain ⟨k, hk, rfl, hR⟩ := hrel
      by_cases hlt : k < n
      · have hlt' : decide ((k : Int) < n) = true := by simp; omega
        obtain ⟨x, hx⟩ : ∃ x, (A 3)[k]? = some x := ⟨(A 3)[k]'(by have := HN.out; omega), by simp⟩
        have hcx := HO.out wr hR.bel k x hx
        have HX := Lib.hid hx
        have hfl : ((A 3).take k).length ≤ 8192 := by rw [List.length_take]; omega
        have hfl2 : (((A 3).take k).filter (· ≠ i)).length ≤ 8192 := Nat.le_trans (List.length_filter_le _ _) hfl
        replace hR := Lib.hid hR
        clear hx
        by_cases he : x = i
        · have he' : (x != i) = false := by simp [he]
          go_wp2
          go_roundw
          case rel => exact ⟨k + 1, by omega, by go_num, by rw [filt_out (by rw [← he]; exact HX.out)]; exact hR.out.own, hR.out.bel⟩
          case measure => simp [intOf]; omega
        · have he' : (x != i) = true := by simp [he]
          go_wp2_with (first | (at_builtin; refine wpList_app rfl (.tmp 25) (.tmp 27) rfl w.heap.size _ u5 _ (((A 3).take k).filter (· ≠ i)) [x] (by simp [Act.eval]) rfl (hR.out.own.alloc _) (Reads.one ((World.cell?_alloc_new _ _ _ 0).trans rfl)) (by have := hfl2; simp only [List.length_singleton]; omega) (by have := hR.out.bel.size; simp; omega) ?_; intro v1 w1 hown1 hgrow1 hat1; rw [← List.length_append, ← filt_in HX.out he] at hown1; have R1 := Lib.hid (FiltSt.mk hown1 ((hR.out.bel.alloc hR.out.bel.size _).grown hgrow1 (by have := hR.out.bel.size; simp; omega) (fun k' hk' => (hR.out.own.lt k' hk').1)))))
          go_roundw
          case rel => exact ⟨k + 1, by omega, by go_num, R1.out⟩
          case measure => simp [intOf]; omega
      · have e : k = n := by omega
        subst e
        have hkn' : decide ((k : Int) < (k : Int)) = false := by simp
        obtain ⟨d3, z3⟩ := MC.out wr hR.bel
        obtain ⟨x1, n1, c1, rfl⟩ := slice_form hR.own
        have ho1 := own_base hR.own
        rw [List.take_of_length_le (by have := HN.out; omega)] at ho1
        have R1 := RefM.put (k := 3) (h.out.keep hR.bel) (by decide) (v := .slice x1 n1 c1) (X := (A 3).filter (· ≠ i)) ho1 (fun e => by have := (hR.own.lt b e).1; have := h.out.lt.1; omega)
        have G1 := grown_put (b := b) (k := 3) hR.bel (.slice x1 n1 c1)
        have C1 := (Comes.refl V w.heap.size).up 3 (v := .slice x1 n1 c1) (fun g hg => Or.inl (hR.own.lt g hg).1)
        replace R1 := Lib.hid R1
        replace G1 := Lib.hid G1
        replace C1 := Lib.hid C1
        clear ho1 hR
        go_wp2
        replace R1 := R1.out
        replace G1 := G1.out
        replace C1 := C1.out
        generalize hV1 : upV V 3 (.slice x1 n1 c1) = V1 at R1 C1
        have hVy : V1 2 = V 2 := by rw [← hV1]; rfl
        clear hV1 d3 z3
        generalize wr.setCell ⟨b, 3, none⟩ (.slice x1 n1 c1) = w3 at R1 G1 ⊢
        have hck := R1.c 2 (by decide)
        have hzk := R1.z 2
        rw [hVy] at hck
        have hb := R1.lt.1
        have MK : Hid (∀ wX, Below w3.heap.size w3 wX → wX.cell? ⟨b, 2, none⟩ = some (V 2) ∧ wX.frozen? ⟨b, 2, none⟩ = false ∧ Below w3.heap.size w3 wX) := Lib.hid (fun wX hX => ⟨(hX.cell hb).trans hck, (hX.frozen hb).trans hzk, hX⟩)
        have T1 : Hid (∀ wX, Below w3.heap.size w3 wX → Reads wX (V 2) (A 2)) := Lib.hid (fun wX hX => by have := SL.keep (R1.own 2 (by decide)) hX; rw [hVy] at this; exact this.reads)
        replace R1 := Lib.hid R1
        replace G1 := Lib.hid G1
        replace C1 := Lib.hid C1
        refine wp_region_last (d := 14) (fuel := 14) (S := (fun w' => w'.cell? ⟨b, 2, none⟩ = some (V 2) ∧ w'.frozen? ⟨b, 2, none⟩ = false ∧ Below w3.heap.size w3 w')) (by kernel_rfl) (by kernel_rfl) rfl ?_ (fun hHeld => ?_)
        · (try dsimp only); (refine MK.out _ ?_; first | exact hB2 | exact hB1 | exact (Below.refl _ _).drew | exact ((Below.refl _ _).alloc (Nat.le_refl _) _).drew | exact (((Below.refl _ _).alloc (Nat.le_refl _) _).alloc (by simp) _).drew | exact hHeld.2.2.alloc hHeld.2.2.size _)
        try simp only [Act.put, List.setIfInBounds_toArray, List.set_cons_zero, List.set_cons_succ]
        refine wpAnyH_take (i := 0) (oi := { dst := some 35, op := Op.move (Operand.tmp 0), type := 75, pos := "ref.go:129", after := #[], guard := none }) (v := ?_) rfl (by kernel_rfl) (by kernel_rfl) (by kernel_rfl) (fun _ _ _ h => h) (Or.inl ⟨by rfl, ?_⟩) (by assumption) ?_
        rotate_left 1
        · intro w hSw; (try dsimp only at hSw); go_simp <;> with_reducible rfl
        try simp only [Act.put, List.setIfInBounds_toArray, List.set_cons_zero, List.set_cons_succ]
        refine wpAnyH_take (i := 2) (oi := { dst := some 37, op := Op.move (Operand.tmp 0), type := 75, pos := "ref.go:129", after := #[], guard := none }) (v := ?_) rfl (by kernel_rfl) (by kernel_rfl) (by kernel_rfl) (fun _ _ _ h => h) (Or.inl ⟨by rfl, ?_⟩) (by assumption) ?_
        rotate_left 1
        · intro w hSw; (try dsimp only at hSw); go_simp <;> with_reducible rfl
        try simp only [Act.put, List.setIfInBounds_toArray, List.set_cons_zero, List.set_cons_succ]
        refine wpAnyH_take (i := 3) (oi := { dst := some 38, op := Op.nilCheck (Operand.tmp 37), type := 0, pos := "ref.go:129", after := #[{ on := 2, ground := Ground.data }], guard := none }) (v := ?_) rfl (by kernel_rfl) (by kernel_rfl) (by kernel_rfl) (fun _ _ _ h => h) (Or.inl ⟨by rfl, ?_⟩) (by assumption) ?_
        rotate_left 1
        · intro w hSw; (try dsimp only at hSw); go_simp <;> with_reducible rfl
        try simp only [Act.put, List.setIfInBounds_toArray, List.set_cons_zero, List.set_cons_succ]
        refine wpAnyH_take (i := 4) (oi := { dst := some 39, op := Op.fieldAddr 88 (Operand.tmp 38) 0, type := 0, pos := "ref.go:129", after := #[{ on := 3, ground := Ground.data }], guard := none }) (v := ?_) rfl (by kernel_rfl) (by kernel_rfl) (by kernel_rfl) (fun _ _ _ h => h) (Or.inl ⟨by rfl, ?_⟩) (by assumption) ?_
        rotate_left 1
        · intro w hSw; (try dsimp only at hSw); go_simp <;> with_reducible rfl
        try simp only [Act.put, List.setIfInBounds_toArray, List.set_cons_zero, List.set_cons_succ]
        refine wpAnyH_take (i := 5) (oi := { dst := some 40, op := Op.indexAddr 86 (Operand.tmp 39) (Operand.const (Value.int IntKind.i64 2)), type := 0, pos := "ref.go:129", after := #[{ on := 4, ground := Ground.data }], guard := none }) (v := ?_) rfl (by kernel_rfl) (by kernel_rfl) (by kernel_rfl) (fun _ _ _ h => h) (Or.inl ⟨by rfl, ?_⟩) (by assumption) ?_
        rotate_left 1
        · intro w hSw; (try dsimp only at hSw); go_simp <;> with_reducible rfl
        try simp only [Act.put, List.setIfInBounds_toArray, List.set_cons_zero, List.set_cons_succ]
        refine wpAnyH_take (i := 6) (oi := { dst := some 41, op := Op.load 56 (Operand.tmp 40), type := 56, pos := "ref.go:129", after := #[{ on := 5, ground := Ground.data }], guard := none }) (v := ?_) rfl (by kernel_rfl) (by kernel_rfl) (by kernel_rfl) (fun _ _ _ h => h) (Or.inl ⟨by rfl, ?_⟩) (by assumption) ?_
        rotate_left 1
        · intro w hSw; (try dsimp only at hSw); go_simp <;> with_reducible rfl
        try simp only [Act.put, List.setIfInBounds_toArray, List.set_cons_zero, List.set_cons_succ]
        refine wpAnyH_take (i := 8) (oi := { dst := some 43, op := Op.move (Operand.tmp 1), type := 3, pos := "ref.go:129", after := #[], guard := none }) (v := ?_) rfl (by kernel_rfl) (by kernel_rfl) (by kernel_rfl) (fun _ _ _ h => h) (Or.inl ⟨by rfl, ?_⟩) (by assumption) ?_
        rotate_left 1
        · intro w hSw; (try dsimp only at hSw); go_simp <;> with_reducible rfl
        try simp only [Act.put, List.setIfInBounds_toArray, List.set_cons_zero, List.set_cons_succ]
        refine wpAnyH_take (i := 11) (oi := { dst := some 46, op := Op.nilCheck (Operand.tmp 35), type := 0, pos := "ref.go:129", after := #[{ on := 0, ground := Ground.data }], guard := none }) (v := ?_) rfl (by kernel_rfl) (by kernel_rfl) (by kernel_rfl) (fun _ _ _ h => h) (Or.inl ⟨by rfl, ?_⟩) (by assumption) ?_
        rotate_left 1
        · intro w hSw; (try dsimp only at hSw); go_simp <;> with_reducible rfl
        try simp only [Act.put, List.setIfInBounds_toArray, List.set_cons_zero, List.set_cons_succ]
        refine wpAnyH_take (i := 12) (oi := { dst := some 47, op := Op.fieldAddr 88 (Operand.tmp 46) 0, type := 0, pos := "ref.go:129", after := #[{ on := 11, ground := Ground.data }], guard := none }) (v := ?_) rfl (by kernel_rfl) (by kernel_rfl) (by kernel_rfl) (fun _ _ _ h => h) (Or.inl ⟨by rfl, ?_⟩) (by assumption) ?_
        rotate_left 1
        · intro w hSw; (try dsimp only at hSw); go_simp <;> with_reducible rfl
        try simp only [Act.put, List.setIfInBounds_toArray, List.set_cons_zero, List.set_cons_succ]
        refine wpAnyH_ready (rs := [1, 9]) (by kernel_rfl) (by simp) ?_
        refine AllReadyH.cons (o := { dst := some 36, op := Op.buildSlice 56 0 #[], type := 56, pos := "ref.go:129", after := #[], guard := none }) rfl (fun K hK => ?_) ?_
        · go_simp
          refine hK.out _ _ ?_ ?_
          · (try dsimp only); (refine MK.out _ ?_; first | exact hB2 | exact hB1 | exact (Below.refl _ _).drew | exact ((Below.refl _ _).alloc (Nat.le_refl _) _).drew | exact (((Below.refl _ _).alloc (Nat.le_refl _) _).alloc (by simp) _).drew | exact hHeld.2.2.alloc hHeld.2.2.size _)
          clear hK K hHeld; intro hHeld
          try simp only [Act.put, List.setIfInBounds_toArray, List.set_cons_zero, List.set_cons_succ]
          refine wpAnyH_ready (rs := [7, 9]) (by kernel_rfl) (by simp) ?_
          refine AllReadyH.cons (o := { dst := some 42, op := Op.call { callee := Callee.builtin Builtin.append, args := #[Operand.tmp 36, Operand.tmp 41], argTypes := #[56, 56] }, type := 56, pos := "ref.go:129", after := #[{ on := 1, ground := Ground.data }, { on := 6, ground := Ground.data }], guard := none }) rfl (fun K hK => ?_) ?_
          · refine step_app rfl (.tmp 36) (.tmp 41) rfl w3.heap.size 0 (.slice (some ⟨w3.heap.size, 0, none⟩) 0 0) _ [] (A 2) rfl rfl (by first | exact World.ownsRow_made w3 #[] 0 (Nat.le_refl _) (by decide) rfl | exact (World.ownsRow_made w3 #[] 0 (Nat.le_refl _) (by decide) rfl).alloc _ | exact made_after _ _ _) (T1.out _ hHeld.2.2) (by first | omega | (simp; omega)) hHeld.2.2.size ?_; intro v1 w1 hown1 hgrow1 hat1; have hB1 : Below w3.heap.size w3 w1 := hHeld.2.2.grown hgrow1 hHeld.2.2.size (fun k hk => by simp [Value.ownBlock] at hk; omega); simp only [List.nil_append, Nat.zero_add] at hown1; obtain ⟨x1, n1, c1, rfl⟩ := slice_form hown1
            refine hK.out _ _ ?_ ?_
            · (try dsimp only); (refine MK.out _ ?_; first | exact hB2 | exact hB1 | exact (Below.refl _ _).drew | exact ((Below.refl _ _).alloc (Nat.le_refl _) _).drew | exact (((Below.refl _ _).alloc (Nat.le_refl _) _).alloc (by simp) _).drew | exact hHeld.2.2.alloc hHeld.2.2.size _)
            clear hK K hHeld; intro hHeld
            try simp only [Act.put, List.setIfInBounds_toArray, List.set_cons_zero, List.set_cons_succ]
            refine wpAnyH_ready (rs := [9]) (by kernel_rfl) (by simp) ?_
            refine AllReadyH.cons (o := { dst := some 44, op := Op.buildSlice 56 1 #[(0, Operand.tmp 43)], type := 56, pos := "ref.go:129", after := #[{ on := 8, ground := Ground.data }], guard := none }) rfl (fun K hK => ?_) ?_
            · go_simp
              refine hK.out _ _ ?_ ?_
              · (try dsimp only); (refine MK.out _ ?_; first | exact hB2 | exact hB1 | exact (Below.refl _ _).drew | exact ((Below.refl _ _).alloc (Nat.le_refl _) _).drew | exact (((Below.refl _ _).alloc (Nat.le_refl _) _).alloc (by simp) _).drew | exact hHeld.2.2.alloc hHeld.2.2.size _)
              clear hK K hHeld; intro hHeld
              try simp only [Act.put, List.setIfInBounds_toArray, List.set_cons_zero, List.set_cons_succ]
              refine wpAnyH_ready (rs := [10]) (by kernel_rfl) (by simp) ?_
              refine AllReadyH.cons (o := { dst := some 45, op := Op.call { callee := Callee.builtin Builtin.append, args := #[Operand.tmp 42, Operand.tmp 44], argTypes := #[56, 56] }, type := 56, pos := "ref.go:129", after := #[{ on := 7, ground := Ground.data }, { on := 9, ground := Ground.data }, { on := 7, ground := Ground.chain }], guard := none }) rfl (fun K hK => ?_) ?_
              · refine step_app rfl (.tmp 42) (.tmp 44) rfl w3.heap.size _ _ _ _ [i] rfl rfl (by first | exact hown1 | exact hown1.alloc _) (Reads.one (by first | exact (World.cell?_alloc_new _ _ _ 0).trans rfl | exact hgrow1.cell (by first | (simp; done) | exact (World.cell?_alloc_lt _ _ _ (by simp)).trans ((World.cell?_alloc_new _ _ _ 0).trans rfl)) (by simp [Value.ownBlock]))) (by first | omega | (simp; omega)) hHeld.2.2.size ?_; intro v2 w2 hown2 hgrow2 hat2; have hB2 : Below w3.heap.size w3 w2 := hHeld.2.2.grown hgrow2 hHeld.2.2.size (fun k hk => (hown1.lt k hk).1); rw [← List.length_append] at hown2; obtain ⟨x2, n2, c2, rfl⟩ := slice_form hown2
                refine hK.out _ _ ?_ ?_
                · (try dsimp only); (refine MK.out _ ?_; first | exact hB2 | exact hB1 | exact (Below.refl _ _).drew | exact ((Below.refl _ _).alloc (Nat.le_refl _) _).drew | exact (((Below.refl _ _).alloc (Nat.le_refl _) _).alloc (by simp) _).drew | exact hHeld.2.2.alloc hHeld.2.2.size _)
                clear hK K hHeld; intro hHeld
                try simp only [Act.put, List.setIfInBounds_toArray, List.set_cons_zero, List.set_cons_succ]
                refine wpAnyH_take (i := 13) (oi := { dst := some 48, op := Op.indexAddr 86 (Operand.tmp 47) (Operand.const (Value.int IntKind.i64 2)), type := 0, pos := "ref.go:129", after := #[{ on := 12, ground := Ground.data }, { on := 0, ground := Ground.phase }, { on := 1, ground := Ground.phase }, { on := 2, ground := Ground.phase }, { on := 3, ground := Ground.phase }, { on := 4, ground := Ground.phase }, { on := 5, ground := Ground.phase }, { on := 6, ground := Ground.phase }, { on := 7, ground := Ground.phase }, { on := 8, ground := Ground.phase }, { on := 9, ground := Ground.phase }, { on := 10, ground := Ground.phase }], guard := none }) (v := ?_) rfl (by kernel_rfl) (by kernel_rfl) (by kernel_rfl) (fun _ _ _ h => h) (Or.inl ⟨by rfl, ?_⟩) (by assumption) ?_
                rotate_left 1
                · intro w hSw; (try dsimp only at hSw); go_simp <;> with_reducible rfl
                try simp only [Act.put, List.setIfInBounds_toArray, List.set_cons_zero, List.set_cons_succ]
                refine last_step (o := { dst := none, op := Op.store 56 (Operand.tmp 48) (Operand.tmp 45), type := 0, pos := "ref.go:129", after := #[{ on := 13, ground := Ground.data }, { on := 10, ground := Ground.data }, { on := 10, ground := Ground.chain }, { on := 0, ground := Ground.phase }, { on := 1, ground := Ground.phase }, { on := 2, ground := Ground.phase }, { on := 3, ground := Ground.phase }, { on := 4, ground := Ground.phase }, { on := 5, ground := Ground.phase }, { on := 6, ground := Ground.phase }, { on := 7, ground := Ground.phase }, { on := 8, ground := Ground.phase }, { on := 9, ground := Ground.phase }, { on := 10, ground := Ground.phase }], guard := none }) rfl (by kernel_rfl) (fun K hK => ?_)
                go_simp
                refine hK.out _ _ ?_
                clear hK K
                try simp only [Act.put, List.setIfInBounds_toArray, List.set_cons_zero, List.set_cons_succ]
                have R2 := Lib.hid (RefM.put (k := 2) (R1.out.keep hHeld.2.2) (by decide) (own_base hown2) (fun e => by have := (hown2.lt b e).1; have := R1.out.lt.1; omega))
                have G2 := Lib.hid (grown_put2 (k := 2) G1.out hHeld.2.2 (.slice x2 n2 c2))
                have C2 := Lib.hid (C1.out.up 2 (v := .slice x2 n2 c2) (fun g hg => Or.inl (Nat.le_trans G1.out.size (hown2.lt g hg).1)))
                go_wp2
                go_ret
                exact ⟨rfl, _, R2.out, G2.out, C2.out⟩
              exact AllReadyH.nil
            exact AllReadyH.nil
          refine AllReadyH.cons (o := { dst := some 44, op := Op.buildSlice 56 1 #[(0, Operand.tmp 43)], type := 56, pos := "ref.go:129", after := #[{ on := 8, ground := Ground.data }], guard := none }) rfl (fun K hK => ?_) ?_
          · go_simp
            refine hK.out _ _ ?_ ?_
            · (try dsimp only); (refine MK.out _ ?_; first | exact hB2 | exact hB1 | exact (Below.refl _ _).drew | exact ((Below.refl _ _).alloc (Nat.le_refl _) _).drew | exact (((Below.refl _ _).alloc (Nat.le_refl _) _).alloc (by simp) _).drew | exact hHeld.2.2.alloc hHeld.2.2.size _)
            clear hK K hHeld; intro hHeld
            try simp only [Act.put, List.setIfInBounds_toArray, List.set_cons_zero, List.set_cons_succ]
            refine wpAnyH_ready (rs := [7]) (by kernel_rfl) (by simp) ?_
            refine AllReadyH.cons (o := { dst := some 42, op := Op.call { callee := Callee.builtin Builtin.append, args := #[Operand.tmp 36, Operand.tmp 41], argTypes := #[56, 56] }, type := 56, pos := "ref.go:129", after := #[{ on := 1, ground := Ground.data }, { on := 6, ground := Ground.data }], guard := none }) rfl (fun K hK => ?_) ?_
            · refine step_app rfl (.tmp 36) (.tmp 41) rfl w3.heap.size 0 (.slice (some ⟨w3.heap.size, 0, none⟩) 0 0) _ [] (A 2) rfl rfl (by first | exact World.ownsRow_made w3 #[] 0 (Nat.le_refl _) (by decide) rfl | exact (World.ownsRow_made w3 #[] 0 (Nat.le_refl _) (by decide) rfl).alloc _ | exact made_after _ _ _) (T1.out _ hHeld.2.2) (by first | omega | (simp; omega)) hHeld.2.2.size ?_; intro v1 w1 hown1 hgrow1 hat1; have hB1 : Below w3.heap.size w3 w1 := hHeld.2.2.grown hgrow1 hHeld.2.2.size (fun k hk => by simp [Value.ownBlock] at hk; omega); simp only [List.nil_append, Nat.zero_add] at hown1; obtain ⟨x1, n1, c1, rfl⟩ := slice_form hown1
              refine hK.out _ _ ?_ ?_
              · (try dsimp only); (refine MK.out _ ?_; first | exact hB2 | exact hB1 | exact (Below.refl _ _).drew | exact ((Below.refl _ _).alloc (Nat.le_refl _) _).drew | exact (((Below.refl _ _).alloc (Nat.le_refl _) _).alloc (by simp) _).drew | exact hHeld.2.2.alloc hHeld.2.2.size _)
              clear hK K hHeld; intro hHeld
              try simp only [Act.put, List.setIfInBounds_toArray, List.set_cons_zero, List.set_cons_succ]
              refine wpAnyH_ready (rs := [10]) (by kernel_rfl) (by simp) ?_
              refine AllReadyH.cons (o := { dst := some 45, op := Op.call { callee := Callee.builtin Builtin.append, args := #[Operand.tmp 42, Operand.tmp 44], argTypes := #[56, 56] }, type := 56, pos := "ref.go:129", after := #[{ on := 7, ground := Ground.data }, { on := 9, ground := Ground.data }, { on := 7, ground := Ground.chain }], guard := none }) rfl (fun K hK => ?_) ?_
              · refine step_app rfl (.tmp 42) (.tmp 44) rfl w3.heap.size _ _ _ _ [i] rfl rfl (by first | exact hown1 | exact hown1.alloc _) (Reads.one (by first | exact (World.cell?_alloc_new _ _ _ 0).trans rfl | exact hgrow1.cell (by first | (simp; done) | exact (World.cell?_alloc_lt _ _ _ (by simp)).trans ((World.cell?_alloc_new _ _ _ 0).trans rfl)) (by simp [Value.ownBlock]))) (by first | omega | (simp; omega)) hHeld.2.2.size ?_; intro v2 w2 hown2 hgrow2 hat2; have hB2 : Below w3.heap.size w3 w2 := hHeld.2.2.grown hgrow2 hHeld.2.2.size (fun k hk => (hown1.lt k hk).1); rw [← List.length_append] at hown2; obtain ⟨x2, n2, c2, rfl⟩ := slice_form hown2
                refine hK.out _ _ ?_ ?_
                · (try dsimp only); (refine MK.out _ ?_; first | exact hB2 | exact hB1 | exact (Below.refl _ _).drew | exact ((Below.refl _ _).alloc (Nat.le_refl _) _).drew | exact (((Below.refl _ _).alloc (Nat.le_refl _) _).alloc (by simp) _).drew | exact hHeld.2.2.alloc hHeld.2.2.size _)
                clear hK K hHeld; intro hHeld
                try simp only [Act.put, List.setIfInBounds_toArray, List.set_cons_zero, List.set_cons_succ]
                refine wpAnyH_take (i := 13) (oi := { dst := some 48, op := Op.indexAddr 86 (Operand.tmp 47) (Operand.const (Value.int IntKind.i64 2)), type := 0, pos := "ref.go:129", after := #[{ on := 12, ground := Ground.data }, { on := 0, ground := Ground.phase }, { on := 1, ground := Ground.phase }, { on := 2, ground := Ground.phase }, { on := 3, ground := Ground.phase }, { on := 4, ground := Ground.phase }, { on := 5, ground := Ground.phase }, { on := 6, ground := Ground.phase }, { on := 7, ground := Ground.phase }, { on := 8, ground := Ground.phase }, { on := 9, ground := Ground.phase }, { on := 10, ground := Ground.phase }], guard := none }) (v := ?_) rfl (by kernel_rfl) (by kernel_rfl) (by kernel_rfl) (fun _ _ _ h => h) (Or.inl ⟨by rfl, ?_⟩) (by assumption) ?_
                rotate_left 1
                · intro w hSw; (try dsimp only at hSw); go_simp <;> with_reducible rfl
                try simp only [Act.put, List.setIfInBounds_toArray, List.set_cons_zero, List.set_cons_succ]
                refine last_step (o := { dst := none, op := Op.store 56 (Operand.tmp 48) (Operand.tmp 45), type := 0, pos := "ref.go:129", after := #[{ on := 13, ground := Ground.data }, { on := 10, ground := Ground.data }, { on := 10, ground := Ground.chain }, { on := 0, ground := Ground.phase }, { on := 1, ground := Ground.phase }, { on := 2, ground := Ground.phase }, { on := 3, ground := Ground.phase }, { on := 4, ground := Ground.phase }, { on := 5, ground := Ground.phase }, { on := 6, ground := Ground.phase }, { on := 7, ground := Ground.phase }, { on := 8, ground := Ground.phase }, { on := 9, ground := Ground.phase }, { on := 10, ground := Ground.phase }], guard := none }) rfl (by kernel_rfl) (fun K hK => ?_)
                go_simp
                refine hK.out _ _ ?_
                clear hK K
                try simp only [Act.put, List.setIfInBounds_toArray, List.set_cons_zero, List.set_cons_succ]
                have R2 := Lib.hid (RefM.put (k := 2) (R1.out.keep hHeld.2.2) (by decide) (own_base hown2) (fun e => by have := (hown2.lt b e).1; have := R1.out.lt.1; omega))
                have G2 := Lib.hid (grown_put2 (k := 2) G1.out hHeld.2.2 (.slice x2 n2 c2))
                have C2 := Lib.hid (C1.out.up 2 (v := .slice x2 n2 c2) (fun g hg => Or.inl (Nat.le_trans G1.out.size (hown2.lt g hg).1)))
                go_wp2
                go_ret
                exact ⟨rfl, _, R2.out, G2.out, C2.out⟩
              exact AllReadyH.nil
            exact AllReadyH.nil
          exact AllReadyH.nil
        refine AllReadyH.cons (o := { dst := some 44, op := Op.buildSlice 56 1 #[(0, Operand.tmp 43)], type := 56, pos := "ref.go:129", after := #[{ on := 8, ground := Ground.data }], guard := none }) rfl (fun K hK => ?_) ?_
        · go_simp
          refine hK.out _ _ ?_ ?_
          · (try dsimp only); (refine MK.out _ ?_; first | exact hB2 | exact hB1 | exact (Below.refl _ _).drew | exact ((Below.refl _ _).alloc (Nat.le_refl _) _).drew | exact (((Below.refl _ _).alloc (Nat.le_refl _) _).alloc (by simp) _).drew | exact hHeld.2.2.alloc hHeld.2.2.size _)
          clear hK K hHeld; intro hHeld
          try simp only [Act.put, List.setIfInBounds_toArray, List.set_cons_zero, List.set_cons_succ]
          refine wpAnyH_ready (rs := [1]) (by kernel_rfl) (by simp) ?_
          refine AllReadyH.cons (o := { dst := some 36, op := Op.buildSlice 56 0 #[], type := 56, pos := "ref.go:129", after := #[], guard := none }) rfl (fun K hK => ?_) ?_
          · go_simp
            refine hK.out _ _ ?_ ?_
            · (try dsimp only); (refine MK.out _ ?_; first | exact hB2 | exact hB1 | exact (Below.refl _ _).drew | exact ((Below.refl _ _).alloc (Nat.le_refl _) _).drew | exact (((Below.refl _ _).alloc (Nat.le_refl _) _).alloc (by simp) _).drew | exact hHeld.2.2.alloc hHeld.2.2.size _)
            clear hK K hHeld; intro hHeld
            try simp only [Act.put, List.setIfInBounds_toArray, List.set_cons_zero, List.set_cons_succ]
            refine wpAnyH_ready (rs := [7]) (by kernel_rfl) (by simp) ?_
            refine AllReadyH.cons (o := { dst := some 42, op := Op.call { callee := Callee.builtin Builtin.append, args := #[Operand.tmp 36, Operand.tmp 41], argTypes := #[56, 56] }, type := 56, pos := "ref.go:129", after := #[{ on := 1, ground := Ground.data }, { on := 6, ground := Ground.data }], guard := none }) rfl (fun K hK => ?_) ?_
            · refine step_app rfl (.tmp 36) (.tmp 41) rfl w3.heap.size 0 (.slice (some ⟨w3.heap.size + 1, 0, none⟩) 0 0) _ [] (A 2) rfl rfl (by first | exact World.ownsRow_made w3 #[] 0 (Nat.le_refl _) (by decide) rfl | exact (World.ownsRow_made w3 #[] 0 (Nat.le_refl _) (by decide) rfl).alloc _ | exact made_after _ _ _) (T1.out _ hHeld.2.2) (by first | omega | (simp; omega)) hHeld.2.2.size ?_; intro v1 w1 hown1 hgrow1 hat1; have hB1 : Below w3.heap.size w3 w1 := hHeld.2.2.grown hgrow1 hHeld.2.2.size (fun k hk => by simp [Value.ownBlock] at hk; omega); simp only [List.nil_append, Nat.zero_add] at hown1; obtain ⟨x1, n1, c1, rfl⟩ := slice_form hown1
              refine hK.out _ _ ?_ ?_
              · (try dsimp only); (refine MK.out _ ?_; first | exact hB2 | exact hB1 | exact (Below.refl _ _).drew | exact ((Below.refl _ _).alloc (Nat.le_refl _) _).drew | exact (((Below.refl _ _).alloc (Nat.le_refl _) _).alloc (by simp) _).drew | exact hHeld.2.2.alloc hHeld.2.2.size _)
              clear hK K hHeld; intro hHeld
              try simp only [Act.put, List.setIfInBounds_toArray, List.set_cons_zero, List.set_cons_succ]
              refine wpAnyH_ready (rs := [10]) (by kernel_rfl) (by simp) ?_
              refine AllReadyH.cons (o := { dst := some 45, op := Op.call { callee := Callee.builtin Builtin.append, args := #[Operand.tmp 42, Operand.tmp 44], argTypes := #[56, 56] }, type := 56, pos := "ref.go:129", after := #[{ on := 7, ground := Ground.data }, { on := 9, ground := Ground.data }, { on := 7, ground := Ground.chain }], guard := none }) rfl (fun K hK => ?_) ?_
              · refine step_app rfl (.tmp 42) (.tmp 44) rfl w3.heap.size _ _ _ _ [i] rfl rfl (by first | exact hown1 | exact hown1.alloc _) (Reads.one (by first | exact (World.cell?_alloc_new _ _ _ 0).trans rfl | exact hgrow1.cell (by first | (simp; done) | exact (World.cell?_alloc_lt _ _ _ (by simp)).trans ((World.cell?_alloc_new _ _ _ 0).trans rfl)) (by simp [Value.ownBlock]))) (by first | omega | (simp; omega)) hHeld.2.2.size ?_; intro v2 w2 hown2 hgrow2 hat2; have hB2 : Below w3.heap.size w3 w2 := hHeld.2.2.grown hgrow2 hHeld.2.2.size (fun k hk => (hown1.lt k hk).1); rw [← List.length_append] at hown2; obtain ⟨x2, n2, c2, rfl⟩ := slice_form hown2
                refine hK.out _ _ ?_ ?_
                · (try dsimp only); (refine MK.out _ ?_; first | exact hB2 | exact hB1 | exact (Below.refl _ _).drew | exact ((Below.refl _ _).alloc (Nat.le_refl _) _).drew | exact (((Below.refl _ _).alloc (Nat.le_refl _) _).alloc (by simp) _).drew | exact hHeld.2.2.alloc hHeld.2.2.size _)
                clear hK K hHeld; intro hHeld
                try simp only [Act.put, List.setIfInBounds_toArray, List.set_cons_zero, List.set_cons_succ]
                refine wpAnyH_take (i := 13) (oi := { dst := some 48, op := Op.indexAddr 86 (Operand.tmp 47) (Operand.const (Value.int IntKind.i64 2)), type := 0, pos := "ref.go:129", after := #[{ on := 12, ground := Ground.data }, { on := 0, ground := Ground.phase }, { on := 1, ground := Ground.phase }, { on := 2, ground := Ground.phase }, { on := 3, ground := Ground.phase }, { on := 4, ground := Ground.phase }, { on := 5, ground := Ground.phase }, { on := 6, ground := Ground.phase }, { on := 7, ground := Ground.phase }, { on := 8, ground := Ground.phase }, { on := 9, ground := Ground.phase }, { on := 10, ground := Ground.phase }], guard := none }) (v := ?_) rfl (by kernel_rfl) (by kernel_rfl) (by kernel_rfl) (fun _ _ _ h => h) (Or.inl ⟨by rfl, ?_⟩) (by assumption) ?_
                rotate_left 1
                · intro w hSw; (try dsimp only at hSw); go_simp <;> with_reducible rfl
                try simp only [Act.put, List.setIfInBounds_toArray, List.set_cons_zero, List.set_cons_succ]
                refine last_step (o := { dst := none, op := Op.store 56 (Operand.tmp 48) (Operand.tmp 45), type := 0, pos := "ref.go:129", after := #[{ on := 13, ground := Ground.data }, { on := 10, ground := Ground.data }, { on := 10, ground := Ground.chain }, { on := 0, ground := Ground.phase }, { on := 1, ground := Ground.phase }, { on := 2, ground := Ground.phase }, { on := 3, ground := Ground.phase }, { on := 4, ground := Ground.phase }, { on := 5, ground := Ground.phase }, { on := 6, ground := Ground.phase }, { on := 7, ground := Ground.phase }, { on := 8, ground := Ground.phase }, { on := 9, ground := Ground.phase }, { on := 10, ground := Ground.phase }], guard := none }) rfl (by kernel_rfl) (fun K hK => ?_)
                go_simp
                refine hK.out _ _ ?_
                clear hK K
                try simp only [Act.put, List.setIfInBounds_toArray, List.set_cons_zero, List.set_cons_succ]
                have R2 := Lib.hid (RefM.put (k := 2) (R1.out.keep hHeld.2.2) (by decide) (own_base hown2) (fun e => by have := (hown2.lt b e).1; have := R1.out.lt.1; omega))
                have G2 := Lib.hid (grown_put2 (k := 2) G1.out hHeld.2.2 (.slice x2 n2 c2))
                have C2 := Lib.hid (C1.out.up 2 (v := .slice x2 n2 c2) (fun g hg => Or.inl (Nat.le_trans G1.out.size (hown2.lt g hg).1)))
                go_wp2
                go_ret
                exact ⟨rfl, _, R2.out, G2.out, C2.out⟩
              exact AllReadyH.nil
            exact AllReadyH.nil
          exact AllReadyH.nil
        exact AllReadyH.nil
  · have eA : shadeA A i = A := by unfold shadeA; rw [if_neg hc]
    rw [eA, decide_eq_false hc]
    have hc' : (colorR A i != 3) = true := by simpa using hc
    have P0 := Lib.hid (rcolor_c i b A V w h hl)
    generalize colorR A i = u at *
    replace h := Lib.hid h
    clear eA hc
    go_enter Tryz.func95, Tryz.ntmps95
    go_wp2_with (first | (go_at_call 55; ((with_reducible refine P0.out.mono ?_); rintro e w' ⟨rfl, hw'⟩; subst w')))
    go_ret
    exact ⟨rfl, V, h.out, grown_refl _ _, Comes.refl _ _⟩
end Wd
end Go.Proofs.YtdaojohdmidemaaGreat

/- The document's own mill: Flip. -/
namespace Go.Proofs.YtdaojohdmidemaaGreat
open Go.RowKit
set_option linter.unusedVariables false
namespace Wd
theorem grown_cells {w w1 : World} {b : Nat} (g : w.grownBy w1 (some b)) (k : Nat) (v : Value) : w.grownBy (w1.setCell ⟨b, k, none⟩ v) (some b) := by
  refine ⟨g.os, g.tape, g.output, by simpa [World.setCell] using g.size, fun j hj hne => ?_⟩
  rw [Below.heap_setCell _ _ _ _ (by simpa using hne)]
  exact g.block j hj hne
theorem grown_drew {w w1 : World} {row : Option Nat} (g : w.grownBy w1 row) : w.grownBy w1.drew row := ⟨g.os, g.tape, g.output, g.size, g.block⟩
theorem below_row {w w1 : World} {row : Option Nat} (h : Below w.heap.size w w1) : w.grownBy w1 row := ⟨h.os, h.tape, h.output, h.size, fun k hk _ => h.block k hk⟩
set_option maxHeartbeats 16000000 in
theorem rflip_c (b : Nat) (A : Mst) (V : Nat → Value) (w : World) (h : RefM w b A V) (hl : ∀ k, k < 4 → (A k).length ≤ 8192) :
    Calls Tryz.prog 71 #[.pointer (some ⟨b, 0, none⟩)] w fun e w' => ∃ u V', e = .returned u ∧ RefM w' b (flipA A) V' ∧ w.grownBy w' (some b) ∧ Comes V V' w.heap.size ∧ SL w' 3 u (flipR A) ∧ (∀ g, u.ownBlock = some g → w.heap.size ≤ g) := by
  have c2 := h.c 2 (by decide)
  obtain ⟨a2, k2, hv2⟩ := (h.own 2 (by decide)).form
  rw [hv2] at c2
  by_cases hg : A 2 = []
  · have eA : flipA A = upA (upA (upA A 0 (A 0 ++ A 3)) 3 (A 1)) 1 [] := by unfold flipA; rw [if_pos hg]
    have eR : flipR A = A 3 := by unfold flipR; rw [if_pos hg]
    rw [eA, eR]
    rw [hg] at c2
    have c3 := h.c 3 (by decide)
    have hb := h.lt.1
    have hl0 := hl 0 (by decide)
    have hl3 := hl 3 (by decide)
    have RD := (h.own 3 (by decide)).reads
    replace h := Lib.hid h
    replace RD := Lib.hid RD
    clear eA eR hv2 hg
    go_enter Tryz.func71, Tryz.ntmps71
    go_wp2_with (first | (at_builtin; refine wpList_app rfl (.tmp 11) (.tmp 16) rfl w.heap.size 0 (.slice (some ⟨w.heap.size, 0, none⟩) 0 0) _ [] (A 3) (by simp [Act.eval]) rfl (World.ownsRow_made w #[] 0 (Nat.le_refl _) (by decide) rfl) ((SL.keep (h.out.own 3 (by decide)) ((Below.refl _ _).alloc (Nat.le_refl _) _)).reads) (by omega) (by simp) ?_; intro v1 w1 hown1 hgrow1 hat1; have hB1 : Below w.heap.size w w1 := ((Below.refl _ _).alloc (Nat.le_refl _) _).grown hgrow1 (by simp) (fun k hk => by simp [Value.ownBlock] at hk; omega); simp only [List.nil_append, Nat.zero_add] at hown1; obtain ⟨x1, n1, c1, rfl⟩ := slice_form hown1; have RW := Lib.hid (h.out.keep hB1); have FN : Hid (∀ g, (Value.slice x1 n1 c1).ownBlock = some g → w.heap.size ≤ g) := Lib.hid (fun g hg => (hown1.lt g hg).1); have O1 : Hid (SL w1 3 (.slice x1 n1 c1) (A 3)) := Lib.hid (own_base hown1); have G0 : Hid (w.grownBy w1 (some b)) := Lib.hid (below_row hB1); clear hown1 hgrow1 hat1 hB1 RD c2 c3))
    have FB : Hid ((Value.slice x1 n1 c1).ownBlock ≠ some b) := Lib.hid (fun e => by have := FN.out b e; omega)
    have hck := RW.out.c 0 (by decide)
    have hzk := RW.out.z 0
    have hb1 := RW.out.lt.1
    have MK : Hid (∀ wX, Below w1.heap.size w1 wX → wX.cell? ⟨b, 0, none⟩ = some (V 0) ∧ wX.frozen? ⟨b, 0, none⟩ = false ∧ Below w1.heap.size w1 wX) := Lib.hid (fun wX hX => ⟨(hX.cell hb1).trans hck, (hX.frozen hb1).trans hzk, hX⟩)
    have T1 : Hid (∀ wX, Below w1.heap.size w1 wX → Reads wX (V 0) (A 0)) := Lib.hid (fun wX hX => (SL.keep (RW.out.own 0 (by decide)) hX).reads)
    refine wp_region_last (d := 13) (fuel := 13) (S := (fun w' => w'.cell? ⟨b, 0, none⟩ = some (V 0) ∧ w'.frozen? ⟨b, 0, none⟩ = false ∧ Below w1.heap.size w1 w')) (by kernel_rfl) (by kernel_rfl) rfl ?_ (fun hHeld => ?_)
    · (try dsimp only); (refine MK.out _ ?_; first | exact hB3 | exact hB2 | exact (Below.refl _ _).drew | exact ((Below.refl _ _).alloc (Nat.le_refl _) _).drew | exact hHeld.2.2.alloc hHeld.2.2.size _)
    try simp only [Act.put, List.setIfInBounds_toArray, List.set_cons_zero, List.set_cons_succ]
    refine wpAnyH_take (i := 0) (oi := { dst := some 18, op := Op.move (Operand.tmp 0), type := 75, pos := "ref.go:138", after := #[], guard := none }) (v := ?_) rfl (by kernel_rfl) (by kernel_rfl) (by kernel_rfl) (fun _ _ _ h => h) (Or.inl ⟨by rfl, ?_⟩) (by assumption) ?_
    rotate_left 1
    · intro w hSw; (try dsimp only at hSw); go_simp <;> with_reducible rfl
    try simp only [Act.put, List.setIfInBounds_toArray, List.set_cons_zero, List.set_cons_succ]
    refine wpAnyH_take (i := 2) (oi := { dst := some 20, op := Op.move (Operand.tmp 0), type := 75, pos := "ref.go:138", after := #[], guard := none }) (v := ?_) rfl (by kernel_rfl) (by kernel_rfl) (by kernel_rfl) (fun _ _ _ h => h) (Or.inl ⟨by rfl, ?_⟩) (by assumption) ?_
    rotate_left 1
    · intro w hSw; (try dsimp only at hSw); go_simp <;> with_reducible rfl
    try simp only [Act.put, List.setIfInBounds_toArray, List.set_cons_zero, List.set_cons_succ]
    refine wpAnyH_take (i := 3) (oi := { dst := some 21, op := Op.nilCheck (Operand.tmp 20), type := 0, pos := "ref.go:138", after := #[{ on := 2, ground := Ground.data }], guard := none }) (v := ?_) rfl (by kernel_rfl) (by kernel_rfl) (by kernel_rfl) (fun _ _ _ h => h) (Or.inl ⟨by rfl, ?_⟩) (by assumption) ?_
    rotate_left 1
    · intro w hSw; (try dsimp only at hSw); go_simp <;> with_reducible rfl
    try simp only [Act.put, List.setIfInBounds_toArray, List.set_cons_zero, List.set_cons_succ]
    refine wpAnyH_take (i := 4) (oi := { dst := some 22, op := Op.fieldAddr 88 (Operand.tmp 21) 0, type := 0, pos := "ref.go:138", after := #[{ on := 3, ground := Ground.data }], guard := none }) (v := ?_) rfl (by kernel_rfl) (by kernel_rfl) (by kernel_rfl) (fun _ _ _ h => h) (Or.inl ⟨by rfl, ?_⟩) (by assumption) ?_
    rotate_left 1
    · intro w hSw; (try dsimp only at hSw); go_simp <;> with_reducible rfl
    try simp only [Act.put, List.setIfInBounds_toArray, List.set_cons_zero, List.set_cons_succ]
    refine wpAnyH_take (i := 5) (oi := { dst := some 23, op := Op.indexAddr 86 (Operand.tmp 22) (Operand.const (Value.int IntKind.i64 0)), type := 0, pos := "ref.go:138", after := #[{ on := 4, ground := Ground.data }], guard := none }) (v := ?_) rfl (by kernel_rfl) (by kernel_rfl) (by kernel_rfl) (fun _ _ _ h => h) (Or.inl ⟨by rfl, ?_⟩) (by assumption) ?_
    rotate_left 1
    · intro w hSw; (try dsimp only at hSw); go_simp <;> with_reducible rfl
    try simp only [Act.put, List.setIfInBounds_toArray, List.set_cons_zero, List.set_cons_succ]
    refine wpAnyH_take (i := 6) (oi := { dst := some 24, op := Op.load 56 (Operand.tmp 23), type := 56, pos := "ref.go:138", after := #[{ on := 5, ground := Ground.data }], guard := none }) (v := ?_) rfl (by kernel_rfl) (by kernel_rfl) (by kernel_rfl) (fun _ _ _ h => h) (Or.inl ⟨by rfl, ?_⟩) (by assumption) ?_
    rotate_left 1
    · intro w hSw; (try dsimp only at hSw); go_simp <;> with_reducible rfl
    try simp only [Act.put, List.setIfInBounds_toArray, List.set_cons_zero, List.set_cons_succ]
    refine wpAnyH_take (i := 8) (oi := { dst := some 26, op := Op.move (Operand.tmp 3), type := 56, pos := "ref.go:138", after := #[], guard := none }) (v := ?_) rfl (by kernel_rfl) (by kernel_rfl) (by kernel_rfl) (fun _ _ _ h => h) (Or.inl ⟨by rfl, ?_⟩) (by assumption) ?_
    rotate_left 1
    · intro w hSw; (try dsimp only at hSw); go_simp <;> with_reducible rfl
    try simp only [Act.put, List.setIfInBounds_toArray, List.set_cons_zero, List.set_cons_succ]
    refine wpAnyH_take (i := 10) (oi := { dst := some 28, op := Op.nilCheck (Operand.tmp 18), type := 0, pos := "ref.go:138", after := #[{ on := 0, ground := Ground.data }], guard := none }) (v := ?_) rfl (by kernel_rfl) (by kernel_rfl) (by kernel_rfl) (fun _ _ _ h => h) (Or.inl ⟨by rfl, ?_⟩) (by assumption) ?_
    rotate_left 1
    · intro w hSw; (try dsimp only at hSw); go_simp <;> with_reducible rfl
    try simp only [Act.put, List.setIfInBounds_toArray, List.set_cons_zero, List.set_cons_succ]
    refine wpAnyH_take (i := 11) (oi := { dst := some 29, op := Op.fieldAddr 88 (Operand.tmp 28) 0, type := 0, pos := "ref.go:138", after := #[{ on := 10, ground := Ground.data }], guard := none }) (v := ?_) rfl (by kernel_rfl) (by kernel_rfl) (by kernel_rfl) (fun _ _ _ h => h) (Or.inl ⟨by rfl, ?_⟩) (by assumption) ?_
    rotate_left 1
    · intro w hSw; (try dsimp only at hSw); go_simp <;> with_reducible rfl
    try simp only [Act.put, List.setIfInBounds_toArray, List.set_cons_zero, List.set_cons_succ]
    refine wpAnyH_ready (rs := [1]) (by kernel_rfl) (by simp) ?_
    refine AllReadyH.cons (o := { dst := some 19, op := Op.buildSlice 56 0 #[], type := 56, pos := "ref.go:138", after := #[], guard := none }) rfl (fun K hK => ?_) ?_
    · go_simp
      refine hK.out _ _ ?_ ?_
      · (try dsimp only); (refine MK.out _ ?_; first | exact hB3 | exact hB2 | exact (Below.refl _ _).drew | exact ((Below.refl _ _).alloc (Nat.le_refl _) _).drew | exact hHeld.2.2.alloc hHeld.2.2.size _)
      clear hK K hHeld; intro hHeld
      try simp only [Act.put, List.setIfInBounds_toArray, List.set_cons_zero, List.set_cons_succ]
      refine wpAnyH_ready (rs := [7]) (by kernel_rfl) (by simp) ?_
      refine AllReadyH.cons (o := { dst := some 25, op := Op.call { callee := Callee.builtin Builtin.append, args := #[Operand.tmp 19, Operand.tmp 24], argTypes := #[56, 56] }, type := 56, pos := "ref.go:138", after := #[{ on := 1, ground := Ground.data }, { on := 6, ground := Ground.data }], guard := none }) rfl (fun K hK => ?_) ?_
      · refine step_app rfl (.tmp 19) (.tmp 24) rfl w1.heap.size 0 (.slice (some ⟨w1.heap.size, 0, none⟩) 0 0) _ [] (A 0) rfl rfl (by first | exact World.ownsRow_made w1 #[] 0 (Nat.le_refl _) (by decide) rfl | exact (World.ownsRow_made w1 #[] 0 (Nat.le_refl _) (by decide) rfl).alloc _ | exact made_after _ _ _) (T1.out _ hHeld.2.2) (by first | omega | (simp; omega)) hHeld.2.2.size ?_; intro v2 w2 hown2 hgrow2 hat2; have hB2 : Below w1.heap.size w1 w2 := hHeld.2.2.grown hgrow2 hHeld.2.2.size (fun k hk => by simp [Value.ownBlock] at hk; omega); simp only [List.nil_append, Nat.zero_add] at hown2; obtain ⟨x2, n2, c2, rfl⟩ := slice_form hown2
        refine hK.out _ _ ?_ ?_
        · (try dsimp only); (refine MK.out _ ?_; first | exact hB3 | exact hB2 | exact (Below.refl _ _).drew | exact ((Below.refl _ _).alloc (Nat.le_refl _) _).drew | exact hHeld.2.2.alloc hHeld.2.2.size _)
        clear hK K hHeld; intro hHeld
        try simp only [Act.put, List.setIfInBounds_toArray, List.set_cons_zero, List.set_cons_succ]
        refine wpAnyH_ready (rs := [9]) (by kernel_rfl) (by simp) ?_
        refine AllReadyH.cons (o := { dst := some 27, op := Op.call { callee := Callee.builtin Builtin.append, args := #[Operand.tmp 25, Operand.tmp 26], argTypes := #[56, 56] }, type := 56, pos := "ref.go:138", after := #[{ on := 7, ground := Ground.data }, { on := 8, ground := Ground.data }, { on := 7, ground := Ground.chain }], guard := none }) rfl (fun K hK => ?_) ?_
        · refine step_app rfl (.tmp 25) (.tmp 26) rfl w1.heap.size _ _ _ _ (A 3) rfl rfl hown2 ((SL.keep O1.out hHeld.2.2).reads) (by first | omega | (simp only [List.length_append] at *; omega)) hHeld.2.2.size ?_; intro v3 w3 hown3 hgrow3 hat3; have hB3 : Below w1.heap.size w1 w3 := hHeld.2.2.grown hgrow3 hHeld.2.2.size (fun k hk => (hown2.lt k hk).1); rw [← List.length_append] at hown3; obtain ⟨x3, n3, c3, rfl⟩ := slice_form hown3
          refine hK.out _ _ ?_ ?_
          · (try dsimp only); (refine MK.out _ ?_; first | exact hB3 | exact hB2 | exact (Below.refl _ _).drew | exact ((Below.refl _ _).alloc (Nat.le_refl _) _).drew | exact hHeld.2.2.alloc hHeld.2.2.size _)
          clear hK K hHeld; intro hHeld
          try simp only [Act.put, List.setIfInBounds_toArray, List.set_cons_zero, List.set_cons_succ]
          refine wpAnyH_take (i := 12) (oi := { dst := some 30, op := Op.indexAddr 86 (Operand.tmp 29) (Operand.const (Value.int IntKind.i64 0)), type := 0, pos := "ref.go:138", after := #[{ on := 11, ground := Ground.data }, { on := 0, ground := Ground.phase }, { on := 1, ground := Ground.phase }, { on := 2, ground := Ground.phase }, { on := 3, ground := Ground.phase }, { on := 4, ground := Ground.phase }, { on := 5, ground := Ground.phase }, { on := 6, ground := Ground.phase }, { on := 7, ground := Ground.phase }, { on := 8, ground := Ground.phase }, { on := 9, ground := Ground.phase }], guard := none }) (v := ?_) rfl (by kernel_rfl) (by kernel_rfl) (by kernel_rfl) (fun _ _ _ h => h) (Or.inl ⟨by rfl, ?_⟩) (by assumption) ?_
          rotate_left 1
          · intro w hSw; (try dsimp only at hSw); go_simp <;> with_reducible rfl
          try simp only [Act.put, List.setIfInBounds_toArray, List.set_cons_zero, List.set_cons_succ]
          refine last_step (o := { dst := none, op := Op.store 56 (Operand.tmp 30) (Operand.tmp 27), type := 0, pos := "ref.go:138", after := #[{ on := 12, ground := Ground.data }, { on := 9, ground := Ground.data }, { on := 9, ground := Ground.chain }, { on := 0, ground := Ground.phase }, { on := 1, ground := Ground.phase }, { on := 2, ground := Ground.phase }, { on := 3, ground := Ground.phase }, { on := 4, ground := Ground.phase }, { on := 5, ground := Ground.phase }, { on := 6, ground := Ground.phase }, { on := 7, ground := Ground.phase }, { on := 8, ground := Ground.phase }, { on := 9, ground := Ground.phase }], guard := none }) rfl (by kernel_rfl) (fun K hK => ?_)
          go_simp
          refine hK.out _ _ ?_
          clear hK K
          try simp only [Act.put, List.setIfInBounds_toArray, List.set_cons_zero, List.set_cons_succ]
          have R1 := RefM.put (k := 0) (RW.out.keep hHeld.2.2) (by decide) (own_base hown3) (fun e => by have := (hown3.lt b e).1; have := RW.out.lt.1; omega)
          have G1 := grown_put2 (k := 0) G0.out hHeld.2.2 (.slice x3 n3 c3)
          have C1 := (Comes.refl V w.heap.size).up 0 (v := .slice x3 n3 c3) (fun g hg => Or.inl (Nat.le_trans G0.out.size (hown3.lt g hg).1))
          have O3 := SL.keep (SL.keep O1.out hHeld.2.2) (w' := w3) (Below.refl _ _)
          have O4 : SL (w3.setCell ⟨b, 0, none⟩ (.slice x3 n3 c3)) 3 (.slice x1 n1 c1) (A 3) := ownsRow_setCell_other O3 FB.out _
          clear MK T1 O3
          generalize hV1 : upV V 0 (.slice x3 n3 c3) = V1 at R1 C1
          have hV11 : V1 1 = V 1 := by rw [← hV1]; rfl
          obtain ⟨a9, c9, hv9⟩ := (RW.out.own 1 (by decide)).form
          rw [hv9] at hV11
          clear hV1 hHeld hown2 hgrow2 hat2 hB2 hown3 hgrow3 hat3 hB3
          generalize w3.setCell ⟨b, 0, none⟩ (.slice x3 n3 c3) = w4 at R1 G1 O4 ⊢
          have d1 := R1.c 1 (by decide)
          have d3 := R1.c 3 (by decide)
          rw [hV11] at d1
          have z1 := R1.z 1
          have z3 := R1.z 3
          replace R1 := Lib.hid R1
          replace G1 := Lib.hid G1
          replace C1 := Lib.hid C1
          replace O4 := Lib.hid O4
          have R2 := RefM.put (k := 3) R1.out (by decide) (v := .slice a9 (A 1).length c9) (X := A 1) (by have := R1.out.own 1 (by decide); rw [hV11] at this; exact this) (by rw [← hV11]; exact R1.out.apart 1 (by decide))
          have R3 := RefM.put (k := 1) R2 (by decide) (v := .slice none 0 0) (X := []) (World.ownsRow_nil _ _ _ _) (by simp [Value.ownBlock])
          have C3 := ((C1.out.up 3 (v := .slice a9 (A 1).length c9) (fun g hg => Or.inr ⟨1, by decide, by rw [hv9]; exact hg⟩)).up 1 (v := .slice none 0 0) (fun g hg => by cases hg))
          have O5 := ownsRow_setCell_other (ownsRow_setCell_other O4.out FB.out (.slice a9 (A 1).length c9) (a := ⟨b, 3, none⟩)) FB.out (.slice none 0 0) (a := ⟨b, 1, none⟩)
          have G3 : w.grownBy ((w4.setCell ⟨b, 3, none⟩ (.slice a9 (A 1).length c9)).setCell ⟨b, 1, none⟩ (.slice none 0 0)) (some b) := grown_cells (grown_cells G1.out 3 _) 1 _
          replace R3 := Lib.hid R3
          replace C3 := Lib.hid C3
          replace O5 := Lib.hid O5
          replace G3 := Lib.hid G3
          clear R2
          go_wp2
          go_region
          all_goals go_wp2
          all_goals go_ret
          all_goals exact ⟨_, _, rfl, R3.out.same (fun _ _ => rfl), grown_drew G3.out, C3.out, O5.out, FN.out⟩
        exact AllReadyH.nil
      exact AllReadyH.nil
    exact AllReadyH.nil
  · have eA : flipA A = A := by unfold flipA; rw [if_neg hg]
    have eR : flipR A = [] := by unfold flipR; rw [if_neg hg]
    rw [eA, eR]
    have hp : 0 < (A 2).length := List.length_pos_iff.2 hg
    have hp' : decide (((A 2).length : Int) > 0) = true := by simp; omega
    have hp2 : decide ((0 : Int) < ((A 2).length : Int)) = true := by simp; omega
    replace h := Lib.hid h
    clear eA eR hg hv2
    go_enter Tryz.func71, Tryz.ntmps71
    go_wp2
    go_ret
    exact ⟨_, V, rfl, h.out, grown_refl _ _, Comes.refl _ _, World.ownsRow_nil _ _ _ _, fun g hg => by cases hg⟩
end Wd
end Go.Proofs.YtdaojohdmidemaaGreat

/- The document's own mill: it is made. -/
namespace Go.Proofs.YtdaojohdmidemaaGreat
open Go.RowKit
set_option linter.unusedVariables false
namespace Wd
/-- the mill while it is filled -/
structure NMst (w : World) (k : Nat) (v : Value) (wr : World) : Prop where
  ref : RefM wr w.heap.size (upA (fun _ => []) 0 (rng k)) (upV (fun _ => .slice none 0 0) 0 v)
  own : wr.ownsRow w.heap.size 3 1 v k (ints (rng k))
  bel : Below w.heap.size w wr
theorem NMst.next {w wr w1 : World} {k : Nat} {v v1 : Value} {o : Obj} (h : NMst w k v wr) (hown : w1.ownsRow w.heap.size 3 1 v1 (k + 1) (ints (rng (k + 1)))) (hg : (wr.alloc o).grownBy w1 v.ownBlock) (hat : v1.ownBlock = v.ownBlock ∨ v1.ownBlock = some (wr.alloc o).heap.size) :
    NMst w (k + 1) v1 (w1.setCell ⟨w.heap.size, 0, none⟩ v1) := by
  have hb := h.ref.lt.1
  have far0 : v.ownBlock ≠ some w.heap.size := h.ref.apart 0 (by decide)
  have far : v1.ownBlock ≠ some w.heap.size := by
    rcases hat with e | e <;> rw [e]
    · exact far0
    · simp; omega
  have hbl : ∀ g, g < wr.heap.size → some g ≠ v.ownBlock → w1.heap[g]? = wr.heap[g]? := fun g hg1 hne => (hg.block g (by simp; omega) hne).trans (Below.heap_alloc _ _ _ hg1)
  have hbb := hbl w.heap.size hb (fun e => far0 e.symm)
  have b1 : Below w.heap.size w w1 := (h.bel.alloc h.bel.size _).grown hg (by have := h.bel.size; simp; omega) (fun k' hk => (h.own.lt k' hk).1)
  refine ⟨⟨fun j hj => ?_, fun j => ?_, fun j hj => ?_, fun j hj => ?_⟩, ownsRow_setCell_other hown far _, b1.setCell (Nat.le_refl _) _⟩
  · by_cases c : j = 0
    · subst c
      simp only [upV, if_true]
      exact World.cell?_setCell_same _ _ _ ((World.cell?_of_block (a := ⟨w.heap.size, 0, none⟩) hbb).trans (h.ref.c 0 (by decide)))
    · simp only [upV, if_neg c]
      refine (World.cell?_setCell_other _ _ _ _ (by intro e; cases e; exact c rfl)).trans ?_
      have := (World.cell?_of_block (a := ⟨w.heap.size, j, none⟩) hbb).trans (h.ref.c j hj)
      simpa only [upV, if_neg c] using this
  · rw [World.frozen?_setCell]; exact (World.frozen?_of_block (a := ⟨w.heap.size, j, none⟩) hbb).trans (h.ref.z j)
  · by_cases c : j = 0
    · subst c
      simp only [upV, upA, if_true]
      have := ownsRow_setCell_other (own_base hown) far (a := ⟨w.heap.size, 0, none⟩) v1
      unfold SL
      rw [rng_len]
      exact this
    · simp only [upV, upA, if_neg c]
      exact World.ownsRow_nil _ _ _ _
  · by_cases c : j = 0
    · subst c; simp only [upV, if_true]; exact far
    · simp only [upV, if_neg c, Value.ownBlock]; simp
set_option maxHeartbeats 16000000 in
theorem rnewm_c (n : Nat) (h2 : n ≤ 8192) (w : World) :
    Calls Tryz.prog 42 #[.int .i64 n] w fun e w' => ∃ V, e = .returned (.pointer (some ⟨w.heap.size, 0, none⟩)) ∧ RefM w' w.heap.size (upA (fun _ => []) 0 (rng n)) V ∧ Below w.heap.size w w' ∧ (∀ k g, k < 4 → (V k).ownBlock = some g → w.heap.size ≤ g) := by
  have S0 : NMst w 0 (.slice none 0 0) (w.alloc (.cells #[.slice none 0 0, .slice none 0 0, .slice none 0 0, .slice none 0 0] 88)) := by
    refine ⟨⟨fun k hk => ?_, fun k => by simp, fun k hk => ?_, fun k hk => ?_⟩, World.ownsRow_nil _ _ _ _, (Below.refl _ _).alloc (Nat.le_refl _) _⟩
    · rcases (show k = 0 ∨ k = 1 ∨ k = 2 ∨ k = 3 by omega) with rfl | rfl | rfl | rfl <;> simp [upV]
    · rcases (show k = 0 ∨ k = 1 ∨ k = 2 ∨ k = 3 by omega) with rfl | rfl | rfl | rfl <;> exact World.ownsRow_nil _ _ _ _
    · rcases (show k = 0 ∨ k = 1 ∨ k = 2 ∨ k = 3 by omega) with rfl | rfl | rfl | rfl <;> simp [upV, Value.ownBlock]
  replace S0 := Lib.hid S0
  go_enter Tryz.func42, Tryz.ntmps42
  go_wp2
  go_loopw [4] (fun i wr => ∃ k : Nat, k ≤ n ∧ i = .int .i64 k ∧ ∃ v, NMst w k v wr) (fun i _ => n - (intOf i).toNat)
  case atStart => exact ⟨0, by omega, rfl, _, S0.out⟩
  case round =>
    obtain ⟨k, hk, rfl, v, hR⟩ := hrel
    by_cases hlt : k < n
    · have hlt' : decide ((k : Int) < (n : Int)) = true := by simp; omega
      have hcv : wr.drew.cell? ⟨w.heap.size, 0, none⟩ = some v := hR.ref.c 0 (by decide)
      have hfz : wr.drew.frozen? ⟨w.heap.size, 0, none⟩ = false := hR.ref.z 0
      have far1 : some w.heap.size ≠ v.ownBlock := fun e => hR.ref.apart 0 (by decide) e.symm
      have KA : (wr.alloc (.cells #[.int .i64 k] 3)).drew.cell? ⟨w.heap.size, 0, none⟩ = some v ∧ (wr.alloc (.cells #[.int .i64 k] 3)).drew.frozen? ⟨w.heap.size, 0, none⟩ = false := by
        have ga := World.grownBy_alloc wr (.cells #[.int .i64 k] 3) none
        exact ⟨ga.cell hcv (by simp), (ga.frozen_far _ hR.ref.lt.1 (by simp)).trans hfz⟩
      obtain ⟨a9, n9, c9, rfl⟩ := slice_form hR.own
      replace hR := Lib.hid hR
      go_wp2
      refine wp_region_last (d := 12) (fuel := 12) (S := (fun w' => w'.cell? ⟨w.heap.size, 0, none⟩ = some (.slice a9 n9 c9) ∧ w'.frozen? ⟨w.heap.size, 0, none⟩ = false)) (by kernel_rfl) (by kernel_rfl) rfl ?_ (fun hHeld => ?_)
      · (try dsimp only); (first | exact ⟨hcv, hfz⟩ | exact ⟨hgrow1.cell hHeld.1 far1, (hgrow1.frozen_far _ (World.block_lt_of_cell? _ _ hHeld.1) far1).trans hHeld.2⟩ | exact KA)
      try simp only [Act.put, List.setIfInBounds_toArray, List.set_cons_zero, List.set_cons_succ]
      refine wpAnyH_take (i := 0) (oi := { dst := some 12, op := Op.move (Operand.tmp 3), type := 75, pos := "ref.go:87", after := #[], guard := none }) (v := ?_) rfl (by kernel_rfl) (by kernel_rfl) (by kernel_rfl) (fun _ _ _ h => h) (Or.inl ⟨by rfl, ?_⟩) (by assumption) ?_
      rotate_left 1
      · intro w hSw; (try dsimp only at hSw); go_simp <;> with_reducible rfl
      try simp only [Act.put, List.setIfInBounds_toArray, List.set_cons_zero, List.set_cons_succ]
      refine wpAnyH_take (i := 1) (oi := { dst := some 13, op := Op.move (Operand.tmp 3), type := 75, pos := "ref.go:87", after := #[], guard := none }) (v := ?_) rfl (by kernel_rfl) (by kernel_rfl) (by kernel_rfl) (fun _ _ _ h => h) (Or.inl ⟨by rfl, ?_⟩) (by assumption) ?_
      rotate_left 1
      · intro w hSw; (try dsimp only at hSw); go_simp <;> with_reducible rfl
      try simp only [Act.put, List.setIfInBounds_toArray, List.set_cons_zero, List.set_cons_succ]
      refine wpAnyH_take (i := 2) (oi := { dst := some 14, op := Op.nilCheck (Operand.tmp 13), type := 0, pos := "ref.go:87", after := #[{ on := 1, ground := Ground.data }], guard := none }) (v := ?_) rfl (by kernel_rfl) (by kernel_rfl) (by kernel_rfl) (fun _ _ _ h => h) (Or.inl ⟨by rfl, ?_⟩) (by assumption) ?_
      rotate_left 1
      · intro w hSw; (try dsimp only at hSw); go_simp <;> with_reducible rfl
      try simp only [Act.put, List.setIfInBounds_toArray, List.set_cons_zero, List.set_cons_succ]
      refine wpAnyH_take (i := 3) (oi := { dst := some 15, op := Op.fieldAddr 88 (Operand.tmp 14) 0, type := 0, pos := "ref.go:87", after := #[{ on := 2, ground := Ground.data }], guard := none }) (v := ?_) rfl (by kernel_rfl) (by kernel_rfl) (by kernel_rfl) (fun _ _ _ h => h) (Or.inl ⟨by rfl, ?_⟩) (by assumption) ?_
      rotate_left 1
      · intro w hSw; (try dsimp only at hSw); go_simp <;> with_reducible rfl
      try simp only [Act.put, List.setIfInBounds_toArray, List.set_cons_zero, List.set_cons_succ]
      refine wpAnyH_take (i := 4) (oi := { dst := some 16, op := Op.indexAddr 86 (Operand.tmp 15) (Operand.const (Value.int IntKind.i64 0)), type := 0, pos := "ref.go:87", after := #[{ on := 3, ground := Ground.data }], guard := none }) (v := ?_) rfl (by kernel_rfl) (by kernel_rfl) (by kernel_rfl) (fun _ _ _ h => h) (Or.inl ⟨by rfl, ?_⟩) (by assumption) ?_
      rotate_left 1
      · intro w hSw; (try dsimp only at hSw); go_simp <;> with_reducible rfl
      try simp only [Act.put, List.setIfInBounds_toArray, List.set_cons_zero, List.set_cons_succ]
      refine wpAnyH_take (i := 5) (oi := { dst := some 17, op := Op.load 56 (Operand.tmp 16), type := 56, pos := "ref.go:87", after := #[{ on := 4, ground := Ground.data }], guard := none }) (v := ?_) rfl (by kernel_rfl) (by kernel_rfl) (by kernel_rfl) (fun _ _ _ h => h) (Or.inl ⟨by rfl, ?_⟩) (by assumption) ?_
      rotate_left 1
      · intro w hSw; (try dsimp only at hSw); go_simp <;> with_reducible rfl
      try simp only [Act.put, List.setIfInBounds_toArray, List.set_cons_zero, List.set_cons_succ]
      refine wpAnyH_take (i := 6) (oi := { dst := some 18, op := Op.move (Operand.tmp 4), type := 3, pos := "ref.go:87", after := #[], guard := none }) (v := ?_) rfl (by kernel_rfl) (by kernel_rfl) (by kernel_rfl) (fun _ _ _ h => h) (Or.inl ⟨by rfl, ?_⟩) (by assumption) ?_
      rotate_left 1
      · intro w hSw; (try dsimp only at hSw); go_simp <;> with_reducible rfl
      try simp only [Act.put, List.setIfInBounds_toArray, List.set_cons_zero, List.set_cons_succ]
      refine wpAnyH_take (i := 9) (oi := { dst := some 21, op := Op.nilCheck (Operand.tmp 12), type := 0, pos := "ref.go:87", after := #[{ on := 0, ground := Ground.data }], guard := none }) (v := ?_) rfl (by kernel_rfl) (by kernel_rfl) (by kernel_rfl) (fun _ _ _ h => h) (Or.inl ⟨by rfl, ?_⟩) (by assumption) ?_
      rotate_left 1
      · intro w hSw; (try dsimp only at hSw); go_simp <;> with_reducible rfl
      try simp only [Act.put, List.setIfInBounds_toArray, List.set_cons_zero, List.set_cons_succ]
      refine wpAnyH_take (i := 10) (oi := { dst := some 22, op := Op.fieldAddr 88 (Operand.tmp 21) 0, type := 0, pos := "ref.go:87", after := #[{ on := 9, ground := Ground.data }], guard := none }) (v := ?_) rfl (by kernel_rfl) (by kernel_rfl) (by kernel_rfl) (fun _ _ _ h => h) (Or.inl ⟨by rfl, ?_⟩) (by assumption) ?_
      rotate_left 1
      · intro w hSw; (try dsimp only at hSw); go_simp <;> with_reducible rfl
      try simp only [Act.put, List.setIfInBounds_toArray, List.set_cons_zero, List.set_cons_succ]
      refine wpAnyH_ready (rs := [7]) (by kernel_rfl) (by simp) ?_
      refine AllReadyH.cons (o := { dst := some 19, op := Op.buildSlice 56 1 #[(0, Operand.tmp 18)], type := 56, pos := "ref.go:87", after := #[{ on := 6, ground := Ground.data }], guard := none }) rfl (fun K hK => ?_) ?_
      · go_simp
        refine hK.out _ _ ?_ ?_
        · (try dsimp only); (first | exact ⟨hcv, hfz⟩ | exact ⟨hgrow1.cell hHeld.1 far1, (hgrow1.frozen_far _ (World.block_lt_of_cell? _ _ hHeld.1) far1).trans hHeld.2⟩ | exact KA)
        clear hK K hHeld; intro hHeld
        try simp only [Act.put, List.setIfInBounds_toArray, List.set_cons_zero, List.set_cons_succ]
        refine wpAnyH_ready (rs := [8]) (by kernel_rfl) (by simp) ?_
        refine AllReadyH.cons (o := { dst := some 20, op := Op.call { callee := Callee.builtin Builtin.append, args := #[Operand.tmp 17, Operand.tmp 19], argTypes := #[56, 56] }, type := 56, pos := "ref.go:87", after := #[{ on := 5, ground := Ground.data }, { on := 7, ground := Ground.data }], guard := none }) rfl (fun K hK => ?_) ?_
        · refine step_app rfl (.tmp 17) (.tmp 19) rfl w.heap.size k (.slice a9 n9 c9) _ (rng k) [(k : Int)] rfl rfl (hR.out.own.alloc _) (Reads.one ((World.cell?_alloc_new _ _ _ 0).trans rfl)) (by rw [List.length_singleton]; omega) (by have := hR.out.bel.size; simp; omega) ?_; intro v1 w1 hown1 hgrow1 hat1; rw [List.length_singleton, ← rng_succ] at hown1; obtain ⟨x1, n1, c1, rfl⟩ := slice_form hown1
          refine hK.out _ _ ?_ ?_
          · (try dsimp only); (first | exact ⟨hcv, hfz⟩ | exact ⟨hgrow1.cell hHeld.1 far1, (hgrow1.frozen_far _ (World.block_lt_of_cell? _ _ hHeld.1) far1).trans hHeld.2⟩ | exact KA)
          clear hK K hHeld; intro hHeld
          try simp only [Act.put, List.setIfInBounds_toArray, List.set_cons_zero, List.set_cons_succ]
          refine wpAnyH_take (i := 11) (oi := { dst := some 23, op := Op.indexAddr 86 (Operand.tmp 22) (Operand.const (Value.int IntKind.i64 0)), type := 0, pos := "ref.go:87", after := #[{ on := 10, ground := Ground.data }, { on := 0, ground := Ground.phase }, { on := 1, ground := Ground.phase }, { on := 2, ground := Ground.phase }, { on := 3, ground := Ground.phase }, { on := 4, ground := Ground.phase }, { on := 5, ground := Ground.phase }, { on := 6, ground := Ground.phase }, { on := 7, ground := Ground.phase }, { on := 8, ground := Ground.phase }], guard := none }) (v := ?_) rfl (by kernel_rfl) (by kernel_rfl) (by kernel_rfl) (fun _ _ _ h => h) (Or.inl ⟨by rfl, ?_⟩) (by assumption) ?_
          rotate_left 1
          · intro w hSw; (try dsimp only at hSw); go_simp <;> with_reducible rfl
          try simp only [Act.put, List.setIfInBounds_toArray, List.set_cons_zero, List.set_cons_succ]
          refine last_step (o := { dst := none, op := Op.store 56 (Operand.tmp 23) (Operand.tmp 20), type := 0, pos := "ref.go:87", after := #[{ on := 11, ground := Ground.data }, { on := 8, ground := Ground.data }, { on := 8, ground := Ground.chain }, { on := 0, ground := Ground.phase }, { on := 1, ground := Ground.phase }, { on := 2, ground := Ground.phase }, { on := 3, ground := Ground.phase }, { on := 4, ground := Ground.phase }, { on := 5, ground := Ground.phase }, { on := 6, ground := Ground.phase }, { on := 7, ground := Ground.phase }, { on := 8, ground := Ground.phase }], guard := none }) rfl (by kernel_rfl) (fun K hK => ?_)
          go_simp
          refine hK.out _ _ ?_
          clear hK K
          try simp only [Act.put, List.setIfInBounds_toArray, List.set_cons_zero, List.set_cons_succ]
          have R1 := hR.out.next (o := .cells #[.int .i64 k] 3) hown1 ⟨hgrow1.os, hgrow1.tape, hgrow1.output, hgrow1.size, hgrow1.block⟩ hat1
          replace R1 := Lib.hid R1
          go_wp2
          go_roundw
          case rel => exact ⟨k + 1, by omega, by go_num, _, R1.out⟩
          case measure => simp [intOf]; omega
        exact AllReadyH.nil
      exact AllReadyH.nil
    · have e : k = n := by omega
      subst e
      have hlt' : decide ((k : Int) < (k : Int)) = false := by simp
      replace hR := Lib.hid hR
      go_wp2
      go_ret
      refine ⟨_, rfl, hR.out.ref, hR.out.bel, fun j g hj hg => ?_⟩
      unfold upV at hg
      split at hg
      · exact (hR.out.own.lt g hg).1
      · cases hg
end Wd
end Go.Proofs.YtdaojohdmidemaaGreat

/- Plain facts on sizes, chapter 3: no program is named here. -/
namespace Go.Proofs.YtdaojohdmidemaaGreat
open Go.RowKit
namespace Wd

/-- the words of a cell of that size -/
def wd (n : Int) : Int := if n = 0 then 4 else if n = 1 then 8 else if n = 2 then 16 else if n = 3 then 32 else if n = 4 then 64 else 0
/-- the least size that takes so many fields -/
def fo (n : Int) : Int := if n < 0 then -1 else if n ≤ 2 then 0 else if n ≤ 6 then 1 else if n ≤ 14 then 2 else if n ≤ 30 then 3 else if n ≤ 62 then 4 else -1
/-- the words that are left over -/
def wst (n : Int) : Int := if fo n < 0 then 0 else wd (fo n) - n - 2
/-- is the memory right, as an error's number -/
def rt (a b c d e p : Int) : Int :=
  if 0 ≤ a ∧ a ≤ 512 ∧ 0 ≤ b ∧ b ≤ 512 ∧ 0 ≤ c ∧ c ≤ 512 ∧ 0 ≤ d ∧ d ≤ 512 ∧ 0 ≤ e ∧ e ≤ 512 ∧ 1 ≤ a + b + c + d + e ∧ a + b + c + d + e ≤ 1020 then (if 1 ≤ p ∧ p ≤ 16 then 0 else 1) else 18
/-- all words of a memory -/
def tot (a b c d e p : Int) : Int := if rt a b c d e p = 0 then a * 4 + b * 8 + c * 16 + d * 32 + e * 64 else 0
theorem rt_cases (a b c d e p : Int) :
    (((a < 0 ∨ 512 < a) ∨ (0 ≤ a ∧ a ≤ 512 ∧ (b < 0 ∨ 512 < b)) ∨ (0 ≤ a ∧ a ≤ 512 ∧ 0 ≤ b ∧ b ≤ 512 ∧ (c < 0 ∨ 512 < c)) ∨ (0 ≤ a ∧ a ≤ 512 ∧ 0 ≤ b ∧ b ≤ 512 ∧ 0 ≤ c ∧ c ≤ 512 ∧ (d < 0 ∨ 512 < d))
      ∨ (0 ≤ a ∧ a ≤ 512 ∧ 0 ≤ b ∧ b ≤ 512 ∧ 0 ≤ c ∧ c ≤ 512 ∧ 0 ≤ d ∧ d ≤ 512 ∧ (e < 0 ∨ 512 < e))
      ∨ (0 ≤ a ∧ a ≤ 512 ∧ 0 ≤ b ∧ b ≤ 512 ∧ 0 ≤ c ∧ c ≤ 512 ∧ 0 ≤ d ∧ d ≤ 512 ∧ 0 ≤ e ∧ e ≤ 512 ∧ (a + b + c + d + e < 1 ∨ 1020 < a + b + c + d + e))) ∧ rt a b c d e p = 18)
    ∨ ((0 ≤ a ∧ a ≤ 512 ∧ 0 ≤ b ∧ b ≤ 512 ∧ 0 ≤ c ∧ c ≤ 512 ∧ 0 ≤ d ∧ d ≤ 512 ∧ 0 ≤ e ∧ e ≤ 512 ∧ 1 ≤ a + b + c + d + e ∧ a + b + c + d + e ≤ 1020) ∧
        (((p < 1 ∨ 16 < p) ∧ rt a b c d e p = 1) ∨ (1 ≤ p ∧ p ≤ 16 ∧ rt a b c d e p = 0))) := by
  unfold rt
  split
  · rename_i h
    refine Or.inr ⟨h, ?_⟩
    split <;> omega
  · exact Or.inl ⟨by omega, rfl⟩
theorem rt_zero (a b c d e p : Int) : rt a b c d e p = 0 ↔ (0 ≤ a ∧ a ≤ 512 ∧ 0 ≤ b ∧ b ≤ 512 ∧ 0 ≤ c ∧ c ≤ 512 ∧ 0 ≤ d ∧ d ≤ 512 ∧ 0 ≤ e ∧ e ≤ 512 ∧ 1 ≤ a + b + c + d + e ∧ a + b + c + d + e ≤ 1020) ∧ 1 ≤ p ∧ p ≤ 16 := by
  rcases rt_cases a b c d e p with ⟨h, e⟩ | ⟨h, ⟨h1, e⟩ | ⟨h1, h2, e⟩⟩ <;> rw [e] <;> omega
theorem fo_bd (n : Int) : -1 ≤ fo n ∧ fo n ≤ 4 := by unfold fo; repeat' split <;> omega
theorem wd_bd (n : Int) : 0 ≤ wd n ∧ wd n ≤ 64 := by unfold wd; repeat' split <;> omega
theorem wst_bd (n : Int) : -1 ≤ wst n ∧ wst n ≤ 64 := by
  unfold wst wd fo
  split
  · omega
  · repeat' split <;> omega
theorem fo_cases (n : Int) : ((n < 0 ∨ 62 < n) ∧ fo n = -1) ∨ (0 ≤ n ∧ n ≤ 2 ∧ fo n = 0) ∨ (3 ≤ n ∧ n ≤ 6 ∧ fo n = 1) ∨ (7 ≤ n ∧ n ≤ 14 ∧ fo n = 2) ∨ (15 ≤ n ∧ n ≤ 30 ∧ fo n = 3) ∨ (31 ≤ n ∧ n ≤ 62 ∧ fo n = 4) := by
  unfold fo; repeat' split <;> omega
theorem wd_cases (n : Int) : ((n < 0 ∨ 5 ≤ n) ∧ wd n = 0) ∨ (n = 0 ∧ wd n = 4) ∨ (n = 1 ∧ wd n = 8) ∨ (n = 2 ∧ wd n = 16) ∨ (n = 3 ∧ wd n = 32) ∨ (n = 4 ∧ wd n = 64) := by
  unfold wd; repeat' split <;> omega
theorem wst_cases (n : Int) : ((n < 0 ∨ 62 < n) ∧ fo n = -1 ∧ wst n = 0) ∨ (0 ≤ n ∧ n ≤ 62 ∧ 0 ≤ fo n ∧ fo n ≤ 4 ∧ wst n = wd (fo n) - n - 2 ∧ 0 ≤ wd (fo n) - n - 2 ∧ wd (fo n) ≤ 64) := by
  rcases fo_cases n with ⟨h, e⟩ | ⟨h0, h1, e⟩ | ⟨h0, h1, e⟩ | ⟨h0, h1, e⟩ | ⟨h0, h1, e⟩ | ⟨h0, h1, e⟩
  · exact Or.inl ⟨h, e, by unfold wst; rw [e]; rfl⟩
  all_goals
    refine Or.inr ?_
    have ew : wst n = wd (fo n) - n - 2 := by unfold wst; rw [if_neg (by omega)]
    rw [ew, e]
    refine ⟨by omega, by omega, by omega, by omega, rfl, ?_, ?_⟩ <;> simp [wd] <;> omega
theorem bits64_bd (op : BinOp) (a b : Int) : -9223372036854775808 ≤ bits op .i64 a b ∧ bits op .i64 a b ≤ 9223372036854775807 := by
  unfold bits
  split <;> simp only [IntKind.wrap_i64] <;> omega
theorem i64_and15 (n : Int) : bits .and .i64 n 15 = n % 16 := by
  have h127 : (BitVec.ofInt 64 15).toNat = 2 ^ 4 - 1 := by decide
  have key : (BitVec.ofInt 64 n &&& BitVec.ofInt 64 15).toNat = (n % ((2 ^ 64 : Nat) : Int)).toNat % 2 ^ 4 := by
    rw [BitVec.toNat_and, BitVec.toNat_ofInt, h127, Nat.and_two_pow_sub_one_eq_mod]
  show IntKind.i64.wrap ((BitVec.ofInt 64 n &&& BitVec.ofInt 64 15).toNat : Nat) = n % 16
  rw [key, IntKind.wrap_i64]
  omega
theorem i64_and31 (n : Int) : bits .and .i64 n 31 = n % 32 := by
  have h127 : (BitVec.ofInt 64 31).toNat = 2 ^ 5 - 1 := by decide
  have key : (BitVec.ofInt 64 n &&& BitVec.ofInt 64 31).toNat = (n % ((2 ^ 64 : Nat) : Int)).toNat % 2 ^ 5 := by
    rw [BitVec.toNat_and, BitVec.toNat_ofInt, h127, Nat.and_two_pow_sub_one_eq_mod]
  show IntKind.i64.wrap ((BitVec.ofInt 64 n &&& BitVec.ofInt 64 31).toNat : Nat) = n % 32
  rw [key, IntKind.wrap_i64]
  omega
theorem i64_and63 (n : Int) : bits .and .i64 n 63 = n % 64 := by
  have h127 : (BitVec.ofInt 64 63).toNat = 2 ^ 6 - 1 := by decide
  have key : (BitVec.ofInt 64 n &&& BitVec.ofInt 64 63).toNat = (n % ((2 ^ 64 : Nat) : Int)).toNat % 2 ^ 6 := by
    rw [BitVec.toNat_and, BitVec.toNat_ofInt, h127, Nat.and_two_pow_sub_one_eq_mod]
  show IntKind.i64.wrap ((BitVec.ofInt 64 n &&& BitVec.ofInt 64 63).toNat : Nat) = n % 64
  rw [key, IntKind.wrap_i64]
  omega
theorem i64_and127 (n : Int) : bits .and .i64 n 127 = n % 128 := by
  have h127 : (BitVec.ofInt 64 127).toNat = 2 ^ 7 - 1 := by decide
  have key : (BitVec.ofInt 64 n &&& BitVec.ofInt 64 127).toNat = (n % ((2 ^ 64 : Nat) : Int)).toNat % 2 ^ 7 := by
    rw [BitVec.toNat_and, BitVec.toNat_ofInt, h127, Nat.and_two_pow_sub_one_eq_mod]
  show IntKind.i64.wrap ((BitVec.ofInt 64 n &&& BitVec.ofInt 64 127).toNat : Nat) = n % 128
  rw [key, IntKind.wrap_i64]
  omega
theorem i64_and255 (n : Int) : bits .and .i64 n 255 = n % 256 := by
  have h127 : (BitVec.ofInt 64 255).toNat = 2 ^ 8 - 1 := by decide
  have key : (BitVec.ofInt 64 n &&& BitVec.ofInt 64 255).toNat = (n % ((2 ^ 64 : Nat) : Int)).toNat % 2 ^ 8 := by
    rw [BitVec.toNat_and, BitVec.toNat_ofInt, h127, Nat.and_two_pow_sub_one_eq_mod]
  show IntKind.i64.wrap ((BitVec.ofInt 64 n &&& BitVec.ofInt 64 255).toNat : Nat) = n % 256
  rw [key, IntKind.wrap_i64]
  omega
theorem i64_and511 (n : Int) : bits .and .i64 n 511 = n % 512 := by
  have h127 : (BitVec.ofInt 64 511).toNat = 2 ^ 9 - 1 := by decide
  have key : (BitVec.ofInt 64 n &&& BitVec.ofInt 64 511).toNat = (n % ((2 ^ 64 : Nat) : Int)).toNat % 2 ^ 9 := by
    rw [BitVec.toNat_and, BitVec.toNat_ofInt, h127, Nat.and_two_pow_sub_one_eq_mod]
  show IntKind.i64.wrap ((BitVec.ofInt 64 n &&& BitVec.ofInt 64 511).toNat : Nat) = n % 512
  rw [key, IntKind.wrap_i64]
  omega
end Wd
end Go.Proofs.YtdaojohdmidemaaGreat

/- What holds of rows of cells, and of identities' places (out of the stages 5 and 7). -/
namespace Go.Proofs.YtdaojohdmidemaaGreat
open Go.RowKit
set_option linter.unusedVariables false
namespace Wd
def startA (n : Nat) : Mst := upA (fun _ => []) 0 (rng n)
/-- all cells are in one row, once -/
def Good (n : Nat) (A : Mst) : Prop := (A 0 ++ (A 1 ++ (A 2 ++ A 3))).Perm (rng n)
theorem good_start (n : Nat) : Good n (startA n) := by unfold Good startA; simp [upA]
theorem good_first {n : Nat} {A : Mst} (h : Good n A) (x : Nat) (hx : x = 0 ∨ x = 2) : Good n (firstA A x 1) := by
  unfold firstA
  split
  · exact h
  · rename_i i T hA
    refine List.Perm.trans ?_ h
    rcases hx with rfl | rfl
    · simp only [upA]
      simp only [hA, if_true, show ((0 : Nat) = 1) = False by simp, show ((2 : Nat) = 1) = False by simp, show ((3 : Nat) = 1) = False by simp, show ((2 : Nat) = 0) = False by simp, show ((3 : Nat) = 0) = False by simp, show ((1 : Nat) = 0) = False by simp, if_false]
      refine List.perm_iff_count.2 (fun a => ?_)
      simp only [List.count_append, List.count_cons, List.count_nil]
      omega
    · simp only [upA]
      simp only [hA, if_true, show ((0 : Nat) = 1) = False by simp, show ((2 : Nat) = 1) = False by simp, show ((3 : Nat) = 1) = False by simp, show ((0 : Nat) = 2) = False by simp, show ((3 : Nat) = 2) = False by simp, show ((1 : Nat) = 2) = False by simp, if_false]
      refine List.perm_iff_count.2 (fun a => ?_)
      simp only [List.count_append, List.count_cons, List.count_nil]
      omega
theorem good_nd {n : Nat} {A : Mst} (h : Good n A) : (A 0 ++ (A 1 ++ (A 2 ++ A 3))).Nodup := h.nodup_iff.2 (rng_nd n)
theorem good_len {n : Nat} {A : Mst} (h : Good n A) : (A 0).length + ((A 1).length + ((A 2).length + (A 3).length)) = n := by
  have := h.length_eq
  simpa [rng] using this
theorem good_le {n : Nat} {A : Mst} (h : Good n A) : ∀ k, k < 4 → (A k).length ≤ n := by
  have := good_len h
  intro k hk
  rcases (show k = 0 ∨ k = 1 ∨ k = 2 ∨ k = 3 by omega) with rfl | rfl | rfl | rfl <;> omega
theorem nd3 {n : Nat} {A : Mst} (h : Good n A) : (A 3).Nodup := by
  have := good_nd h
  exact (List.nodup_append.1 (List.nodup_append.1 (List.nodup_append.1 this).2.1).2.1).2.1
theorem filt_perm {L : List Int} (hn : L.Nodup) {i : Int} (h : i ∈ L) : (L.filter (· ≠ i) ++ [i]).Perm L := by
  have e : L.filter (· ≠ i) = L.erase i := by rw [hn.erase_eq_filter]; congr 1; funext x; by_cases h : x = i <;> simp [h]
  rw [e]
  exact (List.perm_append_singleton i _).trans (List.perm_cons_erase h).symm
theorem good_shade {n : Nat} {A : Mst} (h : Good n A) (i : Int) : Good n (shadeA A i) := by
  unfold shadeA
  split
  · rename_i hc
    refine List.Perm.trans ?_ h
    have hp := filt_perm (nd3 h) (colorR_in hc)
    simp only [upA]
    simp only [if_true, show ((0 : Nat) = 2) = False by simp, show ((1 : Nat) = 2) = False by simp, show ((3 : Nat) = 2) = False by simp, show ((0 : Nat) = 3) = False by simp, show ((1 : Nat) = 3) = False by simp, show ((2 : Nat) = 3) = False by simp, if_false]
    refine List.perm_iff_count.2 (fun a => ?_)
    have := List.perm_iff_count.1 hp a
    simp only [List.count_append] at this ⊢
    omega
  · exact h
theorem good_flip {n : Nat} {A : Mst} (h : Good n A) : Good n (flipA A) := by
  unfold flipA
  split
  · rename_i hc
    refine List.Perm.trans ?_ h
    simp only [upA]
    simp only [hc, if_true, show ((0 : Nat) = 1) = False by simp, show ((2 : Nat) = 1) = False by simp, show ((3 : Nat) = 1) = False by simp, show ((0 : Nat) = 3) = False by simp, show ((2 : Nat) = 3) = False by simp, show ((2 : Nat) = 0) = False by simp, if_false]
    refine List.perm_iff_count.2 (fun a => ?_)
    simp only [List.count_append, List.count_nil]
    omega
  · exact h
def rowA (A : Mst) (c : Int) : List Int := if 0 ≤ c ∧ c < 4 then A c.toNat else []
def LL (A : Mst) : List Int := A 0 ++ (A 1 ++ (A 2 ++ A 3))
theorem good_mem {n : Nat} {A : Mst} (h : Good n A) {i : Int} : i ∈ LL A ↔ 0 ≤ i ∧ i < n := by
  rw [show (i ∈ LL A ↔ i ∈ rng n) from List.Perm.mem_iff h]
  unfold rng
  rw [List.mem_map]
  constructor
  · rintro ⟨k, hk, rfl⟩; rw [List.mem_range] at hk; omega
  · intro hi; exact ⟨i.toNat, by rw [List.mem_range]; omega, by omega⟩
theorem mem_LL {A : Mst} {i : Int} : i ∈ LL A ↔ ∃ k, k < 4 ∧ i ∈ A k := by
  unfold LL
  simp only [List.mem_append]
  constructor
  · rintro (h | h | h | h)
    · exact ⟨0, by omega, h⟩
    · exact ⟨1, by omega, h⟩
    · exact ⟨2, by omega, h⟩
    · exact ⟨3, by omega, h⟩
  · rintro ⟨k, hk, h⟩
    rcases (show k = 0 ∨ k = 1 ∨ k = 2 ∨ k = 3 by omega) with rfl | rfl | rfl | rfl <;> simp [h]
theorem good_apart {n : Nat} {A : Mst} (h : Good n A) {x y : Nat} (hx : x < 4) (hy : y < 4) {i : Int} (h1 : i ∈ A x) (h2 : i ∈ A y) : x = y := by
  have hn := good_nd h
  have n1 := List.nodup_append.1 hn
  have n2 := List.nodup_append.1 n1.2.1
  have n3 := List.nodup_append.1 n2.2.1
  rcases (show x = 0 ∨ x = 1 ∨ x = 2 ∨ x = 3 by omega) with rfl | rfl | rfl | rfl <;> rcases (show y = 0 ∨ y = 1 ∨ y = 2 ∨ y = 3 by omega) with rfl | rfl | rfl | rfl <;> first | rfl | (exfalso; first | exact n1.2.2 i h1 i (by simp [h2]) rfl | exact n1.2.2 i h2 i (by simp [h1]) rfl | exact n2.2.2 i h1 i (by simp [h2]) rfl | exact n2.2.2 i h2 i (by simp [h1]) rfl | exact n3.2.2 i h1 i (by simp [h2]) rfl | exact n3.2.2 i h2 i (by simp [h1]) rfl)
theorem good_color {n : Nat} {A : Mst} (h : Good n A) {x : Nat} (hx : x < 4) {i : Int} (h1 : i ∈ A x) : colorR A i = x :=
  colorR_hit hx (fun j hj hi => by have := good_apart h (by omega) hx hi h1; omega) h1
theorem good_out {n : Nat} {A : Mst} (h : Good n A) {i : Int} (hi : ¬ (0 ≤ i ∧ i < n)) : colorR A i = -1 :=
  colorR_miss (fun j hj hm => hi ((good_mem h).1 (mem_LL.2 ⟨j, hj, hm⟩)))
theorem good_in {n : Nat} {A : Mst} (h : Good n A) {k : Nat} (hk : k < n) : ∃ x, x < 4 ∧ (k : Int) ∈ A x ∧ colorR A k = (x : Int) := by
  obtain ⟨x, hx, hm⟩ := mem_LL.1 ((good_mem h).2 (⟨by omega, by omega⟩ : 0 ≤ (k : Int) ∧ (k : Int) < n))
  exact ⟨x, hx, hm, good_color h hx hm⟩
def plOk (p : Pl) : Prop := (-9223372036854775808 ≤ p.1 ∧ p.1 ≤ 9223372036854775807) ∧ (-9223372036854775808 ≤ p.2 ∧ p.2 ≤ 9223372036854775807)
def atP (T : Tst) (i : Int) : Pl := if hasT T i then (T i.toNat).getD (0, 0) else (0, 0)
/-- each identity that is there is in bounds, its place is nobody else's -/
structure Inv (T : Tst) : Prop where
  bd : ∀ k p, T k = some p → 4 ≤ k ∧ k < 1024 ∧ plOk p
  inj : ∀ i j p, T i = some p → T j = some p → i = j
theorem Inv.no : Inv noT := ⟨fun k p h => (by cases h), fun i j p h => (by cases h)⟩
theorem ofR_none {T : Tst} (hI : Inv T) {p : Pl} (h : ofR T p = none) (k : Nat) : T k ≠ some p := by
  intro hk
  obtain ⟨h1, h2, _⟩ := hI.bd k p hk
  have := firstIn_no h k h1 h2
  rw [hk] at this
  simp at this
theorem ofR_at {T : Tst} (hI : Inv T) {k : Nat} {p : Pl} (h : T k = some p) : ofR T p = some k := by
  obtain ⟨h1, h2, _⟩ := hI.bd k p h
  refine firstIn_hit h1 h2 (fun j a b => ?_) (by show (T k == some p) = true; rw [h]; simp)
  show (T j == some p) = false
  have : T j ≠ some p := fun e => by have := hI.inj j k p e h; omega
  simpa using this
theorem freeR_at {T : Tst} {k : Nat} (h : freeR T = some k) : 4 ≤ k ∧ k < 1024 ∧ T k = none := by
  obtain ⟨h1, h2, h3, _⟩ := firstIn_some h
  exact ⟨h1, h2, by simpa using h3⟩
theorem Inv.upd {T : Tst} (hI : Inv T) {k : Nat} {p : Pl} (h1 : 4 ≤ k) (h2 : k < 1024) (hp : plOk p) (hn : ∀ j, j ≠ k → T j ≠ some p) : Inv (updT T k (some p)) := by
  refine ⟨fun j q hq => ?_, fun i j q hi hj => ?_⟩
  · unfold updT at hq
    by_cases c : j = k
    · subst c; rw [if_pos rfl] at hq; cases hq; exact ⟨h1, h2, hp⟩
    · rw [if_neg c] at hq; exact hI.bd j q hq
  · unfold updT at hi hj
    by_cases c : i = k
    · rw [if_pos c] at hi
      cases hi
      by_cases d : j = k
      · omega
      · rw [if_neg d] at hj; exact absurd hj (hn j d)
    · rw [if_neg c] at hi
      by_cases d : j = k
      · rw [if_pos d] at hj; cases hj; exact absurd hi (hn i c)
      · rw [if_neg d] at hj; exact hI.inj i j q hi hj
theorem Inv.del {T : Tst} (hI : Inv T) (k : Nat) : Inv (updT T k none) := by
  refine ⟨fun j q hq => ?_, fun i j q hi hj => ?_⟩
  · unfold updT at hq
    by_cases c : j = k
    · rw [if_pos c] at hq; cases hq
    · rw [if_neg c] at hq; exact hI.bd j q hq
  · unfold updT at hi hj
    by_cases c : i = k
    · rw [if_pos c] at hi; cases hi
    · rw [if_neg c] at hi
      by_cases d : j = k
      · rw [if_pos d] at hj; cases hj
      · rw [if_neg d] at hj; exact hI.inj i j q hi hj
theorem Inv.take {T : Tst} (hI : Inv T) {p : Pl} (hp : plOk p) : Inv (takeT T p) := by
  unfold takeT
  cases ho : ofR T p with
  | some j => simpa using hI
  | none =>
    simp only [Option.isSome_none, Bool.false_eq_true, if_false]
    cases hf : freeR T with
    | none => exact hI
    | some k =>
      obtain ⟨h1, h2, h3⟩ := freeR_at hf
      exact hI.upd h1 h2 hp (fun j _ => ofR_none hI ho j)
theorem Inv.give {T : Tst} (hI : Inv T) (i : Int) : Inv (giveT T i) := by
  unfold giveT
  split
  · exact hI.del _
  · exact hI
theorem swapT_at {T : Tst} {x y : Nat} {p q : Pl} (hx : T x = some p) (hy : T y = some q) (h1 : x < 1024) (h2 : y < 1024) : swapB T x y = true ∧ swapT T x y = updT (updT T x (some q)) y (some p) := by
  have hb : swapB T x y = true := by
    unfold swapB
    rw [hasT_in h1, hasT_in h2]
    unfold inR
    rw [hx, hy]; rfl
  refine ⟨hb, ?_⟩
  unfold swapT
  rw [if_pos hb, show (x : Int).toNat = x by simp, show (y : Int).toNat = y by simp, hx, hy]
theorem swap_x {T : Tst} {x y : Nat} {p q : Pl} (hx : T x = some p) (hy : T y = some q) : updT (updT T x (some q)) y (some p) x = some q := by
  by_cases c : x = y
  · subst c; rw [updT_self]; rw [← hx, hy]
  · unfold updT; rw [if_neg c, if_pos rfl]
theorem swap_y {T : Tst} {x y : Nat} {p q : Pl} : updT (updT T x (some q)) y (some p) y = some p := updT_self _
theorem atP_at {T : Tst} {k : Nat} {p : Pl} (h : T k = some p) (hk : k < 1024) : atP T k = p ∧ hasT T k = true := by
  have hh : hasT T k = true := by rw [hasT_in hk]; unfold inR; rw [h]; rfl
  refine ⟨?_, hh⟩
  unfold atP
  rw [if_pos hh, show (k : Int).toNat = k by simp, h]; rfl
theorem idsT_mem {T : Tst} {x : Int} (h : x ∈ idsT T) : ∃ k : Nat, x = k ∧ k < 1024 ∧ ∃ p, T k = some p := by
  unfold idsT at h
  obtain ⟨k, hk, rfl⟩ := List.mem_map.1 h
  rw [List.mem_filter, List.mem_range] at hk
  exact ⟨k, rfl, hk.1, Option.isSome_iff_exists.1 hk.2⟩
theorem mem_idsT {T : Tst} {k : Nat} {p : Pl} (hk : k < 1024) (h : T k = some p) : (k : Int) ∈ idsT T := by
  unfold idsT
  exact List.mem_map.2 ⟨k, by rw [List.mem_filter, List.mem_range]; exact ⟨hk, by rw [h]; rfl⟩, rfl⟩
theorem idsT_sorted (T : Tst) : (idsT T).Pairwise (· < ·) := by
  unfold idsT
  rw [List.pairwise_map]
  refine List.Pairwise.imp (fun {a b} (h : a < b) => by omega) (List.Pairwise.filter _ List.pairwise_lt_range)
theorem idsT_lt {T : Tst} {i j : Nat} {x y : Int} (hij : i < j) (hi : (idsT T)[i]? = some x) (hj : (idsT T)[j]? = some y) : x < y := by
  have h := idsT_sorted T
  obtain ⟨h1, rfl⟩ := List.getElem?_eq_some_iff.1 hi
  obtain ⟨h2, rfl⟩ := List.getElem?_eq_some_iff.1 hj
  exact List.pairwise_iff_getElem.1 h i j h1 h2 hij
end Wd
end Go.Proofs.YtdaojohdmidemaaGreat
