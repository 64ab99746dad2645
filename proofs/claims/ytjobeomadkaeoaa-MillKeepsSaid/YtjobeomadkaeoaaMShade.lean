/- The document's own mill: Shade. -/
import Derived.Test.YtjobeomadkaeoaaMColor
import Derived.StillTailTactics
import Derived.BigRegion
namespace Go.Proofs.Ytjobeomadkaeoaa
open Go.RowKit
namespace Wd
/-- those of a row that are left so far -/
structure FiltSt (w : World) (i : Int) (M : List Int) (k : Nat) (v : Value) (wr : World) : Prop where
  own : wr.ownsRow w.heap.size 3 1 v ((M.take k).filter (· ≠ i)).length (ints ((M.take k).filter (· ≠ i)))
  bel : Below w.heap.size w wr
theorem filt_in {M : List Int} {k : Nat} {x i : Int} (hx : M[k]? = some x) (h : x ≠ i) : (M.take (k + 1)).filter (· ≠ i) = (M.take k).filter (· ≠ i) ++ [x] := by
  rw [List.take_add_one, hx, List.filter_append]
  simp [h]
theorem filt_out {M : List Int} {k : Nat} {i : Int} (hx : M[k]? = some i) : (M.take (k + 1)).filter (· ≠ i) = (M.take k).filter (· ≠ i) := by
  rw [List.take_add_one, hx, List.filter_append]
  simp
theorem colorR_in {A : Mst} {i : Int} (h : colorR A i = 3) : i ∈ A 3 := by
  unfold colorR at h
  repeat' (split at h)
  all_goals first | assumption | omega
set_option maxHeartbeats 16000000 in
theorem rshade_c (i : Int) (b : Nat) (A : Mst) (V : Nat → Value) (w : World) (h : RefM w b A V) (hl : ∀ k, k < 4 → (A k).length ≤ 8192) :
    Calls Try.prog 21 #[.pointer (some ⟨b, 0, none⟩), .int .i64 i] w fun e w' => e = .returned (.bool (decide (colorR A i = 3))) ∧ ∃ V', RefM w' b (shadeA A i) V' ∧ w.grownBy w' (some b) ∧ Comes V V' w.heap.size := by
  by_cases hc : colorR A i = 3
  · have eA : shadeA A i = upA (upA A 3 ((A 3).filter (· ≠ i))) 2 (A 2 ++ [i]) := by unfold shadeA; rw [if_pos hc]
    rw [eA, decide_eq_true hc]
    have hm3 := colorR_in hc
    have P0 := rcolor_c i b A V w h hl
    rw [hc] at P0
    have c3 := h.c 3 (by decide)
    have hl3 := hl 3 (by decide)
    have hl2 := hl 2 (by decide)
    rcases (h.own 3 (by decide)).cases with ⟨_, h0⟩ | ⟨g, cap, hv, hle, hm, hg, hown⟩
    · rw [h0] at hm3; cases hm3
    rw [hv] at c3
    obtain ⟨n, hn⟩ : ∃ n, n = (A 3).length := ⟨_, rfl⟩
    rw [← hn] at c3 hle hl3
    have HN := Lib.hid hn
    have HO : Hid (∀ wX, Below w.heap.size w wX → ∀ k x, (A 3)[k]? = some x → wX.cell? ⟨g, k, none⟩ = some (.int .i64 x)) := Lib.hid (fun wX hX k x hx => (hX.cell (p := ⟨g, k, none⟩) hg).trans (row_cell hown hx))
    have S0 : Hid (FiltSt w i (A 3) 0 (.slice none 0 0) w) := Lib.hid ⟨by simpa [ints] using World.ownsRow_nil w w.heap.size 3 1, Below.refl _ _⟩
    have MC : Hid (∀ wX, Below w.heap.size w wX → wX.cell? ⟨b, 3, none⟩ = some (.slice (some ⟨g, 0, none⟩) n cap) ∧ wX.frozen? ⟨b, 3, none⟩ = false) := Lib.hid (fun wX hX => ⟨(hX.cell h.lt.1).trans c3, (hX.frozen h.lt.1).trans (h.z 3)⟩)
    replace h := Lib.hid h
    replace P0 := Lib.hid P0
    clear hown hv hn hm3 eA hc hm hg
    go_enter Try.func21, Try.ntmps21
    go_wp2_with (first | (go_at_call 30; ((with_reducible refine P0.out.mono ?_); rintro e w' ⟨rfl, hw'⟩; subst w')))
    go_loopw [5, 18] (fun v s wr => ∃ k : Nat, k ≤ n ∧ s = .int .i64 k ∧ FiltSt w i (A 3) k v wr) (fun _ s _ => n - (intOf s).toNat)
    case atStart => exact ⟨0, by omega, rfl, S0.out⟩
    case round =>
      obtain ⟨k, hk, rfl, hR⟩ := hrel
      by_cases hlt : k < n
      · have hlt' : decide ((k : Int) < n) = true := by simp; omega
        obtain ⟨x, hx⟩ : ∃ x, (A 3)[k]? = some x := ⟨(A 3)[k]'(by have := HN.out; omega), by simp⟩
        have hcx := HO.out wr hR.bel k x hx
        have HX := Lib.hid hx
        have hfl : ((A 3).take k).length ≤ 8192 := by rw [List.length_take]; omega
        have hfl2 : (((A 3).take k).filter (· ≠ i)).length ≤ 8192 := Nat.le_trans (List.length_filter_le _ _) hfl
        replace hR := Lib.hid hR
        clear hx
        by_cases he : x = i
        · have he' : (x != i) = false := by simp [he]
          go_wp2
          go_roundw
          case rel => exact ⟨k + 1, by omega, by go_num, by rw [filt_out (by rw [← he]; exact HX.out)]; exact hR.out.own, hR.out.bel⟩
          case measure => simp [intOf]; omega
        · have he' : (x != i) = true := by simp [he]
          go_wp2_with (first | (at_builtin; refine wpList_app rfl (.tmp 25) (.tmp 27) rfl w.heap.size _ u5 _ (((A 3).take k).filter (· ≠ i)) [x] (by simp [Act.eval]) rfl (hR.out.own.alloc _) (Reads.one ((World.cell?_alloc_new _ _ _ 0).trans rfl)) (by have := hfl2; simp only [List.length_singleton]; omega) (by have := hR.out.bel.size; simp; omega) ?_; intro v1 w1 hown1 hgrow1 hat1; rw [← List.length_append, ← filt_in HX.out he] at hown1; have R1 := Lib.hid (FiltSt.mk hown1 ((hR.out.bel.alloc hR.out.bel.size _).grown hgrow1 (by have := hR.out.bel.size; simp; omega) (fun k' hk' => (hR.out.own.lt k' hk').1)))))
          go_roundw
          case rel => exact ⟨k + 1, by omega, by go_num, R1.out⟩
          case measure => simp [intOf]; omega
      · have e : k = n := by omega
        subst e
        have hkn' : decide ((k : Int) < (k : Int)) = false := by simp
        obtain ⟨d3, z3⟩ := MC.out wr hR.bel
        obtain ⟨x1, n1, c1, rfl⟩ := slice_form hR.own
        have ho1 := own_base hR.own
        rw [List.take_of_length_le (by have := HN.out; omega)] at ho1
        have R1 := RefM.put (k := 3) (h.out.keep hR.bel) (by decide) (v := .slice x1 n1 c1) (X := (A 3).filter (· ≠ i)) ho1 (fun e => by have := (hR.own.lt b e).1; have := h.out.lt.1; omega)
        have G1 := grown_put (b := b) (k := 3) hR.bel (.slice x1 n1 c1)
        have C1 := (Comes.refl V w.heap.size).up 3 (v := .slice x1 n1 c1) (fun g hg => Or.inl (hR.own.lt g hg).1)
        replace R1 := Lib.hid R1
        replace G1 := Lib.hid G1
        replace C1 := Lib.hid C1
        clear ho1 hR
        go_wp2
        replace R1 := R1.out
        replace G1 := G1.out
        replace C1 := C1.out
        generalize hV1 : upV V 3 (.slice x1 n1 c1) = V1 at R1 C1
        have hVy : V1 2 = V 2 := by rw [← hV1]; rfl
        clear hV1 d3 z3
        generalize wr.setCell ⟨b, 3, none⟩ (.slice x1 n1 c1) = w3 at R1 G1 ⊢
        have hck := R1.c 2 (by decide)
        have hzk := R1.z 2
        rw [hVy] at hck
        have hb := R1.lt.1
        have MK : Hid (∀ wX, Below w3.heap.size w3 wX → wX.cell? ⟨b, 2, none⟩ = some (V 2) ∧ wX.frozen? ⟨b, 2, none⟩ = false ∧ Below w3.heap.size w3 wX) := Lib.hid (fun wX hX => ⟨(hX.cell hb).trans hck, (hX.frozen hb).trans hzk, hX⟩)
        have T1 : Hid (∀ wX, Below w3.heap.size w3 wX → Reads wX (V 2) (A 2)) := Lib.hid (fun wX hX => by have := SL.keep (R1.own 2 (by decide)) hX; rw [hVy] at this; exact this.reads)
        replace R1 := Lib.hid R1
        replace G1 := Lib.hid G1
        replace C1 := Lib.hid C1
        refine wp_region_last (d := 14) (fuel := 14) (S := (fun w' => w'.cell? ⟨b, 2, none⟩ = some (V 2) ∧ w'.frozen? ⟨b, 2, none⟩ = false ∧ Below w3.heap.size w3 w')) (by kernel_rfl) (by kernel_rfl) rfl ?_ (fun hHeld => ?_)
        · (try dsimp only); (refine MK.out _ ?_; first | exact hB2 | exact hB1 | exact (Below.refl _ _).drew | exact ((Below.refl _ _).alloc (Nat.le_refl _) _).drew | exact (((Below.refl _ _).alloc (Nat.le_refl _) _).alloc (by simp) _).drew | exact hHeld.2.2.alloc hHeld.2.2.size _)
        try simp only [Act.put, List.setIfInBounds_toArray, List.set_cons_zero, List.set_cons_succ]
        refine wpAnyH_take (i := 0) (oi := { dst := some 35, op := Op.move (Operand.tmp 0), type := 41, pos := "ref.go:129", after := #[], guard := none }) (v := ?_) rfl (by kernel_rfl) (by kernel_rfl) (by kernel_rfl) (fun _ _ _ h => h) (Or.inl ⟨by rfl, ?_⟩) (by assumption) ?_
        rotate_left 1
        · intro w hSw; (try dsimp only at hSw); go_simp <;> with_reducible rfl
        try simp only [Act.put, List.setIfInBounds_toArray, List.set_cons_zero, List.set_cons_succ]
        refine wpAnyH_take (i := 2) (oi := { dst := some 37, op := Op.move (Operand.tmp 0), type := 41, pos := "ref.go:129", after := #[], guard := none }) (v := ?_) rfl (by kernel_rfl) (by kernel_rfl) (by kernel_rfl) (fun _ _ _ h => h) (Or.inl ⟨by rfl, ?_⟩) (by assumption) ?_
        rotate_left 1
        · intro w hSw; (try dsimp only at hSw); go_simp <;> with_reducible rfl
        try simp only [Act.put, List.setIfInBounds_toArray, List.set_cons_zero, List.set_cons_succ]
        refine wpAnyH_take (i := 3) (oi := { dst := some 38, op := Op.nilCheck (Operand.tmp 37), type := 0, pos := "ref.go:129", after := #[{ on := 2, ground := Ground.data }], guard := none }) (v := ?_) rfl (by kernel_rfl) (by kernel_rfl) (by kernel_rfl) (fun _ _ _ h => h) (Or.inl ⟨by rfl, ?_⟩) (by assumption) ?_
        rotate_left 1
        · intro w hSw; (try dsimp only at hSw); go_simp <;> with_reducible rfl
        try simp only [Act.put, List.setIfInBounds_toArray, List.set_cons_zero, List.set_cons_succ]
        refine wpAnyH_take (i := 4) (oi := { dst := some 39, op := Op.fieldAddr 53 (Operand.tmp 38) 0, type := 0, pos := "ref.go:129", after := #[{ on := 3, ground := Ground.data }], guard := none }) (v := ?_) rfl (by kernel_rfl) (by kernel_rfl) (by kernel_rfl) (fun _ _ _ h => h) (Or.inl ⟨by rfl, ?_⟩) (by assumption) ?_
        rotate_left 1
        · intro w hSw; (try dsimp only at hSw); go_simp <;> with_reducible rfl
        try simp only [Act.put, List.setIfInBounds_toArray, List.set_cons_zero, List.set_cons_succ]
        refine wpAnyH_take (i := 5) (oi := { dst := some 40, op := Op.indexAddr 51 (Operand.tmp 39) (Operand.const (Value.int IntKind.i64 2)), type := 0, pos := "ref.go:129", after := #[{ on := 4, ground := Ground.data }], guard := none }) (v := ?_) rfl (by kernel_rfl) (by kernel_rfl) (by kernel_rfl) (fun _ _ _ h => h) (Or.inl ⟨by rfl, ?_⟩) (by assumption) ?_
        rotate_left 1
        · intro w hSw; (try dsimp only at hSw); go_simp <;> with_reducible rfl
        try simp only [Act.put, List.setIfInBounds_toArray, List.set_cons_zero, List.set_cons_succ]
        refine wpAnyH_take (i := 6) (oi := { dst := some 41, op := Op.load 33 (Operand.tmp 40), type := 33, pos := "ref.go:129", after := #[{ on := 5, ground := Ground.data }], guard := none }) (v := ?_) rfl (by kernel_rfl) (by kernel_rfl) (by kernel_rfl) (fun _ _ _ h => h) (Or.inl ⟨by rfl, ?_⟩) (by assumption) ?_
        rotate_left 1
        · intro w hSw; (try dsimp only at hSw); go_simp <;> with_reducible rfl
        try simp only [Act.put, List.setIfInBounds_toArray, List.set_cons_zero, List.set_cons_succ]
        refine wpAnyH_take (i := 8) (oi := { dst := some 43, op := Op.move (Operand.tmp 1), type := 3, pos := "ref.go:129", after := #[], guard := none }) (v := ?_) rfl (by kernel_rfl) (by kernel_rfl) (by kernel_rfl) (fun _ _ _ h => h) (Or.inl ⟨by rfl, ?_⟩) (by assumption) ?_
        rotate_left 1
        · intro w hSw; (try dsimp only at hSw); go_simp <;> with_reducible rfl
        try simp only [Act.put, List.setIfInBounds_toArray, List.set_cons_zero, List.set_cons_succ]
        refine wpAnyH_take (i := 11) (oi := { dst := some 46, op := Op.nilCheck (Operand.tmp 35), type := 0, pos := "ref.go:129", after := #[{ on := 0, ground := Ground.data }], guard := none }) (v := ?_) rfl (by kernel_rfl) (by kernel_rfl) (by kernel_rfl) (fun _ _ _ h => h) (Or.inl ⟨by rfl, ?_⟩) (by assumption) ?_
        rotate_left 1
        · intro w hSw; (try dsimp only at hSw); go_simp <;> with_reducible rfl
        try simp only [Act.put, List.setIfInBounds_toArray, List.set_cons_zero, List.set_cons_succ]
        refine wpAnyH_take (i := 12) (oi := { dst := some 47, op := Op.fieldAddr 53 (Operand.tmp 46) 0, type := 0, pos := "ref.go:129", after := #[{ on := 11, ground := Ground.data }], guard := none }) (v := ?_) rfl (by kernel_rfl) (by kernel_rfl) (by kernel_rfl) (fun _ _ _ h => h) (Or.inl ⟨by rfl, ?_⟩) (by assumption) ?_
        rotate_left 1
        · intro w hSw; (try dsimp only at hSw); go_simp <;> with_reducible rfl
        try simp only [Act.put, List.setIfInBounds_toArray, List.set_cons_zero, List.set_cons_succ]
        refine wpAnyH_ready (rs := [1, 9]) (by kernel_rfl) (by simp) ?_
        refine AllReadyH.cons (o := { dst := some 36, op := Op.buildSlice 33 0 #[], type := 33, pos := "ref.go:129", after := #[], guard := none }) rfl (fun K hK => ?_) ?_
        · go_simp
          refine hK.out _ _ ?_ ?_
          · (try dsimp only); (refine MK.out _ ?_; first | exact hB2 | exact hB1 | exact (Below.refl _ _).drew | exact ((Below.refl _ _).alloc (Nat.le_refl _) _).drew | exact (((Below.refl _ _).alloc (Nat.le_refl _) _).alloc (by simp) _).drew | exact hHeld.2.2.alloc hHeld.2.2.size _)
          clear hK K hHeld; intro hHeld
          try simp only [Act.put, List.setIfInBounds_toArray, List.set_cons_zero, List.set_cons_succ]
          refine wpAnyH_ready (rs := [7, 9]) (by kernel_rfl) (by simp) ?_
          refine AllReadyH.cons (o := { dst := some 42, op := Op.call { callee := Callee.builtin Builtin.append, args := #[Operand.tmp 36, Operand.tmp 41], argTypes := #[33, 33] }, type := 33, pos := "ref.go:129", after := #[{ on := 1, ground := Ground.data }, { on := 6, ground := Ground.data }], guard := none }) rfl (fun K hK => ?_) ?_
          · refine step_app rfl (.tmp 36) (.tmp 41) rfl w3.heap.size 0 (.slice (some ⟨w3.heap.size, 0, none⟩) 0 0) _ [] (A 2) rfl rfl (by first | exact World.ownsRow_made w3 #[] 0 (Nat.le_refl _) (by decide) rfl | exact (World.ownsRow_made w3 #[] 0 (Nat.le_refl _) (by decide) rfl).alloc _ | exact made_after _ _ _) (T1.out _ hHeld.2.2) (by first | omega | (simp; omega)) hHeld.2.2.size ?_; intro v1 w1 hown1 hgrow1 hat1; have hB1 : Below w3.heap.size w3 w1 := hHeld.2.2.grown hgrow1 hHeld.2.2.size (fun k hk => by simp [Value.ownBlock] at hk; omega); simp only [List.nil_append, Nat.zero_add] at hown1; obtain ⟨x1, n1, c1, rfl⟩ := slice_form hown1
            refine hK.out _ _ ?_ ?_
            · (try dsimp only); (refine MK.out _ ?_; first | exact hB2 | exact hB1 | exact (Below.refl _ _).drew | exact ((Below.refl _ _).alloc (Nat.le_refl _) _).drew | exact (((Below.refl _ _).alloc (Nat.le_refl _) _).alloc (by simp) _).drew | exact hHeld.2.2.alloc hHeld.2.2.size _)
            clear hK K hHeld; intro hHeld
            try simp only [Act.put, List.setIfInBounds_toArray, List.set_cons_zero, List.set_cons_succ]
            refine wpAnyH_ready (rs := [9]) (by kernel_rfl) (by simp) ?_
            refine AllReadyH.cons (o := { dst := some 44, op := Op.buildSlice 33 1 #[(0, Operand.tmp 43)], type := 33, pos := "ref.go:129", after := #[{ on := 8, ground := Ground.data }], guard := none }) rfl (fun K hK => ?_) ?_
            · go_simp
              refine hK.out _ _ ?_ ?_
              · (try dsimp only); (refine MK.out _ ?_; first | exact hB2 | exact hB1 | exact (Below.refl _ _).drew | exact ((Below.refl _ _).alloc (Nat.le_refl _) _).drew | exact (((Below.refl _ _).alloc (Nat.le_refl _) _).alloc (by simp) _).drew | exact hHeld.2.2.alloc hHeld.2.2.size _)
              clear hK K hHeld; intro hHeld
              try simp only [Act.put, List.setIfInBounds_toArray, List.set_cons_zero, List.set_cons_succ]
              refine wpAnyH_ready (rs := [10]) (by kernel_rfl) (by simp) ?_
              refine AllReadyH.cons (o := { dst := some 45, op := Op.call { callee := Callee.builtin Builtin.append, args := #[Operand.tmp 42, Operand.tmp 44], argTypes := #[33, 33] }, type := 33, pos := "ref.go:129", after := #[{ on := 7, ground := Ground.data }, { on := 9, ground := Ground.data }, { on := 7, ground := Ground.chain }], guard := none }) rfl (fun K hK => ?_) ?_
              · refine step_app rfl (.tmp 42) (.tmp 44) rfl w3.heap.size _ _ _ _ [i] rfl rfl (by first | exact hown1 | exact hown1.alloc _) (Reads.one (by first | exact (World.cell?_alloc_new _ _ _ 0).trans rfl | exact hgrow1.cell (by first | (simp; done) | exact (World.cell?_alloc_lt _ _ _ (by simp)).trans ((World.cell?_alloc_new _ _ _ 0).trans rfl)) (by simp [Value.ownBlock]))) (by first | omega | (simp; omega)) hHeld.2.2.size ?_; intro v2 w2 hown2 hgrow2 hat2; have hB2 : Below w3.heap.size w3 w2 := hHeld.2.2.grown hgrow2 hHeld.2.2.size (fun k hk => (hown1.lt k hk).1); rw [← List.length_append] at hown2; obtain ⟨x2, n2, c2, rfl⟩ := slice_form hown2
                refine hK.out _ _ ?_ ?_
                · (try dsimp only); (refine MK.out _ ?_; first | exact hB2 | exact hB1 | exact (Below.refl _ _).drew | exact ((Below.refl _ _).alloc (Nat.le_refl _) _).drew | exact (((Below.refl _ _).alloc (Nat.le_refl _) _).alloc (by simp) _).drew | exact hHeld.2.2.alloc hHeld.2.2.size _)
                clear hK K hHeld; intro hHeld
                try simp only [Act.put, List.setIfInBounds_toArray, List.set_cons_zero, List.set_cons_succ]
                refine wpAnyH_take (i := 13) (oi := { dst := some 48, op := Op.indexAddr 51 (Operand.tmp 47) (Operand.const (Value.int IntKind.i64 2)), type := 0, pos := "ref.go:129", after := #[{ on := 12, ground := Ground.data }, { on := 0, ground := Ground.phase }, { on := 1, ground := Ground.phase }, { on := 2, ground := Ground.phase }, { on := 3, ground := Ground.phase }, { on := 4, ground := Ground.phase }, { on := 5, ground := Ground.phase }, { on := 6, ground := Ground.phase }, { on := 7, ground := Ground.phase }, { on := 8, ground := Ground.phase }, { on := 9, ground := Ground.phase }, { on := 10, ground := Ground.phase }], guard := none }) (v := ?_) rfl (by kernel_rfl) (by kernel_rfl) (by kernel_rfl) (fun _ _ _ h => h) (Or.inl ⟨by rfl, ?_⟩) (by assumption) ?_
                rotate_left 1
                · intro w hSw; (try dsimp only at hSw); go_simp <;> with_reducible rfl
                try simp only [Act.put, List.setIfInBounds_toArray, List.set_cons_zero, List.set_cons_succ]
                refine last_step (o := { dst := none, op := Op.store 33 (Operand.tmp 48) (Operand.tmp 45), type := 0, pos := "ref.go:129", after := #[{ on := 13, ground := Ground.data }, { on := 10, ground := Ground.data }, { on := 10, ground := Ground.chain }, { on := 0, ground := Ground.phase }, { on := 1, ground := Ground.phase }, { on := 2, ground := Ground.phase }, { on := 3, ground := Ground.phase }, { on := 4, ground := Ground.phase }, { on := 5, ground := Ground.phase }, { on := 6, ground := Ground.phase }, { on := 7, ground := Ground.phase }, { on := 8, ground := Ground.phase }, { on := 9, ground := Ground.phase }, { on := 10, ground := Ground.phase }], guard := none }) rfl (by kernel_rfl) (fun K hK => ?_)
                go_simp
                refine hK.out _ _ ?_
                clear hK K
                try simp only [Act.put, List.setIfInBounds_toArray, List.set_cons_zero, List.set_cons_succ]
                have R2 := Lib.hid (RefM.put (k := 2) (R1.out.keep hHeld.2.2) (by decide) (own_base hown2) (fun e => by have := (hown2.lt b e).1; have := R1.out.lt.1; omega))
                have G2 := Lib.hid (grown_put2 (k := 2) G1.out hHeld.2.2 (.slice x2 n2 c2))
                have C2 := Lib.hid (C1.out.up 2 (v := .slice x2 n2 c2) (fun g hg => Or.inl (Nat.le_trans G1.out.size (hown2.lt g hg).1)))
                go_wp2
                go_ret
                exact ⟨rfl, _, R2.out, G2.out, C2.out⟩
              exact AllReadyH.nil
            exact AllReadyH.nil
          refine AllReadyH.cons (o := { dst := some 44, op := Op.buildSlice 33 1 #[(0, Operand.tmp 43)], type := 33, pos := "ref.go:129", after := #[{ on := 8, ground := Ground.data }], guard := none }) rfl (fun K hK => ?_) ?_
          · go_simp
            refine hK.out _ _ ?_ ?_
            · (try dsimp only); (refine MK.out _ ?_; first | exact hB2 | exact hB1 | exact (Below.refl _ _).drew | exact ((Below.refl _ _).alloc (Nat.le_refl _) _).drew | exact (((Below.refl _ _).alloc (Nat.le_refl _) _).alloc (by simp) _).drew | exact hHeld.2.2.alloc hHeld.2.2.size _)
            clear hK K hHeld; intro hHeld
            try simp only [Act.put, List.setIfInBounds_toArray, List.set_cons_zero, List.set_cons_succ]
            refine wpAnyH_ready (rs := [7]) (by kernel_rfl) (by simp) ?_
            refine AllReadyH.cons (o := { dst := some 42, op := Op.call { callee := Callee.builtin Builtin.append, args := #[Operand.tmp 36, Operand.tmp 41], argTypes := #[33, 33] }, type := 33, pos := "ref.go:129", after := #[{ on := 1, ground := Ground.data }, { on := 6, ground := Ground.data }], guard := none }) rfl (fun K hK => ?_) ?_
            · refine step_app rfl (.tmp 36) (.tmp 41) rfl w3.heap.size 0 (.slice (some ⟨w3.heap.size, 0, none⟩) 0 0) _ [] (A 2) rfl rfl (by first | exact World.ownsRow_made w3 #[] 0 (Nat.le_refl _) (by decide) rfl | exact (World.ownsRow_made w3 #[] 0 (Nat.le_refl _) (by decide) rfl).alloc _ | exact made_after _ _ _) (T1.out _ hHeld.2.2) (by first | omega | (simp; omega)) hHeld.2.2.size ?_; intro v1 w1 hown1 hgrow1 hat1; have hB1 : Below w3.heap.size w3 w1 := hHeld.2.2.grown hgrow1 hHeld.2.2.size (fun k hk => by simp [Value.ownBlock] at hk; omega); simp only [List.nil_append, Nat.zero_add] at hown1; obtain ⟨x1, n1, c1, rfl⟩ := slice_form hown1
              refine hK.out _ _ ?_ ?_
              · (try dsimp only); (refine MK.out _ ?_; first | exact hB2 | exact hB1 | exact (Below.refl _ _).drew | exact ((Below.refl _ _).alloc (Nat.le_refl _) _).drew | exact (((Below.refl _ _).alloc (Nat.le_refl _) _).alloc (by simp) _).drew | exact hHeld.2.2.alloc hHeld.2.2.size _)
              clear hK K hHeld; intro hHeld
              try simp only [Act.put, List.setIfInBounds_toArray, List.set_cons_zero, List.set_cons_succ]
              refine wpAnyH_ready (rs := [10]) (by kernel_rfl) (by simp) ?_
              refine AllReadyH.cons (o := { dst := some 45, op := Op.call { callee := Callee.builtin Builtin.append, args := #[Operand.tmp 42, Operand.tmp 44], argTypes := #[33, 33] }, type := 33, pos := "ref.go:129", after := #[{ on := 7, ground := Ground.data }, { on := 9, ground := Ground.data }, { on := 7, ground := Ground.chain }], guard := none }) rfl (fun K hK => ?_) ?_
              · refine step_app rfl (.tmp 42) (.tmp 44) rfl w3.heap.size _ _ _ _ [i] rfl rfl (by first | exact hown1 | exact hown1.alloc _) (Reads.one (by first | exact (World.cell?_alloc_new _ _ _ 0).trans rfl | exact hgrow1.cell (by first | (simp; done) | exact (World.cell?_alloc_lt _ _ _ (by simp)).trans ((World.cell?_alloc_new _ _ _ 0).trans rfl)) (by simp [Value.ownBlock]))) (by first | omega | (simp; omega)) hHeld.2.2.size ?_; intro v2 w2 hown2 hgrow2 hat2; have hB2 : Below w3.heap.size w3 w2 := hHeld.2.2.grown hgrow2 hHeld.2.2.size (fun k hk => (hown1.lt k hk).1); rw [← List.length_append] at hown2; obtain ⟨x2, n2, c2, rfl⟩ := slice_form hown2
                refine hK.out _ _ ?_ ?_
                · (try dsimp only); (refine MK.out _ ?_; first | exact hB2 | exact hB1 | exact (Below.refl _ _).drew | exact ((Below.refl _ _).alloc (Nat.le_refl _) _).drew | exact (((Below.refl _ _).alloc (Nat.le_refl _) _).alloc (by simp) _).drew | exact hHeld.2.2.alloc hHeld.2.2.size _)
                clear hK K hHeld; intro hHeld
                try simp only [Act.put, List.setIfInBounds_toArray, List.set_cons_zero, List.set_cons_succ]
                refine wpAnyH_take (i := 13) (oi := { dst := some 48, op := Op.indexAddr 51 (Operand.tmp 47) (Operand.const (Value.int IntKind.i64 2)), type := 0, pos := "ref.go:129", after := #[{ on := 12, ground := Ground.data }, { on := 0, ground := Ground.phase }, { on := 1, ground := Ground.phase }, { on := 2, ground := Ground.phase }, { on := 3, ground := Ground.phase }, { on := 4, ground := Ground.phase }, { on := 5, ground := Ground.phase }, { on := 6, ground := Ground.phase }, { on := 7, ground := Ground.phase }, { on := 8, ground := Ground.phase }, { on := 9, ground := Ground.phase }, { on := 10, ground := Ground.phase }], guard := none }) (v := ?_) rfl (by kernel_rfl) (by kernel_rfl) (by kernel_rfl) (fun _ _ _ h => h) (Or.inl ⟨by rfl, ?_⟩) (by assumption) ?_
                rotate_left 1
                · intro w hSw; (try dsimp only at hSw); go_simp <;> with_reducible rfl
                try simp only [Act.put, List.setIfInBounds_toArray, List.set_cons_zero, List.set_cons_succ]
                refine last_step (o := { dst := none, op := Op.store 33 (Operand.tmp 48) (Operand.tmp 45), type := 0, pos := "ref.go:129", after := #[{ on := 13, ground := Ground.data }, { on := 10, ground := Ground.data }, { on := 10, ground := Ground.chain }, { on := 0, ground := Ground.phase }, { on := 1, ground := Ground.phase }, { on := 2, ground := Ground.phase }, { on := 3, ground := Ground.phase }, { on := 4, ground := Ground.phase }, { on := 5, ground := Ground.phase }, { on := 6, ground := Ground.phase }, { on := 7, ground := Ground.phase }, { on := 8, ground := Ground.phase }, { on := 9, ground := Ground.phase }, { on := 10, ground := Ground.phase }], guard := none }) rfl (by kernel_rfl) (fun K hK => ?_)
                go_simp
                refine hK.out _ _ ?_
                clear hK K
                try simp only [Act.put, List.setIfInBounds_toArray, List.set_cons_zero, List.set_cons_succ]
                have R2 := Lib.hid (RefM.put (k := 2) (R1.out.keep hHeld.2.2) (by decide) (own_base hown2) (fun e => by have := (hown2.lt b e).1; have := R1.out.lt.1; omega))
                have G2 := Lib.hid (grown_put2 (k := 2) G1.out hHeld.2.2 (.slice x2 n2 c2))
                have C2 := Lib.hid (C1.out.up 2 (v := .slice x2 n2 c2) (fun g hg => Or.inl (Nat.le_trans G1.out.size (hown2.lt g hg).1)))
                go_wp2
                go_ret
                exact ⟨rfl, _, R2.out, G2.out, C2.out⟩
              exact AllReadyH.nil
            exact AllReadyH.nil
          exact AllReadyH.nil
        refine AllReadyH.cons (o := { dst := some 44, op := Op.buildSlice 33 1 #[(0, Operand.tmp 43)], type := 33, pos := "ref.go:129", after := #[{ on := 8, ground := Ground.data }], guard := none }) rfl (fun K hK => ?_) ?_
        · go_simp
          refine hK.out _ _ ?_ ?_
          · (try dsimp only); (refine MK.out _ ?_; first | exact hB2 | exact hB1 | exact (Below.refl _ _).drew | exact ((Below.refl _ _).alloc (Nat.le_refl _) _).drew | exact (((Below.refl _ _).alloc (Nat.le_refl _) _).alloc (by simp) _).drew | exact hHeld.2.2.alloc hHeld.2.2.size _)
          clear hK K hHeld; intro hHeld
          try simp only [Act.put, List.setIfInBounds_toArray, List.set_cons_zero, List.set_cons_succ]
          refine wpAnyH_ready (rs := [1]) (by kernel_rfl) (by simp) ?_
          refine AllReadyH.cons (o := { dst := some 36, op := Op.buildSlice 33 0 #[], type := 33, pos := "ref.go:129", after := #[], guard := none }) rfl (fun K hK => ?_) ?_
          · go_simp
            refine hK.out _ _ ?_ ?_
            · (try dsimp only); (refine MK.out _ ?_; first | exact hB2 | exact hB1 | exact (Below.refl _ _).drew | exact ((Below.refl _ _).alloc (Nat.le_refl _) _).drew | exact (((Below.refl _ _).alloc (Nat.le_refl _) _).alloc (by simp) _).drew | exact hHeld.2.2.alloc hHeld.2.2.size _)
            clear hK K hHeld; intro hHeld
            try simp only [Act.put, List.setIfInBounds_toArray, List.set_cons_zero, List.set_cons_succ]
            refine wpAnyH_ready (rs := [7]) (by kernel_rfl) (by simp) ?_
            refine AllReadyH.cons (o := { dst := some 42, op := Op.call { callee := Callee.builtin Builtin.append, args := #[Operand.tmp 36, Operand.tmp 41], argTypes := #[33, 33] }, type := 33, pos := "ref.go:129", after := #[{ on := 1, ground := Ground.data }, { on := 6, ground := Ground.data }], guard := none }) rfl (fun K hK => ?_) ?_
            · refine step_app rfl (.tmp 36) (.tmp 41) rfl w3.heap.size 0 (.slice (some ⟨w3.heap.size + 1, 0, none⟩) 0 0) _ [] (A 2) rfl rfl (by first | exact World.ownsRow_made w3 #[] 0 (Nat.le_refl _) (by decide) rfl | exact (World.ownsRow_made w3 #[] 0 (Nat.le_refl _) (by decide) rfl).alloc _ | exact made_after _ _ _) (T1.out _ hHeld.2.2) (by first | omega | (simp; omega)) hHeld.2.2.size ?_; intro v1 w1 hown1 hgrow1 hat1; have hB1 : Below w3.heap.size w3 w1 := hHeld.2.2.grown hgrow1 hHeld.2.2.size (fun k hk => by simp [Value.ownBlock] at hk; omega); simp only [List.nil_append, Nat.zero_add] at hown1; obtain ⟨x1, n1, c1, rfl⟩ := slice_form hown1
              refine hK.out _ _ ?_ ?_
              · (try dsimp only); (refine MK.out _ ?_; first | exact hB2 | exact hB1 | exact (Below.refl _ _).drew | exact ((Below.refl _ _).alloc (Nat.le_refl _) _).drew | exact (((Below.refl _ _).alloc (Nat.le_refl _) _).alloc (by simp) _).drew | exact hHeld.2.2.alloc hHeld.2.2.size _)
              clear hK K hHeld; intro hHeld
              try simp only [Act.put, List.setIfInBounds_toArray, List.set_cons_zero, List.set_cons_succ]
              refine wpAnyH_ready (rs := [10]) (by kernel_rfl) (by simp) ?_
              refine AllReadyH.cons (o := { dst := some 45, op := Op.call { callee := Callee.builtin Builtin.append, args := #[Operand.tmp 42, Operand.tmp 44], argTypes := #[33, 33] }, type := 33, pos := "ref.go:129", after := #[{ on := 7, ground := Ground.data }, { on := 9, ground := Ground.data }, { on := 7, ground := Ground.chain }], guard := none }) rfl (fun K hK => ?_) ?_
              · refine step_app rfl (.tmp 42) (.tmp 44) rfl w3.heap.size _ _ _ _ [i] rfl rfl (by first | exact hown1 | exact hown1.alloc _) (Reads.one (by first | exact (World.cell?_alloc_new _ _ _ 0).trans rfl | exact hgrow1.cell (by first | (simp; done) | exact (World.cell?_alloc_lt _ _ _ (by simp)).trans ((World.cell?_alloc_new _ _ _ 0).trans rfl)) (by simp [Value.ownBlock]))) (by first | omega | (simp; omega)) hHeld.2.2.size ?_; intro v2 w2 hown2 hgrow2 hat2; have hB2 : Below w3.heap.size w3 w2 := hHeld.2.2.grown hgrow2 hHeld.2.2.size (fun k hk => (hown1.lt k hk).1); rw [← List.length_append] at hown2; obtain ⟨x2, n2, c2, rfl⟩ := slice_form hown2
                refine hK.out _ _ ?_ ?_
                · (try dsimp only); (refine MK.out _ ?_; first | exact hB2 | exact hB1 | exact (Below.refl _ _).drew | exact ((Below.refl _ _).alloc (Nat.le_refl _) _).drew | exact (((Below.refl _ _).alloc (Nat.le_refl _) _).alloc (by simp) _).drew | exact hHeld.2.2.alloc hHeld.2.2.size _)
                clear hK K hHeld; intro hHeld
                try simp only [Act.put, List.setIfInBounds_toArray, List.set_cons_zero, List.set_cons_succ]
                refine wpAnyH_take (i := 13) (oi := { dst := some 48, op := Op.indexAddr 51 (Operand.tmp 47) (Operand.const (Value.int IntKind.i64 2)), type := 0, pos := "ref.go:129", after := #[{ on := 12, ground := Ground.data }, { on := 0, ground := Ground.phase }, { on := 1, ground := Ground.phase }, { on := 2, ground := Ground.phase }, { on := 3, ground := Ground.phase }, { on := 4, ground := Ground.phase }, { on := 5, ground := Ground.phase }, { on := 6, ground := Ground.phase }, { on := 7, ground := Ground.phase }, { on := 8, ground := Ground.phase }, { on := 9, ground := Ground.phase }, { on := 10, ground := Ground.phase }], guard := none }) (v := ?_) rfl (by kernel_rfl) (by kernel_rfl) (by kernel_rfl) (fun _ _ _ h => h) (Or.inl ⟨by rfl, ?_⟩) (by assumption) ?_
                rotate_left 1
                · intro w hSw; (try dsimp only at hSw); go_simp <;> with_reducible rfl
                try simp only [Act.put, List.setIfInBounds_toArray, List.set_cons_zero, List.set_cons_succ]
                refine last_step (o := { dst := none, op := Op.store 33 (Operand.tmp 48) (Operand.tmp 45), type := 0, pos := "ref.go:129", after := #[{ on := 13, ground := Ground.data }, { on := 10, ground := Ground.data }, { on := 10, ground := Ground.chain }, { on := 0, ground := Ground.phase }, { on := 1, ground := Ground.phase }, { on := 2, ground := Ground.phase }, { on := 3, ground := Ground.phase }, { on := 4, ground := Ground.phase }, { on := 5, ground := Ground.phase }, { on := 6, ground := Ground.phase }, { on := 7, ground := Ground.phase }, { on := 8, ground := Ground.phase }, { on := 9, ground := Ground.phase }, { on := 10, ground := Ground.phase }], guard := none }) rfl (by kernel_rfl) (fun K hK => ?_)
                go_simp
                refine hK.out _ _ ?_
                clear hK K
                try simp only [Act.put, List.setIfInBounds_toArray, List.set_cons_zero, List.set_cons_succ]
                have R2 := Lib.hid (RefM.put (k := 2) (R1.out.keep hHeld.2.2) (by decide) (own_base hown2) (fun e => by have := (hown2.lt b e).1; have := R1.out.lt.1; omega))
                have G2 := Lib.hid (grown_put2 (k := 2) G1.out hHeld.2.2 (.slice x2 n2 c2))
                have C2 := Lib.hid (C1.out.up 2 (v := .slice x2 n2 c2) (fun g hg => Or.inl (Nat.le_trans G1.out.size (hown2.lt g hg).1)))
                go_wp2
                go_ret
                exact ⟨rfl, _, R2.out, G2.out, C2.out⟩
              exact AllReadyH.nil
            exact AllReadyH.nil
          exact AllReadyH.nil
        exact AllReadyH.nil
  · have eA : shadeA A i = A := by unfold shadeA; rw [if_neg hc]
    rw [eA, decide_eq_false hc]
    have hc' : (colorR A i != 3) = true := by simpa using hc
    have P0 := Lib.hid (rcolor_c i b A V w h hl)
    generalize colorR A i = u at *
    replace h := Lib.hid h
    clear eA hc
    go_enter Try.func21, Try.ntmps21
    go_wp2_with (first | (go_at_call 30; ((with_reducible refine P0.out.mono ?_); rintro e w' ⟨rfl, hw'⟩; subst w')))
    go_ret
    exact ⟨rfl, V, h.out, grown_refl _ _, Comes.refl _ _⟩
end Wd
end Go.Proofs.Ytjobeomadkaeoaa
