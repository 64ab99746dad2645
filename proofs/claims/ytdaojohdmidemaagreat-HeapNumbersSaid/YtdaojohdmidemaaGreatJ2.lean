/- Texts joined: MFirst, MColor. -/
import Derived.Test.YtdaojohdmidemaaGreatJ1
import Derived.StillTailTactics
import Derived.BigRegion
/- The document's own mill: the first of a row is the last of another. -/
namespace Go.Proofs.YtdaojohdmidemaaGreat
open Go.RowKit
set_option linter.unusedVariables false
namespace Wd
set_option maxHeartbeats 16000000 in
theorem first0_c (b : Nat) (A : Mst) (V : Nat → Value) (w : World) (h : RefM w b A V) (hl : ∀ k, k < 4 → (A k).length ≤ 8192) :
    Calls Tryz.prog 91 #[.pointer (some ⟨b, 0, none⟩), .int .i64 0, .int .i64 1] w fun e w' => e = .returned (.int .i64 (firstR A 0)) ∧ ∃ V', RefM w' b (firstA A 0 1) V' ∧ w.grownBy w' (some b) ∧ Comes V V' w.heap.size := by
  have hck := h.c 0 (by decide)
  have hl1 := hl 0 (by decide)
  have hl2 := hl 1 (by decide)
  rcases hA : A 0 with _ | ⟨i, T⟩
  · have eA : firstA A 0 1 = A := by unfold firstA; rw [hA]
    have eR : firstR A 0 = -1 := by unfold firstR; rw [hA]
    rw [eA, eR]
    obtain ⟨a, c, hv⟩ := (h.own 0 (by decide)).form
    rw [hA] at hv
    rw [hv] at hck
    replace h := Lib.hid h
    clear hA eA eR hv hl1 hl2
    go_enter Tryz.func91, Tryz.ntmps91
    go_wp2
    go_ret
    exact ⟨rfl, V, h.out, grown_refl _ _, Comes.refl _ _⟩
  · have eA : firstA A 0 1 = upA (upA A 0 T) 1 (A 1 ++ [i]) := by unfold firstA; rw [hA]
    have eR : firstR A 0 = i := by unfold firstR; rw [hA]
    rw [eA, eR]
    clear eA eR
    have hzk := h.z 0
    have hb := h.lt.1
    have hT : T.length + 1 ≤ 8192 := by rw [hA] at hl1; simpa using hl1
    have how := h.own 0 (by decide)
    rcases how.cases with ⟨_, h0⟩ | ⟨g, cap, hv, hle, hm, hg, hown⟩
    · rw [hA] at h0; cases h0
    rw [hA] at hv hown hle
    simp only [List.length_cons] at hv hown hle
    rw [hv] at hck
    have hcc := row_cell hown (k := 0) (x := i) rfl
    obtain ⟨ad, had, HT⟩ : ∃ ad : Addr, (if cap = 1 then some (⟨g, 0, none⟩ : Addr) else some ⟨g, 1, none⟩) = some ad ∧ (∀ wX, Below w.heap.size w wX → Reads wX (.slice (some ad) T.length (cap - 1)) T) := by
      by_cases hc : cap = 1
      · refine ⟨⟨g, 0, none⟩, by simp [hc], fun wX hX => Reads.tail (hown.kept (row := none) ⟨hX.os, hX.tape, hX.output, hX.size, fun k hk _ => hX.block k hk⟩ (by simp [Value.ownBlock])) rfl hle (by simp [hc])⟩
      · refine ⟨⟨g, 1, none⟩, by simp [hc], fun wX hX => Reads.tail (hown.kept (row := none) ⟨hX.os, hX.tape, hX.output, hX.size, fun k hk _ => hX.block k hk⟩ (by simp [Value.ownBlock])) rfl hle (by simp [hc])⟩
    have T1 := Lib.hid HT
    have MK : Hid (∀ wX, Below w.heap.size w wX → wX.cell? ⟨b, 0, none⟩ = some (.slice (some ⟨g, 0, none⟩) (T.length + 1) cap) ∧ wX.frozen? ⟨b, 0, none⟩ = false ∧ Below w.heap.size w wX) := Lib.hid (fun wX hX => ⟨(hX.cell hb).trans hck, (hX.frozen hb).trans hzk, hX⟩)
    have hz0 : (((T.length + 1 : Nat) : Int) == 0) = false := by simp; omega
    have q1 : (1 : Int) ≤ (((T.length + 1 : Nat)) : Int) := by omega
    have q2 : (((T.length + 1 : Nat)) : Int) ≤ (cap : Int) := by omega
    have q3 : (0 : Int) < (((T.length + 1 : Nat)) : Int) := by omega
    have q4 : 1 ≤ T.length + 1 := by omega
    have q5 : 1 ≤ cap := by omega
    have q6 : T.length + 1 - 1 = T.length := by omega
    have q7 : (1 : Int) ≤ (T.length : Int) + 1 := by omega
    have q8 : (T.length : Int) + 1 ≤ (cap : Int) := by omega
    have q9 : (0 : Int) < (T.length : Int) + 1 := by omega
    have hz2 : ((T.length : Int) + 1 == 0) = false := by simp; omega
    replace h := Lib.hid h
    clear HT hown how hA hl1 hg hm
    go_enter Tryz.func91, Tryz.ntmps91
    go_wp2
    refine wp_region_last (d := 14) (fuel := 14) (S := (fun w' => w'.cell? ⟨b, 0, none⟩ = some (.slice (some ⟨g, 0, none⟩) (T.length + 1) cap) ∧ w'.frozen? ⟨b, 0, none⟩ = false ∧ Below w.heap.size w w')) (by kernel_rfl) (by kernel_rfl) rfl ?_ (fun hHeld => ?_)
    · (try dsimp only); (refine MK.out _ ?_; first | exact hB2 | exact hB1 | exact (Below.refl _ _).drew | exact ((Below.refl _ _).alloc (Nat.le_refl _) _).drew | exact (((Below.refl _ _).alloc (Nat.le_refl _) _).alloc (by simp) _).drew | exact hHeld.2.2.alloc hHeld.2.2.size _)
    try simp only [Act.put, List.setIfInBounds_toArray, List.set_cons_zero, List.set_cons_succ]
    refine wpAnyH_take (i := 0) (oi := { dst := some 24, op := Op.move (Operand.tmp 0), type := 75, pos := "ref.go:98", after := #[], guard := none }) (v := ?_) rfl (by kernel_rfl) (by kernel_rfl) (by kernel_rfl) (fun _ _ _ h => h) (Or.inl ⟨by rfl, ?_⟩) (by assumption) ?_
    rotate_left 1
    · intro w hSw; (try dsimp only at hSw); go_simp <;> with_reducible rfl
    try simp only [Act.put, List.setIfInBounds_toArray, List.set_cons_zero, List.set_cons_succ]
    refine wpAnyH_take (i := 1) (oi := { dst := some 25, op := Op.move (Operand.tmp 1), type := 3, pos := "ref.go:98", after := #[], guard := none }) (v := ?_) rfl (by kernel_rfl) (by kernel_rfl) (by kernel_rfl) (fun _ _ _ h => h) (Or.inl ⟨by rfl, ?_⟩) (by assumption) ?_
    rotate_left 1
    · intro w hSw; (try dsimp only at hSw); go_simp <;> with_reducible rfl
    try simp only [Act.put, List.setIfInBounds_toArray, List.set_cons_zero, List.set_cons_succ]
    refine wpAnyH_take (i := 3) (oi := { dst := some 27, op := Op.move (Operand.tmp 0), type := 75, pos := "ref.go:98", after := #[], guard := none }) (v := ?_) rfl (by kernel_rfl) (by kernel_rfl) (by kernel_rfl) (fun _ _ _ h => h) (Or.inl ⟨by rfl, ?_⟩) (by assumption) ?_
    rotate_left 1
    · intro w hSw; (try dsimp only at hSw); go_simp <;> with_reducible rfl
    try simp only [Act.put, List.setIfInBounds_toArray, List.set_cons_zero, List.set_cons_succ]
    refine wpAnyH_take (i := 4) (oi := { dst := some 28, op := Op.move (Operand.tmp 1), type := 3, pos := "ref.go:98", after := #[], guard := none }) (v := ?_) rfl (by kernel_rfl) (by kernel_rfl) (by kernel_rfl) (fun _ _ _ h => h) (Or.inl ⟨by rfl, ?_⟩) (by assumption) ?_
    rotate_left 1
    · intro w hSw; (try dsimp only at hSw); go_simp <;> with_reducible rfl
    try simp only [Act.put, List.setIfInBounds_toArray, List.set_cons_zero, List.set_cons_succ]
    refine wpAnyH_take (i := 5) (oi := { dst := some 29, op := Op.nilCheck (Operand.tmp 27), type := 0, pos := "ref.go:98", after := #[{ on := 3, ground := Ground.data }], guard := none }) (v := ?_) rfl (by kernel_rfl) (by kernel_rfl) (by kernel_rfl) (fun _ _ _ h => h) (Or.inl ⟨by rfl, ?_⟩) (by assumption) ?_
    rotate_left 1
    · intro w hSw; (try dsimp only at hSw); go_simp <;> with_reducible rfl
    try simp only [Act.put, List.setIfInBounds_toArray, List.set_cons_zero, List.set_cons_succ]
    refine wpAnyH_take (i := 6) (oi := { dst := some 30, op := Op.fieldAddr 88 (Operand.tmp 29) 0, type := 0, pos := "ref.go:98", after := #[{ on := 5, ground := Ground.data }], guard := none }) (v := ?_) rfl (by kernel_rfl) (by kernel_rfl) (by kernel_rfl) (fun _ _ _ h => h) (Or.inl ⟨by rfl, ?_⟩) (by assumption) ?_
    rotate_left 1
    · intro w hSw; (try dsimp only at hSw); go_simp <;> with_reducible rfl
    try simp only [Act.put, List.setIfInBounds_toArray, List.set_cons_zero, List.set_cons_succ]
    refine wpAnyH_take (i := 7) (oi := { dst := some 31, op := Op.indexAddr 86 (Operand.tmp 30) (Operand.tmp 28), type := 0, pos := "ref.go:98", after := #[{ on := 6, ground := Ground.data }, { on := 4, ground := Ground.data }], guard := none }) (v := ?_) rfl (by kernel_rfl) (by kernel_rfl) (by kernel_rfl) (fun _ _ _ h => h) (Or.inl ⟨by rfl, ?_⟩) (by assumption) ?_
    rotate_left 1
    · intro w hSw; (try dsimp only at hSw); go_simp <;> with_reducible rfl
    try simp only [Act.put, List.setIfInBounds_toArray, List.set_cons_zero, List.set_cons_succ]
    refine wpAnyH_take (i := 8) (oi := { dst := some 32, op := Op.load 56 (Operand.tmp 31), type := 56, pos := "ref.go:98", after := #[{ on := 7, ground := Ground.data }], guard := none }) (v := ?_) rfl (by kernel_rfl) (by kernel_rfl) (by kernel_rfl) (fun _ _ _ h => h) (Or.inl ⟨by rfl, ?_⟩) (by assumption) ?_
    rotate_left 1
    · intro w hSw; (try dsimp only at hSw); go_simp <;> with_reducible rfl
    try simp only [Act.put, List.setIfInBounds_toArray, List.set_cons_zero, List.set_cons_succ]
    refine wpAnyH_take (i := 9) (oi := { dst := some 33, op := Op.slice 56 (Operand.tmp 32) (some (Operand.const (Value.int IntKind.i64 1))) none none, type := 56, pos := "ref.go:98", after := #[{ on := 8, ground := Ground.data }], guard := none }) (v := ?_) rfl (by kernel_rfl) (by kernel_rfl) (by kernel_rfl) (fun _ _ _ h => h) (Or.inl ⟨by rfl, ?_⟩) (by assumption) ?_
    rotate_left 1
    · intro w hSw; (try dsimp only at hSw); go_simp <;> with_reducible rfl
    try simp only [Act.put, List.setIfInBounds_toArray, List.set_cons_zero, List.set_cons_succ]
    refine wpAnyH_take (i := 11) (oi := { dst := some 35, op := Op.nilCheck (Operand.tmp 24), type := 0, pos := "ref.go:98", after := #[{ on := 0, ground := Ground.data }], guard := none }) (v := ?_) rfl (by kernel_rfl) (by kernel_rfl) (by kernel_rfl) (fun _ _ _ h => h) (Or.inl ⟨by rfl, ?_⟩) (by assumption) ?_
    rotate_left 1
    · intro w hSw; (try dsimp only at hSw); go_simp <;> with_reducible rfl
    try simp only [Act.put, List.setIfInBounds_toArray, List.set_cons_zero, List.set_cons_succ]
    refine wpAnyH_take (i := 12) (oi := { dst := some 36, op := Op.fieldAddr 88 (Operand.tmp 35) 0, type := 0, pos := "ref.go:98", after := #[{ on := 11, ground := Ground.data }], guard := none }) (v := ?_) rfl (by kernel_rfl) (by kernel_rfl) (by kernel_rfl) (fun _ _ _ h => h) (Or.inl ⟨by rfl, ?_⟩) (by assumption) ?_
    rotate_left 1
    · intro w hSw; (try dsimp only at hSw); go_simp <;> with_reducible rfl
    try simp only [Act.put, List.setIfInBounds_toArray, List.set_cons_zero, List.set_cons_succ]
    refine wpAnyH_ready (rs := [2]) (by kernel_rfl) (by simp) ?_
    refine AllReadyH.cons (o := { dst := some 26, op := Op.buildSlice 56 0 #[], type := 56, pos := "ref.go:98", after := #[], guard := none }) rfl (fun K hK => ?_) ?_
    · go_simp
      refine hK.out _ _ ?_ ?_
      · (try dsimp only); (refine MK.out _ ?_; first | exact hB2 | exact hB1 | exact (Below.refl _ _).drew | exact ((Below.refl _ _).alloc (Nat.le_refl _) _).drew | exact (((Below.refl _ _).alloc (Nat.le_refl _) _).alloc (by simp) _).drew | exact hHeld.2.2.alloc hHeld.2.2.size _)
      clear hK K hHeld; intro hHeld
      try simp only [Act.put, List.setIfInBounds_toArray, List.set_cons_zero, List.set_cons_succ]
      refine wpAnyH_ready (rs := [10]) (by kernel_rfl) (by simp) ?_
      refine AllReadyH.cons (o := { dst := some 34, op := Op.call { callee := Callee.builtin Builtin.append, args := #[Operand.tmp 26, Operand.tmp 33], argTypes := #[56, 56] }, type := 56, pos := "ref.go:98", after := #[{ on := 2, ground := Ground.data }, { on := 9, ground := Ground.data }], guard := none }) rfl (fun K hK => ?_) ?_
      · refine step_app rfl (.tmp 26) (.tmp 33) rfl w.heap.size 0 (.slice (some ⟨w.heap.size, 0, none⟩) 0 0) _ [] T rfl rfl (by first | exact World.ownsRow_made w #[] 0 (Nat.le_refl _) (by decide) rfl | exact (World.ownsRow_made w #[] 0 (Nat.le_refl _) (by decide) rfl).alloc _ | exact made_after _ _ _) (T1.out _ hHeld.2.2) (by first | omega | (simp; omega)) hHeld.2.2.size ?_; intro v1 w1 hown1 hgrow1 hat1; have hB1 : Below w.heap.size w w1 := hHeld.2.2.grown hgrow1 hHeld.2.2.size (fun k hk => by simp [Value.ownBlock] at hk; omega); simp only [List.nil_append, Nat.zero_add] at hown1; obtain ⟨x1, n1, c1, rfl⟩ := slice_form hown1
        refine hK.out _ _ ?_ ?_
        · (try dsimp only); (refine MK.out _ ?_; first | exact hB2 | exact hB1 | exact (Below.refl _ _).drew | exact ((Below.refl _ _).alloc (Nat.le_refl _) _).drew | exact (((Below.refl _ _).alloc (Nat.le_refl _) _).alloc (by simp) _).drew | exact hHeld.2.2.alloc hHeld.2.2.size _)
        clear hK K hHeld; intro hHeld
        try simp only [Act.put, List.setIfInBounds_toArray, List.set_cons_zero, List.set_cons_succ]
        refine wpAnyH_take (i := 13) (oi := { dst := some 37, op := Op.indexAddr 86 (Operand.tmp 36) (Operand.tmp 25), type := 0, pos := "ref.go:98", after := #[{ on := 12, ground := Ground.data }, { on := 1, ground := Ground.data }, { on := 0, ground := Ground.phase }, { on := 1, ground := Ground.phase }, { on := 2, ground := Ground.phase }, { on := 3, ground := Ground.phase }, { on := 4, ground := Ground.phase }, { on := 5, ground := Ground.phase }, { on := 6, ground := Ground.phase }, { on := 7, ground := Ground.phase }, { on := 8, ground := Ground.phase }, { on := 9, ground := Ground.phase }, { on := 10, ground := Ground.phase }], guard := none }) (v := ?_) rfl (by kernel_rfl) (by kernel_rfl) (by kernel_rfl) (fun _ _ _ h => h) (Or.inl ⟨by rfl, ?_⟩) (by assumption) ?_
        rotate_left 1
        · intro w hSw; (try dsimp only at hSw); go_simp <;> with_reducible rfl
        try simp only [Act.put, List.setIfInBounds_toArray, List.set_cons_zero, List.set_cons_succ]
        refine last_step (o := { dst := none, op := Op.store 56 (Operand.tmp 37) (Operand.tmp 34), type := 0, pos := "ref.go:98", after := #[{ on := 13, ground := Ground.data }, { on := 10, ground := Ground.data }, { on := 10, ground := Ground.chain }, { on := 0, ground := Ground.phase }, { on := 1, ground := Ground.phase }, { on := 2, ground := Ground.phase }, { on := 3, ground := Ground.phase }, { on := 4, ground := Ground.phase }, { on := 5, ground := Ground.phase }, { on := 6, ground := Ground.phase }, { on := 7, ground := Ground.phase }, { on := 8, ground := Ground.phase }, { on := 9, ground := Ground.phase }, { on := 10, ground := Ground.phase }], guard := none }) rfl (by kernel_rfl) (fun K hK => ?_)
        go_simp
        refine hK.out _ _ ?_
        clear hK K
        try simp only [Act.put, List.setIfInBounds_toArray, List.set_cons_zero, List.set_cons_succ]
        have R1 := RefM.put (k := 0) (h.out.keep hHeld.2.2) (by decide) (own_base hown1) (fun e => by have := (hown1.lt b e).1; have := h.out.lt.1; omega)
        have G1 := grown_put (b := b) (k := 0) hHeld.2.2 (.slice x1 n1 c1)
        have C1 := (Comes.refl V w.heap.size).up 0 (v := .slice x1 n1 c1) (fun g hg => Or.inl (hown1.lt g hg).1)
        generalize hV1 : upV V 0 (.slice x1 n1 c1) = V1 at R1 C1
        have hVy : V1 1 = V 1 := by rw [← hV1]; rfl
        clear hV1
        generalize w1.setCell ⟨b, 0, none⟩ (.slice x1 n1 c1) = w3 at R1 G1 ⊢
        have hck := R1.c 1 (by decide)
        have hzk := R1.z 1
        rw [hVy] at hck
        have hb := R1.lt.1
        clear MK T1 hHeld hown1 hgrow1 hat1 hB1
        have MK : Hid (∀ wX, Below w3.heap.size w3 wX → wX.cell? ⟨b, 1, none⟩ = some (V 1) ∧ wX.frozen? ⟨b, 1, none⟩ = false ∧ Below w3.heap.size w3 wX) := Lib.hid (fun wX hX => ⟨(hX.cell hb).trans hck, (hX.frozen hb).trans hzk, hX⟩)
        have T1 : Hid (∀ wX, Below w3.heap.size w3 wX → Reads wX (V 1) (A 1)) := Lib.hid (fun wX hX => by have := SL.keep (R1.own 1 (by decide)) hX; rw [hVy] at this; exact this.reads)
        replace R1 := Lib.hid R1
        replace G1 := Lib.hid G1
        replace C1 := Lib.hid C1
        go_wp2
        refine wp_region_last (d := 16) (fuel := 16) (S := (fun w' => w'.cell? ⟨b, 1, none⟩ = some (V 1) ∧ w'.frozen? ⟨b, 1, none⟩ = false ∧ Below w3.heap.size w3 w')) (by kernel_rfl) (by kernel_rfl) rfl ?_ (fun hHeld => ?_)
        · (try dsimp only); (refine MK.out _ ?_; first | exact hB2 | exact hB1 | exact (Below.refl _ _).drew | exact ((Below.refl _ _).alloc (Nat.le_refl _) _).drew | exact (((Below.refl _ _).alloc (Nat.le_refl _) _).alloc (by simp) _).drew | exact hHeld.2.2.alloc hHeld.2.2.size _)
        try simp only [Act.put, List.setIfInBounds_toArray, List.set_cons_zero, List.set_cons_succ]
        refine wpAnyH_take (i := 0) (oi := { dst := some 38, op := Op.move (Operand.tmp 0), type := 75, pos := "ref.go:99", after := #[], guard := none }) (v := ?_) rfl (by kernel_rfl) (by kernel_rfl) (by kernel_rfl) (fun _ _ _ h => h) (Or.inl ⟨by rfl, ?_⟩) (by assumption) ?_
        rotate_left 1
        · intro w hSw; (try dsimp only at hSw); go_simp <;> with_reducible rfl
        try simp only [Act.put, List.setIfInBounds_toArray, List.set_cons_zero, List.set_cons_succ]
        refine wpAnyH_take (i := 1) (oi := { dst := some 39, op := Op.move (Operand.tmp 2), type := 3, pos := "ref.go:99", after := #[], guard := none }) (v := ?_) rfl (by kernel_rfl) (by kernel_rfl) (by kernel_rfl) (fun _ _ _ h => h) (Or.inl ⟨by rfl, ?_⟩) (by assumption) ?_
        rotate_left 1
        · intro w hSw; (try dsimp only at hSw); go_simp <;> with_reducible rfl
        try simp only [Act.put, List.setIfInBounds_toArray, List.set_cons_zero, List.set_cons_succ]
        refine wpAnyH_take (i := 3) (oi := { dst := some 41, op := Op.move (Operand.tmp 0), type := 75, pos := "ref.go:99", after := #[], guard := none }) (v := ?_) rfl (by kernel_rfl) (by kernel_rfl) (by kernel_rfl) (fun _ _ _ h => h) (Or.inl ⟨by rfl, ?_⟩) (by assumption) ?_
        rotate_left 1
        · intro w hSw; (try dsimp only at hSw); go_simp <;> with_reducible rfl
        try simp only [Act.put, List.setIfInBounds_toArray, List.set_cons_zero, List.set_cons_succ]
        refine wpAnyH_take (i := 4) (oi := { dst := some 42, op := Op.move (Operand.tmp 2), type := 3, pos := "ref.go:99", after := #[], guard := none }) (v := ?_) rfl (by kernel_rfl) (by kernel_rfl) (by kernel_rfl) (fun _ _ _ h => h) (Or.inl ⟨by rfl, ?_⟩) (by assumption) ?_
        rotate_left 1
        · intro w hSw; (try dsimp only at hSw); go_simp <;> with_reducible rfl
        try simp only [Act.put, List.setIfInBounds_toArray, List.set_cons_zero, List.set_cons_succ]
        refine wpAnyH_take (i := 5) (oi := { dst := some 43, op := Op.nilCheck (Operand.tmp 41), type := 0, pos := "ref.go:99", after := #[{ on := 3, ground := Ground.data }], guard := none }) (v := ?_) rfl (by kernel_rfl) (by kernel_rfl) (by kernel_rfl) (fun _ _ _ h => h) (Or.inl ⟨by rfl, ?_⟩) (by assumption) ?_
        rotate_left 1
        · intro w hSw; (try dsimp only at hSw); go_simp <;> with_reducible rfl
        try simp only [Act.put, List.setIfInBounds_toArray, List.set_cons_zero, List.set_cons_succ]
        refine wpAnyH_take (i := 6) (oi := { dst := some 44, op := Op.fieldAddr 88 (Operand.tmp 43) 0, type := 0, pos := "ref.go:99", after := #[{ on := 5, ground := Ground.data }], guard := none }) (v := ?_) rfl (by kernel_rfl) (by kernel_rfl) (by kernel_rfl) (fun _ _ _ h => h) (Or.inl ⟨by rfl, ?_⟩) (by assumption) ?_
        rotate_left 1
        · intro w hSw; (try dsimp only at hSw); go_simp <;> with_reducible rfl
        try simp only [Act.put, List.setIfInBounds_toArray, List.set_cons_zero, List.set_cons_succ]
        refine wpAnyH_take (i := 7) (oi := { dst := some 45, op := Op.indexAddr 86 (Operand.tmp 44) (Operand.tmp 42), type := 0, pos := "ref.go:99", after := #[{ on := 6, ground := Ground.data }, { on := 4, ground := Ground.data }], guard := none }) (v := ?_) rfl (by kernel_rfl) (by kernel_rfl) (by kernel_rfl) (fun _ _ _ h => h) (Or.inl ⟨by rfl, ?_⟩) (by assumption) ?_
        rotate_left 1
        · intro w hSw; (try dsimp only at hSw); go_simp <;> with_reducible rfl
        try simp only [Act.put, List.setIfInBounds_toArray, List.set_cons_zero, List.set_cons_succ]
        refine wpAnyH_take (i := 8) (oi := { dst := some 46, op := Op.load 56 (Operand.tmp 45), type := 56, pos := "ref.go:99", after := #[{ on := 7, ground := Ground.data }], guard := none }) (v := ?_) rfl (by kernel_rfl) (by kernel_rfl) (by kernel_rfl) (fun _ _ _ h => h) (Or.inl ⟨by rfl, ?_⟩) (by assumption) ?_
        rotate_left 1
        · intro w hSw; (try dsimp only at hSw); go_simp <;> with_reducible rfl
        try simp only [Act.put, List.setIfInBounds_toArray, List.set_cons_zero, List.set_cons_succ]
        refine wpAnyH_take (i := 10) (oi := { dst := some 48, op := Op.move (Operand.tmp 7), type := 3, pos := "ref.go:99", after := #[], guard := none }) (v := ?_) rfl (by kernel_rfl) (by kernel_rfl) (by kernel_rfl) (fun _ _ _ h => h) (Or.inl ⟨by rfl, ?_⟩) (by assumption) ?_
        rotate_left 1
        · intro w hSw; (try dsimp only at hSw); go_simp <;> with_reducible rfl
        try simp only [Act.put, List.setIfInBounds_toArray, List.set_cons_zero, List.set_cons_succ]
        refine wpAnyH_take (i := 13) (oi := { dst := some 51, op := Op.nilCheck (Operand.tmp 38), type := 0, pos := "ref.go:99", after := #[{ on := 0, ground := Ground.data }], guard := none }) (v := ?_) rfl (by kernel_rfl) (by kernel_rfl) (by kernel_rfl) (fun _ _ _ h => h) (Or.inl ⟨by rfl, ?_⟩) (by assumption) ?_
        rotate_left 1
        · intro w hSw; (try dsimp only at hSw); go_simp <;> with_reducible rfl
        try simp only [Act.put, List.setIfInBounds_toArray, List.set_cons_zero, List.set_cons_succ]
        refine wpAnyH_take (i := 14) (oi := { dst := some 52, op := Op.fieldAddr 88 (Operand.tmp 51) 0, type := 0, pos := "ref.go:99", after := #[{ on := 13, ground := Ground.data }], guard := none }) (v := ?_) rfl (by kernel_rfl) (by kernel_rfl) (by kernel_rfl) (fun _ _ _ h => h) (Or.inl ⟨by rfl, ?_⟩) (by assumption) ?_
        rotate_left 1
        · intro w hSw; (try dsimp only at hSw); go_simp <;> with_reducible rfl
        try simp only [Act.put, List.setIfInBounds_toArray, List.set_cons_zero, List.set_cons_succ]
        refine wpAnyH_ready (rs := [2, 11]) (by kernel_rfl) (by simp) ?_
        refine AllReadyH.cons (o := { dst := some 40, op := Op.buildSlice 56 0 #[], type := 56, pos := "ref.go:99", after := #[], guard := none }) rfl (fun K hK => ?_) ?_
        · go_simp
          refine hK.out _ _ ?_ ?_
          · (try dsimp only); (refine MK.out _ ?_; first | exact hB2 | exact hB1 | exact (Below.refl _ _).drew | exact ((Below.refl _ _).alloc (Nat.le_refl _) _).drew | exact (((Below.refl _ _).alloc (Nat.le_refl _) _).alloc (by simp) _).drew | exact hHeld.2.2.alloc hHeld.2.2.size _)
          clear hK K hHeld; intro hHeld
          try simp only [Act.put, List.setIfInBounds_toArray, List.set_cons_zero, List.set_cons_succ]
          refine wpAnyH_ready (rs := [9, 11]) (by kernel_rfl) (by simp) ?_
          refine AllReadyH.cons (o := { dst := some 47, op := Op.call { callee := Callee.builtin Builtin.append, args := #[Operand.tmp 40, Operand.tmp 46], argTypes := #[56, 56] }, type := 56, pos := "ref.go:99", after := #[{ on := 2, ground := Ground.data }, { on := 8, ground := Ground.data }], guard := none }) rfl (fun K hK => ?_) ?_
          · refine step_app rfl (.tmp 40) (.tmp 46) rfl w3.heap.size 0 (.slice (some ⟨w3.heap.size, 0, none⟩) 0 0) _ [] (A 1) rfl rfl (by first | exact World.ownsRow_made w3 #[] 0 (Nat.le_refl _) (by decide) rfl | exact (World.ownsRow_made w3 #[] 0 (Nat.le_refl _) (by decide) rfl).alloc _ | exact made_after _ _ _) (T1.out _ hHeld.2.2) (by first | omega | (simp; omega)) hHeld.2.2.size ?_; intro v1 w1 hown1 hgrow1 hat1; have hB1 : Below w3.heap.size w3 w1 := hHeld.2.2.grown hgrow1 hHeld.2.2.size (fun k hk => by simp [Value.ownBlock] at hk; omega); simp only [List.nil_append, Nat.zero_add] at hown1; obtain ⟨x1, n1, c1, rfl⟩ := slice_form hown1
            refine hK.out _ _ ?_ ?_
            · (try dsimp only); (refine MK.out _ ?_; first | exact hB2 | exact hB1 | exact (Below.refl _ _).drew | exact ((Below.refl _ _).alloc (Nat.le_refl _) _).drew | exact (((Below.refl _ _).alloc (Nat.le_refl _) _).alloc (by simp) _).drew | exact hHeld.2.2.alloc hHeld.2.2.size _)
            clear hK K hHeld; intro hHeld
            try simp only [Act.put, List.setIfInBounds_toArray, List.set_cons_zero, List.set_cons_succ]
            refine wpAnyH_ready (rs := [11]) (by kernel_rfl) (by simp) ?_
            refine AllReadyH.cons (o := { dst := some 49, op := Op.buildSlice 56 1 #[(0, Operand.tmp 48)], type := 56, pos := "ref.go:99", after := #[{ on := 10, ground := Ground.data }], guard := none }) rfl (fun K hK => ?_) ?_
            · go_simp
              refine hK.out _ _ ?_ ?_
              · (try dsimp only); (refine MK.out _ ?_; first | exact hB2 | exact hB1 | exact (Below.refl _ _).drew | exact ((Below.refl _ _).alloc (Nat.le_refl _) _).drew | exact (((Below.refl _ _).alloc (Nat.le_refl _) _).alloc (by simp) _).drew | exact hHeld.2.2.alloc hHeld.2.2.size _)
              clear hK K hHeld; intro hHeld
              try simp only [Act.put, List.setIfInBounds_toArray, List.set_cons_zero, List.set_cons_succ]
              refine wpAnyH_ready (rs := [12]) (by kernel_rfl) (by simp) ?_
              refine AllReadyH.cons (o := { dst := some 50, op := Op.call { callee := Callee.builtin Builtin.append, args := #[Operand.tmp 47, Operand.tmp 49], argTypes := #[56, 56] }, type := 56, pos := "ref.go:99", after := #[{ on := 9, ground := Ground.data }, { on := 11, ground := Ground.data }, { on := 9, ground := Ground.chain }], guard := none }) rfl (fun K hK => ?_) ?_
              · refine step_app rfl (.tmp 47) (.tmp 49) rfl w3.heap.size _ _ _ _ [i] rfl rfl (by first | exact hown1 | exact hown1.alloc _) (Reads.one (by first | exact (World.cell?_alloc_new _ _ _ 0).trans rfl | exact hgrow1.cell (by first | (simp; done) | exact (World.cell?_alloc_lt _ _ _ (by simp)).trans ((World.cell?_alloc_new _ _ _ 0).trans rfl)) (by simp [Value.ownBlock]))) (by first | omega | (simp; omega)) hHeld.2.2.size ?_; intro v2 w2 hown2 hgrow2 hat2; have hB2 : Below w3.heap.size w3 w2 := hHeld.2.2.grown hgrow2 hHeld.2.2.size (fun k hk => (hown1.lt k hk).1); rw [← List.length_append] at hown2; obtain ⟨x2, n2, c2, rfl⟩ := slice_form hown2
                refine hK.out _ _ ?_ ?_
                · (try dsimp only); (refine MK.out _ ?_; first | exact hB2 | exact hB1 | exact (Below.refl _ _).drew | exact ((Below.refl _ _).alloc (Nat.le_refl _) _).drew | exact (((Below.refl _ _).alloc (Nat.le_refl _) _).alloc (by simp) _).drew | exact hHeld.2.2.alloc hHeld.2.2.size _)
                clear hK K hHeld; intro hHeld
                try simp only [Act.put, List.setIfInBounds_toArray, List.set_cons_zero, List.set_cons_succ]
                refine wpAnyH_take (i := 15) (oi := { dst := some 53, op := Op.indexAddr 86 (Operand.tmp 52) (Operand.tmp 39), type := 0, pos := "ref.go:99", after := #[{ on := 14, ground := Ground.data }, { on := 1, ground := Ground.data }, { on := 0, ground := Ground.phase }, { on := 1, ground := Ground.phase }, { on := 2, ground := Ground.phase }, { on := 3, ground := Ground.phase }, { on := 4, ground := Ground.phase }, { on := 5, ground := Ground.phase }, { on := 6, ground := Ground.phase }, { on := 7, ground := Ground.phase }, { on := 8, ground := Ground.phase }, { on := 9, ground := Ground.phase }, { on := 10, ground := Ground.phase }, { on := 11, ground := Ground.phase }, { on := 12, ground := Ground.phase }], guard := none }) (v := ?_) rfl (by kernel_rfl) (by kernel_rfl) (by kernel_rfl) (fun _ _ _ h => h) (Or.inl ⟨by rfl, ?_⟩) (by assumption) ?_
                rotate_left 1
                · intro w hSw; (try dsimp only at hSw); go_simp <;> with_reducible rfl
                try simp only [Act.put, List.setIfInBounds_toArray, List.set_cons_zero, List.set_cons_succ]
                refine last_step (o := { dst := none, op := Op.store 56 (Operand.tmp 53) (Operand.tmp 50), type := 0, pos := "ref.go:99", after := #[{ on := 15, ground := Ground.data }, { on := 12, ground := Ground.data }, { on := 12, ground := Ground.chain }, { on := 0, ground := Ground.phase }, { on := 1, ground := Ground.phase }, { on := 2, ground := Ground.phase }, { on := 3, ground := Ground.phase }, { on := 4, ground := Ground.phase }, { on := 5, ground := Ground.phase }, { on := 6, ground := Ground.phase }, { on := 7, ground := Ground.phase }, { on := 8, ground := Ground.phase }, { on := 9, ground := Ground.phase }, { on := 10, ground := Ground.phase }, { on := 11, ground := Ground.phase }, { on := 12, ground := Ground.phase }], guard := none }) rfl (by kernel_rfl) (fun K hK => ?_)
                go_simp
                refine hK.out _ _ ?_
                clear hK K
                try simp only [Act.put, List.setIfInBounds_toArray, List.set_cons_zero, List.set_cons_succ]
                have R2 := Lib.hid (RefM.put (k := 1) (R1.out.keep hHeld.2.2) (by decide) (own_base hown2) (fun e => by have := (hown2.lt b e).1; have := R1.out.lt.1; omega))
                have G2 := Lib.hid (grown_put2 (k := 1) G1.out hHeld.2.2 (.slice x2 n2 c2))
                have C2 := Lib.hid (C1.out.up 1 (v := .slice x2 n2 c2) (fun g hg => Or.inl (Nat.le_trans G1.out.size (hown2.lt g hg).1)))
                go_wp2
                go_ret
                exact ⟨rfl, _, R2.out, G2.out, C2.out⟩
              exact AllReadyH.nil
            exact AllReadyH.nil
          refine AllReadyH.cons (o := { dst := some 49, op := Op.buildSlice 56 1 #[(0, Operand.tmp 48)], type := 56, pos := "ref.go:99", after := #[{ on := 10, ground := Ground.data }], guard := none }) rfl (fun K hK => ?_) ?_
          · go_simp
            refine hK.out _ _ ?_ ?_
            · (try dsimp only); (refine MK.out _ ?_; first | exact hB2 | exact hB1 | exact (Below.refl _ _).drew | exact ((Below.refl _ _).alloc (Nat.le_refl _) _).drew | exact (((Below.refl _ _).alloc (Nat.le_refl _) _).alloc (by simp) _).drew | exact hHeld.2.2.alloc hHeld.2.2.size _)
            clear hK K hHeld; intro hHeld
            try simp only [Act.put, List.setIfInBounds_toArray, List.set_cons_zero, List.set_cons_succ]
            refine wpAnyH_ready (rs := [9]) (by kernel_rfl) (by simp) ?_
            refine AllReadyH.cons (o := { dst := some 47, op := Op.call { callee := Callee.builtin Builtin.append, args := #[Operand.tmp 40, Operand.tmp 46], argTypes := #[56, 56] }, type := 56, pos := "ref.go:99", after := #[{ on := 2, ground := Ground.data }, { on := 8, ground := Ground.data }], guard := none }) rfl (fun K hK => ?_) ?_
            · refine step_app rfl (.tmp 40) (.tmp 46) rfl w3.heap.size 0 (.slice (some ⟨w3.heap.size, 0, none⟩) 0 0) _ [] (A 1) rfl rfl (by first | exact World.ownsRow_made w3 #[] 0 (Nat.le_refl _) (by decide) rfl | exact (World.ownsRow_made w3 #[] 0 (Nat.le_refl _) (by decide) rfl).alloc _ | exact made_after _ _ _) (T1.out _ hHeld.2.2) (by first | omega | (simp; omega)) hHeld.2.2.size ?_; intro v1 w1 hown1 hgrow1 hat1; have hB1 : Below w3.heap.size w3 w1 := hHeld.2.2.grown hgrow1 hHeld.2.2.size (fun k hk => by simp [Value.ownBlock] at hk; omega); simp only [List.nil_append, Nat.zero_add] at hown1; obtain ⟨x1, n1, c1, rfl⟩ := slice_form hown1
              refine hK.out _ _ ?_ ?_
              · (try dsimp only); (refine MK.out _ ?_; first | exact hB2 | exact hB1 | exact (Below.refl _ _).drew | exact ((Below.refl _ _).alloc (Nat.le_refl _) _).drew | exact (((Below.refl _ _).alloc (Nat.le_refl _) _).alloc (by simp) _).drew | exact hHeld.2.2.alloc hHeld.2.2.size _)
              clear hK K hHeld; intro hHeld
              try simp only [Act.put, List.setIfInBounds_toArray, List.set_cons_zero, List.set_cons_succ]
              refine wpAnyH_ready (rs := [12]) (by kernel_rfl) (by simp) ?_
              refine AllReadyH.cons (o := { dst := some 50, op := Op.call { callee := Callee.builtin Builtin.append, args := #[Operand.tmp 47, Operand.tmp 49], argTypes := #[56, 56] }, type := 56, pos := "ref.go:99", after := #[{ on := 9, ground := Ground.data }, { on := 11, ground := Ground.data }, { on := 9, ground := Ground.chain }], guard := none }) rfl (fun K hK => ?_) ?_
              · refine step_app rfl (.tmp 47) (.tmp 49) rfl w3.heap.size _ _ _ _ [i] rfl rfl (by first | exact hown1 | exact hown1.alloc _) (Reads.one (by first | exact (World.cell?_alloc_new _ _ _ 0).trans rfl | exact hgrow1.cell (by first | (simp; done) | exact (World.cell?_alloc_lt _ _ _ (by simp)).trans ((World.cell?_alloc_new _ _ _ 0).trans rfl)) (by simp [Value.ownBlock]))) (by first | omega | (simp; omega)) hHeld.2.2.size ?_; intro v2 w2 hown2 hgrow2 hat2; have hB2 : Below w3.heap.size w3 w2 := hHeld.2.2.grown hgrow2 hHeld.2.2.size (fun k hk => (hown1.lt k hk).1); rw [← List.length_append] at hown2; obtain ⟨x2, n2, c2, rfl⟩ := slice_form hown2
                refine hK.out _ _ ?_ ?_
                · (try dsimp only); (refine MK.out _ ?_; first | exact hB2 | exact hB1 | exact (Below.refl _ _).drew | exact ((Below.refl _ _).alloc (Nat.le_refl _) _).drew | exact (((Below.refl _ _).alloc (Nat.le_refl _) _).alloc (by simp) _).drew | exact hHeld.2.2.alloc hHeld.2.2.size _)
                clear hK K hHeld; intro hHeld
                try simp only [Act.put, List.setIfInBounds_toArray, List.set_cons_zero, List.set_cons_succ]
                refine wpAnyH_take (i := 15) (oi := { dst := some 53, op := Op.indexAddr 86 (Operand.tmp 52) (Operand.tmp 39), type := 0, pos := "ref.go:99", after := #[{ on := 14, ground := Ground.data }, { on := 1, ground := Ground.data }, { on := 0, ground := Ground.phase }, { on := 1, ground := Ground.phase }, { on := 2, ground := Ground.phase }, { on := 3, ground := Ground.phase }, { on := 4, ground := Ground.phase }, { on := 5, ground := Ground.phase }, { on := 6, ground := Ground.phase }, { on := 7, ground := Ground.phase }, { on := 8, ground := Ground.phase }, { on := 9, ground := Ground.phase }, { on := 10, ground := Ground.phase }, { on := 11, ground := Ground.phase }, { on := 12, ground := Ground.phase }], guard := none }) (v := ?_) rfl (by kernel_rfl) (by kernel_rfl) (by kernel_rfl) (fun _ _ _ h => h) (Or.inl ⟨by rfl, ?_⟩) (by assumption) ?_
                rotate_left 1
                · intro w hSw; (try dsimp only at hSw); go_simp <;> with_reducible rfl
                try simp only [Act.put, List.setIfInBounds_toArray, List.set_cons_zero, List.set_cons_succ]
                refine last_step (o := { dst := none, op := Op.store 56 (Operand.tmp 53) (Operand.tmp 50), type := 0, pos := "ref.go:99", after := #[{ on := 15, ground := Ground.data }, { on := 12, ground := Ground.data }, { on := 12, ground := Ground.chain }, { on := 0, ground := Ground.phase }, { on := 1, ground := Ground.phase }, { on := 2, ground := Ground.phase }, { on := 3, ground := Ground.phase }, { on := 4, ground := Ground.phase }, { on := 5, ground := Ground.phase }, { on := 6, ground := Ground.phase }, { on := 7, ground := Ground.phase }, { on := 8, ground := Ground.phase }, { on := 9, ground := Ground.phase }, { on := 10, ground := Ground.phase }, { on := 11, ground := Ground.phase }, { on := 12, ground := Ground.phase }], guard := none }) rfl (by kernel_rfl) (fun K hK => ?_)
                go_simp
                refine hK.out _ _ ?_
                clear hK K
                try simp only [Act.put, List.setIfInBounds_toArray, List.set_cons_zero, List.set_cons_succ]
                have R2 := Lib.hid (RefM.put (k := 1) (R1.out.keep hHeld.2.2) (by decide) (own_base hown2) (fun e => by have := (hown2.lt b e).1; have := R1.out.lt.1; omega))
                have G2 := Lib.hid (grown_put2 (k := 1) G1.out hHeld.2.2 (.slice x2 n2 c2))
                have C2 := Lib.hid (C1.out.up 1 (v := .slice x2 n2 c2) (fun g hg => Or.inl (Nat.le_trans G1.out.size (hown2.lt g hg).1)))
                go_wp2
                go_ret
                exact ⟨rfl, _, R2.out, G2.out, C2.out⟩
              exact AllReadyH.nil
            exact AllReadyH.nil
          exact AllReadyH.nil
        refine AllReadyH.cons (o := { dst := some 49, op := Op.buildSlice 56 1 #[(0, Operand.tmp 48)], type := 56, pos := "ref.go:99", after := #[{ on := 10, ground := Ground.data }], guard := none }) rfl (fun K hK => ?_) ?_
        · go_simp
          refine hK.out _ _ ?_ ?_
          · (try dsimp only); (refine MK.out _ ?_; first | exact hB2 | exact hB1 | exact (Below.refl _ _).drew | exact ((Below.refl _ _).alloc (Nat.le_refl _) _).drew | exact (((Below.refl _ _).alloc (Nat.le_refl _) _).alloc (by simp) _).drew | exact hHeld.2.2.alloc hHeld.2.2.size _)
          clear hK K hHeld; intro hHeld
          try simp only [Act.put, List.setIfInBounds_toArray, List.set_cons_zero, List.set_cons_succ]
          refine wpAnyH_ready (rs := [2]) (by kernel_rfl) (by simp) ?_
          refine AllReadyH.cons (o := { dst := some 40, op := Op.buildSlice 56 0 #[], type := 56, pos := "ref.go:99", after := #[], guard := none }) rfl (fun K hK => ?_) ?_
          · go_simp
            refine hK.out _ _ ?_ ?_
            · (try dsimp only); (refine MK.out _ ?_; first | exact hB2 | exact hB1 | exact (Below.refl _ _).drew | exact ((Below.refl _ _).alloc (Nat.le_refl _) _).drew | exact (((Below.refl _ _).alloc (Nat.le_refl _) _).alloc (by simp) _).drew | exact hHeld.2.2.alloc hHeld.2.2.size _)
            clear hK K hHeld; intro hHeld
            try simp only [Act.put, List.setIfInBounds_toArray, List.set_cons_zero, List.set_cons_succ]
            refine wpAnyH_ready (rs := [9]) (by kernel_rfl) (by simp) ?_
            refine AllReadyH.cons (o := { dst := some 47, op := Op.call { callee := Callee.builtin Builtin.append, args := #[Operand.tmp 40, Operand.tmp 46], argTypes := #[56, 56] }, type := 56, pos := "ref.go:99", after := #[{ on := 2, ground := Ground.data }, { on := 8, ground := Ground.data }], guard := none }) rfl (fun K hK => ?_) ?_
            · refine step_app rfl (.tmp 40) (.tmp 46) rfl w3.heap.size 0 (.slice (some ⟨w3.heap.size + 1, 0, none⟩) 0 0) _ [] (A 1) rfl rfl (by first | exact World.ownsRow_made w3 #[] 0 (Nat.le_refl _) (by decide) rfl | exact (World.ownsRow_made w3 #[] 0 (Nat.le_refl _) (by decide) rfl).alloc _ | exact made_after _ _ _) (T1.out _ hHeld.2.2) (by first | omega | (simp; omega)) hHeld.2.2.size ?_; intro v1 w1 hown1 hgrow1 hat1; have hB1 : Below w3.heap.size w3 w1 := hHeld.2.2.grown hgrow1 hHeld.2.2.size (fun k hk => by simp [Value.ownBlock] at hk; omega); simp only [List.nil_append, Nat.zero_add] at hown1; obtain ⟨x1, n1, c1, rfl⟩ := slice_form hown1
              refine hK.out _ _ ?_ ?_
              · (try dsimp only); (refine MK.out _ ?_; first | exact hB2 | exact hB1 | exact (Below.refl _ _).drew | exact ((Below.refl _ _).alloc (Nat.le_refl _) _).drew | exact (((Below.refl _ _).alloc (Nat.le_refl _) _).alloc (by simp) _).drew | exact hHeld.2.2.alloc hHeld.2.2.size _)
              clear hK K hHeld; intro hHeld
              try simp only [Act.put, List.setIfInBounds_toArray, List.set_cons_zero, List.set_cons_succ]
              refine wpAnyH_ready (rs := [12]) (by kernel_rfl) (by simp) ?_
              refine AllReadyH.cons (o := { dst := some 50, op := Op.call { callee := Callee.builtin Builtin.append, args := #[Operand.tmp 47, Operand.tmp 49], argTypes := #[56, 56] }, type := 56, pos := "ref.go:99", after := #[{ on := 9, ground := Ground.data }, { on := 11, ground := Ground.data }, { on := 9, ground := Ground.chain }], guard := none }) rfl (fun K hK => ?_) ?_
              · refine step_app rfl (.tmp 47) (.tmp 49) rfl w3.heap.size _ _ _ _ [i] rfl rfl (by first | exact hown1 | exact hown1.alloc _) (Reads.one (by first | exact (World.cell?_alloc_new _ _ _ 0).trans rfl | exact hgrow1.cell (by first | (simp; done) | exact (World.cell?_alloc_lt _ _ _ (by simp)).trans ((World.cell?_alloc_new _ _ _ 0).trans rfl)) (by simp [Value.ownBlock]))) (by first | omega | (simp; omega)) hHeld.2.2.size ?_; intro v2 w2 hown2 hgrow2 hat2; have hB2 : Below w3.heap.size w3 w2 := hHeld.2.2.grown hgrow2 hHeld.2.2.size (fun k hk => (hown1.lt k hk).1); rw [← List.length_append] at hown2; obtain ⟨x2, n2, c2, rfl⟩ := slice_form hown2
                refine hK.out _ _ ?_ ?_
                · (try dsimp only); (refine MK.out _ ?_; first | exact hB2 | exact hB1 | exact (Below.refl _ _).drew | exact ((Below.refl _ _).alloc (Nat.le_refl _) _).drew | exact (((Below.refl _ _).alloc (Nat.le_refl _) _).alloc (by simp) _).drew | exact hHeld.2.2.alloc hHeld.2.2.size _)
                clear hK K hHeld; intro hHeld
                try simp only [Act.put, List.setIfInBounds_toArray, List.set_cons_zero, List.set_cons_succ]
                refine wpAnyH_take (i := 15) (oi := { dst := some 53, op := Op.indexAddr 86 (Operand.tmp 52) (Operand.tmp 39), type := 0, pos := "ref.go:99", after := #[{ on := 14, ground := Ground.data }, { on := 1, ground := Ground.data }, { on := 0, ground := Ground.phase }, { on := 1, ground := Ground.phase }, { on := 2, ground := Ground.phase }, { on := 3, ground := Ground.phase }, { on := 4, ground := Ground.phase }, { on := 5, ground := Ground.phase }, { on := 6, ground := Ground.phase }, { on := 7, ground := Ground.phase }, { on := 8, ground := Ground.phase }, { on := 9, ground := Ground.phase }, { on := 10, ground := Ground.phase }, { on := 11, ground := Ground.phase }, { on := 12, ground := Ground.phase }], guard := none }) (v := ?_) rfl (by kernel_rfl) (by kernel_rfl) (by kernel_rfl) (fun _ _ _ h => h) (Or.inl ⟨by rfl, ?_⟩) (by assumption) ?_
                rotate_left 1
                · intro w hSw; (try dsimp only at hSw); go_simp <;> with_reducible rfl
                try simp only [Act.put, List.setIfInBounds_toArray, List.set_cons_zero, List.set_cons_succ]
                refine last_step (o := { dst := none, op := Op.store 56 (Operand.tmp 53) (Operand.tmp 50), type := 0, pos := "ref.go:99", after := #[{ on := 15, ground := Ground.data }, { on := 12, ground := Ground.data }, { on := 12, ground := Ground.chain }, { on := 0, ground := Ground.phase }, { on := 1, ground := Ground.phase }, { on := 2, ground := Ground.phase }, { on := 3, ground := Ground.phase }, { on := 4, ground := Ground.phase }, { on := 5, ground := Ground.phase }, { on := 6, ground := Ground.phase }, { on := 7, ground := Ground.phase }, { on := 8, ground := Ground.phase }, { on := 9, ground := Ground.phase }, { on := 10, ground := Ground.phase }, { on := 11, ground := Ground.phase }, { on := 12, ground := Ground.phase }], guard := none }) rfl (by kernel_rfl) (fun K hK => ?_)
                go_simp
                refine hK.out _ _ ?_
                clear hK K
                try simp only [Act.put, List.setIfInBounds_toArray, List.set_cons_zero, List.set_cons_succ]
                have R2 := Lib.hid (RefM.put (k := 1) (R1.out.keep hHeld.2.2) (by decide) (own_base hown2) (fun e => by have := (hown2.lt b e).1; have := R1.out.lt.1; omega))
                have G2 := Lib.hid (grown_put2 (k := 1) G1.out hHeld.2.2 (.slice x2 n2 c2))
                have C2 := Lib.hid (C1.out.up 1 (v := .slice x2 n2 c2) (fun g hg => Or.inl (Nat.le_trans G1.out.size (hown2.lt g hg).1)))
                go_wp2
                go_ret
                exact ⟨rfl, _, R2.out, G2.out, C2.out⟩
              exact AllReadyH.nil
            exact AllReadyH.nil
          exact AllReadyH.nil
        exact AllReadyH.nil
      exact AllReadyH.nil
    exact AllReadyH.nil
set_option maxHeartbeats 16000000 in
theorem first2_c (b : Nat) (A : Mst) (V : Nat → Value) (w : World) (h : RefM w b A V) (hl : ∀ k, k < 4 → (A k).length ≤ 8192) :
    Calls Tryz.prog 91 #[.pointer (some ⟨b, 0, none⟩), .int .i64 2, .int .i64 1] w fun e w' => e = .returned (.int .i64 (firstR A 2)) ∧ ∃ V', RefM w' b (firstA A 2 1) V' ∧ w.grownBy w' (some b) ∧ Comes V V' w.heap.size := by
  have hck := h.c 2 (by decide)
  have hl1 := hl 2 (by decide)
  have hl2 := hl 1 (by decide)
  rcases hA : A 2 with _ | ⟨i, T⟩
  · have eA : firstA A 2 1 = A := by unfold firstA; rw [hA]
    have eR : firstR A 2 = -1 := by unfold firstR; rw [hA]
    rw [eA, eR]
    obtain ⟨a, c, hv⟩ := (h.own 2 (by decide)).form
    rw [hA] at hv
    rw [hv] at hck
    replace h := Lib.hid h
    clear hA eA eR hv hl1 hl2
    go_enter Tryz.func91, Tryz.ntmps91
    go_wp2
    go_ret
    exact ⟨rfl, V, h.out, grown_refl _ _, Comes.refl _ _⟩
  · have eA : firstA A 2 1 = upA (upA A 2 T) 1 (A 1 ++ [i]) := by unfold firstA; rw [hA]
    have eR : firstR A 2 = i := by unfold firstR; rw [hA]
    rw [eA, eR]
    clear eA eR
    have hzk := h.z 2
    have hb := h.lt.1
    have hT : T.length + 1 ≤ 8192 := by rw [hA] at hl1; simpa using hl1
    have how := h.own 2 (by decide)
    rcases how.cases with ⟨_, h0⟩ | ⟨g, cap, hv, hle, hm, hg, hown⟩
    · rw [hA] at h0; cases h0
    rw [hA] at hv hown hle
    simp only [List.length_cons] at hv hown hle
    rw [hv] at hck
    have hcc := row_cell hown (k := 0) (x := i) rfl
    obtain ⟨ad, had, HT⟩ : ∃ ad : Addr, (if cap = 1 then some (⟨g, 0, none⟩ : Addr) else some ⟨g, 1, none⟩) = some ad ∧ (∀ wX, Below w.heap.size w wX → Reads wX (.slice (some ad) T.length (cap - 1)) T) := by
      by_cases hc : cap = 1
      · refine ⟨⟨g, 0, none⟩, by simp [hc], fun wX hX => Reads.tail (hown.kept (row := none) ⟨hX.os, hX.tape, hX.output, hX.size, fun k hk _ => hX.block k hk⟩ (by simp [Value.ownBlock])) rfl hle (by simp [hc])⟩
      · refine ⟨⟨g, 1, none⟩, by simp [hc], fun wX hX => Reads.tail (hown.kept (row := none) ⟨hX.os, hX.tape, hX.output, hX.size, fun k hk _ => hX.block k hk⟩ (by simp [Value.ownBlock])) rfl hle (by simp [hc])⟩
    have T1 := Lib.hid HT
    have MK : Hid (∀ wX, Below w.heap.size w wX → wX.cell? ⟨b, 2, none⟩ = some (.slice (some ⟨g, 0, none⟩) (T.length + 1) cap) ∧ wX.frozen? ⟨b, 2, none⟩ = false ∧ Below w.heap.size w wX) := Lib.hid (fun wX hX => ⟨(hX.cell hb).trans hck, (hX.frozen hb).trans hzk, hX⟩)
    have hz0 : (((T.length + 1 : Nat) : Int) == 0) = false := by simp; omega
    have q1 : (1 : Int) ≤ (((T.length + 1 : Nat)) : Int) := by omega
    have q2 : (((T.length + 1 : Nat)) : Int) ≤ (cap : Int) := by omega
    have q3 : (0 : Int) < (((T.length + 1 : Nat)) : Int) := by omega
    have q4 : 1 ≤ T.length + 1 := by omega
    have q5 : 1 ≤ cap := by omega
    have q6 : T.length + 1 - 1 = T.length := by omega
    have q7 : (1 : Int) ≤ (T.length : Int) + 1 := by omega
    have q8 : (T.length : Int) + 1 ≤ (cap : Int) := by omega
    have q9 : (0 : Int) < (T.length : Int) + 1 := by omega
    have hz2 : ((T.length : Int) + 1 == 0) = false := by simp; omega
    replace h := Lib.hid h
    clear HT hown how hA hl1 hg hm
    go_enter Tryz.func91, Tryz.ntmps91
    go_wp2
    refine wp_region_last (d := 14) (fuel := 14) (S := (fun w' => w'.cell? ⟨b, 2, none⟩ = some (.slice (some ⟨g, 0, none⟩) (T.length + 1) cap) ∧ w'.frozen? ⟨b, 2, none⟩ = false ∧ Below w.heap.size w w')) (by kernel_rfl) (by kernel_rfl) rfl ?_ (fun hHeld => ?_)
    · (try dsimp only); (refine MK.out _ ?_; first | exact hB2 | exact hB1 | exact (Below.refl _ _).drew | exact ((Below.refl _ _).alloc (Nat.le_refl _) _).drew | exact (((Below.refl _ _).alloc (Nat.le_refl _) _).alloc (by simp) _).drew | exact hHeld.2.2.alloc hHeld.2.2.size _)
    try simp only [Act.put, List.setIfInBounds_toArray, List.set_cons_zero, List.set_cons_succ]
    refine wpAnyH_take (i := 0) (oi := { dst := some 24, op := Op.move (Operand.tmp 0), type := 75, pos := "ref.go:98", after := #[], guard := none }) (v := ?_) rfl (by kernel_rfl) (by kernel_rfl) (by kernel_rfl) (fun _ _ _ h => h) (Or.inl ⟨by rfl, ?_⟩) (by assumption) ?_
    rotate_left 1
    · intro w hSw; (try dsimp only at hSw); go_simp <;> with_reducible rfl
    try simp only [Act.put, List.setIfInBounds_toArray, List.set_cons_zero, List.set_cons_succ]
    refine wpAnyH_take (i := 1) (oi := { dst := some 25, op := Op.move (Operand.tmp 1), type := 3, pos := "ref.go:98", after := #[], guard := none }) (v := ?_) rfl (by kernel_rfl) (by kernel_rfl) (by kernel_rfl) (fun _ _ _ h => h) (Or.inl ⟨by rfl, ?_⟩) (by assumption) ?_
    rotate_left 1
    · intro w hSw; (try dsimp only at hSw); go_simp <;> with_reducible rfl
    try simp only [Act.put, List.setIfInBounds_toArray, List.set_cons_zero, List.set_cons_succ]
    refine wpAnyH_take (i := 3) (oi := { dst := some 27, op := Op.move (Operand.tmp 0), type := 75, pos := "ref.go:98", after := #[], guard := none }) (v := ?_) rfl (by kernel_rfl) (by kernel_rfl) (by kernel_rfl) (fun _ _ _ h => h) (Or.inl ⟨by rfl, ?_⟩) (by assumption) ?_
    rotate_left 1
    · intro w hSw; (try dsimp only at hSw); go_simp <;> with_reducible rfl
    try simp only [Act.put, List.setIfInBounds_toArray, List.set_cons_zero, List.set_cons_succ]
    refine wpAnyH_take (i := 4) (oi := { dst := some 28, op := Op.move (Operand.tmp 1), type := 3, pos := "ref.go:98", after := #[], guard := none }) (v := ?_) rfl (by kernel_rfl) (by kernel_rfl) (by kernel_rfl) (fun _ _ _ h => h) (Or.inl ⟨by rfl, ?_⟩) (by assumption) ?_
    rotate_left 1
    · intro w hSw; (try dsimp only at hSw); go_simp <;> with_reducible rfl
    try simp only [Act.put, List.setIfInBounds_toArray, List.set_cons_zero, List.set_cons_succ]
    refine wpAnyH_take (i := 5) (oi := { dst := some 29, op := Op.nilCheck (Operand.tmp 27), type := 0, pos := "ref.go:98", after := #[{ on := 3, ground := Ground.data }], guard := none }) (v := ?_) rfl (by kernel_rfl) (by kernel_rfl) (by kernel_rfl) (fun _ _ _ h => h) (Or.inl ⟨by rfl, ?_⟩) (by assumption) ?_
    rotate_left 1
    · intro w hSw; (try dsimp only at hSw); go_simp <;> with_reducible rfl
    try simp only [Act.put, List.setIfInBounds_toArray, List.set_cons_zero, List.set_cons_succ]
    refine wpAnyH_take (i := 6) (oi := { dst := some 30, op := Op.fieldAddr 88 (Operand.tmp 29) 0, type := 0, pos := "ref.go:98", after := #[{ on := 5, ground := Ground.data }], guard := none }) (v := ?_) rfl (by kernel_rfl) (by kernel_rfl) (by kernel_rfl) (fun _ _ _ h => h) (Or.inl ⟨by rfl, ?_⟩) (by assumption) ?_
    rotate_left 1
    · intro w hSw; (try dsimp only at hSw); go_simp <;> with_reducible rfl
    try simp only [Act.put, List.setIfInBounds_toArray, List.set_cons_zero, List.set_cons_succ]
    refine wpAnyH_take (i := 7) (oi := { dst := some 31, op := Op.indexAddr 86 (Operand.tmp 30) (Operand.tmp 28), type := 0, pos := "ref.go:98", after := #[{ on := 6, ground := Ground.data }, { on := 4, ground := Ground.data }], guard := none }) (v := ?_) rfl (by kernel_rfl) (by kernel_rfl) (by kernel_rfl) (fun _ _ _ h => h) (Or.inl ⟨by rfl, ?_⟩) (by assumption) ?_
    rotate_left 1
    · intro w hSw; (try dsimp only at hSw); go_simp <;> with_reducible rfl
    try simp only [Act.put, List.setIfInBounds_toArray, List.set_cons_zero, List.set_cons_succ]
    refine wpAnyH_take (i := 8) (oi := { dst := some 32, op := Op.load 56 (Operand.tmp 31), type := 56, pos := "ref.go:98", after := #[{ on := 7, ground := Ground.data }], guard := none }) (v := ?_) rfl (by kernel_rfl) (by kernel_rfl) (by kernel_rfl) (fun _ _ _ h => h) (Or.inl ⟨by rfl, ?_⟩) (by assumption) ?_
    rotate_left 1
    · intro w hSw; (try dsimp only at hSw); go_simp <;> with_reducible rfl
    try simp only [Act.put, List.setIfInBounds_toArray, List.set_cons_zero, List.set_cons_succ]
    refine wpAnyH_take (i := 9) (oi := { dst := some 33, op := Op.slice 56 (Operand.tmp 32) (some (Operand.const (Value.int IntKind.i64 1))) none none, type := 56, pos := "ref.go:98", after := #[{ on := 8, ground := Ground.data }], guard := none }) (v := ?_) rfl (by kernel_rfl) (by kernel_rfl) (by kernel_rfl) (fun _ _ _ h => h) (Or.inl ⟨by rfl, ?_⟩) (by assumption) ?_
    rotate_left 1
    · intro w hSw; (try dsimp only at hSw); go_simp <;> with_reducible rfl
    try simp only [Act.put, List.setIfInBounds_toArray, List.set_cons_zero, List.set_cons_succ]
    refine wpAnyH_take (i := 11) (oi := { dst := some 35, op := Op.nilCheck (Operand.tmp 24), type := 0, pos := "ref.go:98", after := #[{ on := 0, ground := Ground.data }], guard := none }) (v := ?_) rfl (by kernel_rfl) (by kernel_rfl) (by kernel_rfl) (fun _ _ _ h => h) (Or.inl ⟨by rfl, ?_⟩) (by assumption) ?_
    rotate_left 1
    · intro w hSw; (try dsimp only at hSw); go_simp <;> with_reducible rfl
    try simp only [Act.put, List.setIfInBounds_toArray, List.set_cons_zero, List.set_cons_succ]
    refine wpAnyH_take (i := 12) (oi := { dst := some 36, op := Op.fieldAddr 88 (Operand.tmp 35) 0, type := 0, pos := "ref.go:98", after := #[{ on := 11, ground := Ground.data }], guard := none }) (v := ?_) rfl (by kernel_rfl) (by kernel_rfl) (by kernel_rfl) (fun _ _ _ h => h) (Or.inl ⟨by rfl, ?_⟩) (by assumption) ?_
    rotate_left 1
    · intro w hSw; (try dsimp only at hSw); go_simp <;> with_reducible rfl
    try simp only [Act.put, List.setIfInBounds_toArray, List.set_cons_zero, List.set_cons_succ]
    refine wpAnyH_ready (rs := [2]) (by kernel_rfl) (by simp) ?_
    refine AllReadyH.cons (o := { dst := some 26, op := Op.buildSlice 56 0 #[], type := 56, pos := "ref.go:98", after := #[], guard := none }) rfl (fun K hK => ?_) ?_
    · go_simp
      refine hK.out _ _ ?_ ?_
      · (try dsimp only); (refine MK.out _ ?_; first | exact hB2 | exact hB1 | exact (Below.refl _ _).drew | exact ((Below.refl _ _).alloc (Nat.le_refl _) _).drew | exact (((Below.refl _ _).alloc (Nat.le_refl _) _).alloc (by simp) _).drew | exact hHeld.2.2.alloc hHeld.2.2.size _)
      clear hK K hHeld; intro hHeld
      try simp only [Act.put, List.setIfInBounds_toArray, List.set_cons_zero, List.set_cons_succ]
      refine wpAnyH_ready (rs := [10]) (by kernel_rfl) (by simp) ?_
      refine AllReadyH.cons (o := { dst := some 34, op := Op.call { callee := Callee.builtin Builtin.append, args := #[Operand.tmp 26, Operand.tmp 33], argTypes := #[56, 56] }, type := 56, pos := "ref.go:98", after := #[{ on := 2, ground := Ground.data }, { on := 9, ground := Ground.data }], guard := none }) rfl (fun K hK => ?_) ?_
      · refine step_app rfl (.tmp 26) (.tmp 33) rfl w.heap.size 0 (.slice (some ⟨w.heap.size, 0, none⟩) 0 0) _ [] T rfl rfl (by first | exact World.ownsRow_made w #[] 0 (Nat.le_refl _) (by decide) rfl | exact (World.ownsRow_made w #[] 0 (Nat.le_refl _) (by decide) rfl).alloc _ | exact made_after _ _ _) (T1.out _ hHeld.2.2) (by first | omega | (simp; omega)) hHeld.2.2.size ?_; intro v1 w1 hown1 hgrow1 hat1; have hB1 : Below w.heap.size w w1 := hHeld.2.2.grown hgrow1 hHeld.2.2.size (fun k hk => by simp [Value.ownBlock] at hk; omega); simp only [List.nil_append, Nat.zero_add] at hown1; obtain ⟨x1, n1, c1, rfl⟩ := slice_form hown1
        refine hK.out _ _ ?_ ?_
        · (try dsimp only); (refine MK.out _ ?_; first | exact hB2 | exact hB1 | exact (Below.refl _ _).drew | exact ((Below.refl _ _).alloc (Nat.le_refl _) _).drew | exact (((Below.refl _ _).alloc (Nat.le_refl _) _).alloc (by simp) _).drew | exact hHeld.2.2.alloc hHeld.2.2.size _)
        clear hK K hHeld; intro hHeld
        try simp only [Act.put, List.setIfInBounds_toArray, List.set_cons_zero, List.set_cons_succ]
        refine wpAnyH_take (i := 13) (oi := { dst := some 37, op := Op.indexAddr 86 (Operand.tmp 36) (Operand.tmp 25), type := 0, pos := "ref.go:98", after := #[{ on := 12, ground := Ground.data }, { on := 1, ground := Ground.data }, { on := 0, ground := Ground.phase }, { on := 1, ground := Ground.phase }, { on := 2, ground := Ground.phase }, { on := 3, ground := Ground.phase }, { on := 4, ground := Ground.phase }, { on := 5, ground := Ground.phase }, { on := 6, ground := Ground.phase }, { on := 7, ground := Ground.phase }, { on := 8, ground := Ground.phase }, { on := 9, ground := Ground.phase }, { on := 10, ground := Ground.phase }], guard := none }) (v := ?_) rfl (by kernel_rfl) (by kernel_rfl) (by kernel_rfl) (fun _ _ _ h => h) (Or.inl ⟨by rfl, ?_⟩) (by assumption) ?_
        rotate_left 1
        · intro w hSw; (try dsimp only at hSw); go_simp <;> with_reducible rfl
        try simp only [Act.put, List.setIfInBounds_toArray, List.set_cons_zero, List.set_cons_succ]
        refine last_step (o := { dst := none, op := Op.store 56 (Operand.tmp 37) (Operand.tmp 34), type := 0, pos := "ref.go:98", after := #[{ on := 13, ground := Ground.data }, { on := 10, ground := Ground.data }, { on := 10, ground := Ground.chain }, { on := 0, ground := Ground.phase }, { on := 1, ground := Ground.phase }, { on := 2, ground := Ground.phase }, { on := 3, ground := Ground.phase }, { on := 4, ground := Ground.phase }, { on := 5, ground := Ground.phase }, { on := 6, ground := Ground.phase }, { on := 7, ground := Ground.phase }, { on := 8, ground := Ground.phase }, { on := 9, ground := Ground.phase }, { on := 10, ground := Ground.phase }], guard := none }) rfl (by kernel_rfl) (fun K hK => ?_)
        go_simp
        refine hK.out _ _ ?_
        clear hK K
        try simp only [Act.put, List.setIfInBounds_toArray, List.set_cons_zero, List.set_cons_succ]
        have R1 := RefM.put (k := 2) (h.out.keep hHeld.2.2) (by decide) (own_base hown1) (fun e => by have := (hown1.lt b e).1; have := h.out.lt.1; omega)
        have G1 := grown_put (b := b) (k := 2) hHeld.2.2 (.slice x1 n1 c1)
        have C1 := (Comes.refl V w.heap.size).up 2 (v := .slice x1 n1 c1) (fun g hg => Or.inl (hown1.lt g hg).1)
        generalize hV1 : upV V 2 (.slice x1 n1 c1) = V1 at R1 C1
        have hVy : V1 1 = V 1 := by rw [← hV1]; rfl
        clear hV1
        generalize w1.setCell ⟨b, 2, none⟩ (.slice x1 n1 c1) = w3 at R1 G1 ⊢
        have hck := R1.c 1 (by decide)
        have hzk := R1.z 1
        rw [hVy] at hck
        have hb := R1.lt.1
        clear MK T1 hHeld hown1 hgrow1 hat1 hB1
        have MK : Hid (∀ wX, Below w3.heap.size w3 wX → wX.cell? ⟨b, 1, none⟩ = some (V 1) ∧ wX.frozen? ⟨b, 1, none⟩ = false ∧ Below w3.heap.size w3 wX) := Lib.hid (fun wX hX => ⟨(hX.cell hb).trans hck, (hX.frozen hb).trans hzk, hX⟩)
        have T1 : Hid (∀ wX, Below w3.heap.size w3 wX → Reads wX (V 1) (A 1)) := Lib.hid (fun wX hX => by have := SL.keep (R1.own 1 (by decide)) hX; rw [hVy] at this; exact this.reads)
        replace R1 := Lib.hid R1
        replace G1 := Lib.hid G1
        replace C1 := Lib.hid C1
        go_wp2
        refine wp_region_last (d := 16) (fuel := 16) (S := (fun w' => w'.cell? ⟨b, 1, none⟩ = some (V 1) ∧ w'.frozen? ⟨b, 1, none⟩ = false ∧ Below w3.heap.size w3 w')) (by kernel_rfl) (by kernel_rfl) rfl ?_ (fun hHeld => ?_)
        · (try dsimp only); (refine MK.out _ ?_; first | exact hB2 | exact hB1 | exact (Below.refl _ _).drew | exact ((Below.refl _ _).alloc (Nat.le_refl _) _).drew | exact (((Below.refl _ _).alloc (Nat.le_refl _) _).alloc (by simp) _).drew | exact hHeld.2.2.alloc hHeld.2.2.size _)
        try simp only [Act.put, List.setIfInBounds_toArray, List.set_cons_zero, List.set_cons_succ]
        refine wpAnyH_take (i := 0) (oi := { dst := some 38, op := Op.move (Operand.tmp 0), type := 75, pos := "ref.go:99", after := #[], guard := none }) (v := ?_) rfl (by kernel_rfl) (by kernel_rfl) (by kernel_rfl) (fun _ _ _ h => h) (Or.inl ⟨by rfl, ?_⟩) (by assumption) ?_
        rotate_left 1
        · intro w hSw; (try dsimp only at hSw); go_simp <;> with_reducible rfl
        try simp only [Act.put, List.setIfInBounds_toArray, List.set_cons_zero, List.set_cons_succ]
        refine wpAnyH_take (i := 1) (oi := { dst := some 39, op := Op.move (Operand.tmp 2), type := 3, pos := "ref.go:99", after := #[], guard := none }) (v := ?_) rfl (by kernel_rfl) (by kernel_rfl) (by kernel_rfl) (fun _ _ _ h => h) (Or.inl ⟨by rfl, ?_⟩) (by assumption) ?_
        rotate_left 1
        · intro w hSw; (try dsimp only at hSw); go_simp <;> with_reducible rfl
        try simp only [Act.put, List.setIfInBounds_toArray, List.set_cons_zero, List.set_cons_succ]
        refine wpAnyH_take (i := 3) (oi := { dst := some 41, op := Op.move (Operand.tmp 0), type := 75, pos := "ref.go:99", after := #[], guard := none }) (v := ?_) rfl (by kernel_rfl) (by kernel_rfl) (by kernel_rfl) (fun _ _ _ h => h) (Or.inl ⟨by rfl, ?_⟩) (by assumption) ?_
        rotate_left 1
        · intro w hSw; (try dsimp only at hSw); go_simp <;> with_reducible rfl
        try simp only [Act.put, List.setIfInBounds_toArray, List.set_cons_zero, List.set_cons_succ]
        refine wpAnyH_take (i := 4) (oi := { dst := some 42, op := Op.move (Operand.tmp 2), type := 3, pos := "ref.go:99", after := #[], guard := none }) (v := ?_) rfl (by kernel_rfl) (by kernel_rfl) (by kernel_rfl) (fun _ _ _ h => h) (Or.inl ⟨by rfl, ?_⟩) (by assumption) ?_
        rotate_left 1
        · intro w hSw; (try dsimp only at hSw); go_simp <;> with_reducible rfl
        try simp only [Act.put, List.setIfInBounds_toArray, List.set_cons_zero, List.set_cons_succ]
        refine wpAnyH_take (i := 5) (oi := { dst := some 43, op := Op.nilCheck (Operand.tmp 41), type := 0, pos := "ref.go:99", after := #[{ on := 3, ground := Ground.data }], guard := none }) (v := ?_) rfl (by kernel_rfl) (by kernel_rfl) (by kernel_rfl) (fun _ _ _ h => h) (Or.inl ⟨by rfl, ?_⟩) (by assumption) ?_
        rotate_left 1
        · intro w hSw; (try dsimp only at hSw); go_simp <;> with_reducible rfl
        try simp only [Act.put, List.setIfInBounds_toArray, List.set_cons_zero, List.set_cons_succ]
        refine wpAnyH_take (i := 6) (oi := { dst := some 44, op := Op.fieldAddr 88 (Operand.tmp 43) 0, type := 0, pos := "ref.go:99", after := #[{ on := 5, ground := Ground.data }], guard := none }) (v := ?_) rfl (by kernel_rfl) (by kernel_rfl) (by kernel_rfl) (fun _ _ _ h => h) (Or.inl ⟨by rfl, ?_⟩) (by assumption) ?_
        rotate_left 1
        · intro w hSw; (try dsimp only at hSw); go_simp <;> with_reducible rfl
        try simp only [Act.put, List.setIfInBounds_toArray, List.set_cons_zero, List.set_cons_succ]
        refine wpAnyH_take (i := 7) (oi := { dst := some 45, op := Op.indexAddr 86 (Operand.tmp 44) (Operand.tmp 42), type := 0, pos := "ref.go:99", after := #[{ on := 6, ground := Ground.data }, { on := 4, ground := Ground.data }], guard := none }) (v := ?_) rfl (by kernel_rfl) (by kernel_rfl) (by kernel_rfl) (fun _ _ _ h => h) (Or.inl ⟨by rfl, ?_⟩) (by assumption) ?_
        rotate_left 1
        · intro w hSw; (try dsimp only at hSw); go_simp <;> with_reducible rfl
        try simp only [Act.put, List.setIfInBounds_toArray, List.set_cons_zero, List.set_cons_succ]
        refine wpAnyH_take (i := 8) (oi := { dst := some 46, op := Op.load 56 (Operand.tmp 45), type := 56, pos := "ref.go:99", after := #[{ on := 7, ground := Ground.data }], guard := none }) (v := ?_) rfl (by kernel_rfl) (by kernel_rfl) (by kernel_rfl) (fun _ _ _ h => h) (Or.inl ⟨by rfl, ?_⟩) (by assumption) ?_
        rotate_left 1
        · intro w hSw; (try dsimp only at hSw); go_simp <;> with_reducible rfl
        try simp only [Act.put, List.setIfInBounds_toArray, List.set_cons_zero, List.set_cons_succ]
        refine wpAnyH_take (i := 10) (oi := { dst := some 48, op := Op.move (Operand.tmp 7), type := 3, pos := "ref.go:99", after := #[], guard := none }) (v := ?_) rfl (by kernel_rfl) (by kernel_rfl) (by kernel_rfl) (fun _ _ _ h => h) (Or.inl ⟨by rfl, ?_⟩) (by assumption) ?_
        rotate_left 1
        · intro w hSw; (try dsimp only at hSw); go_simp <;> with_reducible rfl
        try simp only [Act.put, List.setIfInBounds_toArray, List.set_cons_zero, List.set_cons_succ]
        refine wpAnyH_take (i := 13) (oi := { dst := some 51, op := Op.nilCheck (Operand.tmp 38), type := 0, pos := "ref.go:99", after := #[{ on := 0, ground := Ground.data }], guard := none }) (v := ?_) rfl (by kernel_rfl) (by kernel_rfl) (by kernel_rfl) (fun _ _ _ h => h) (Or.inl ⟨by rfl, ?_⟩) (by assumption) ?_
        rotate_left 1
        · intro w hSw; (try dsimp only at hSw); go_simp <;> with_reducible rfl
        try simp only [Act.put, List.setIfInBounds_toArray, List.set_cons_zero, List.set_cons_succ]
        refine wpAnyH_take (i := 14) (oi := { dst := some 52, op := Op.fieldAddr 88 (Operand.tmp 51) 0, type := 0, pos := "ref.go:99", after := #[{ on := 13, ground := Ground.data }], guard := none }) (v := ?_) rfl (by kernel_rfl) (by kernel_rfl) (by kernel_rfl) (fun _ _ _ h => h) (Or.inl ⟨by rfl, ?_⟩) (by assumption) ?_
        rotate_left 1
        · intro w hSw; (try dsimp only at hSw); go_simp <;> with_reducible rfl
        try simp only [Act.put, List.setIfInBounds_toArray, List.set_cons_zero, List.set_cons_succ]
        refine wpAnyH_ready (rs := [2, 11]) (by kernel_rfl) (by simp) ?_
        refine AllReadyH.cons (o := { dst := some 40, op := Op.buildSlice 56 0 #[], type := 56, pos := "ref.go:99", after := #[], guard := none }) rfl (fun K hK => ?_) ?_
        · go_simp
          refine hK.out _ _ ?_ ?_
          · (try dsimp only); (refine MK.out _ ?_; first | exact hB2 | exact hB1 | exact (Below.refl _ _).drew | exact ((Below.refl _ _).alloc (Nat.le_refl _) _).drew | exact (((Below.refl _ _).alloc (Nat.le_refl _) _).alloc (by simp) _).drew | exact hHeld.2.2.alloc hHeld.2.2.size _)
          clear hK K hHeld; intro hHeld
          try simp only [Act.put, List.setIfInBounds_toArray, List.set_cons_zero, List.set_cons_succ]
          refine wpAnyH_ready (rs := [9, 11]) (by kernel_rfl) (by simp) ?_
          refine AllReadyH.cons (o := { dst := some 47, op := Op.call { callee := Callee.builtin Builtin.append, args := #[Operand.tmp 40, Operand.tmp 46], argTypes := #[56, 56] }, type := 56, pos := "ref.go:99", after := #[{ on := 2, ground := Ground.data }, { on := 8, ground := Ground.data }], guard := none }) rfl (fun K hK => ?_) ?_
          · refine step_app rfl (.tmp 40) (.tmp 46) rfl w3.heap.size 0 (.slice (some ⟨w3.heap.size, 0, none⟩) 0 0) _ [] (A 1) rfl rfl (by first | exact World.ownsRow_made w3 #[] 0 (Nat.le_refl _) (by decide) rfl | exact (World.ownsRow_made w3 #[] 0 (Nat.le_refl _) (by decide) rfl).alloc _ | exact made_after _ _ _) (T1.out _ hHeld.2.2) (by first | omega | (simp; omega)) hHeld.2.2.size ?_; intro v1 w1 hown1 hgrow1 hat1; have hB1 : Below w3.heap.size w3 w1 := hHeld.2.2.grown hgrow1 hHeld.2.2.size (fun k hk => by simp [Value.ownBlock] at hk; omega); simp only [List.nil_append, Nat.zero_add] at hown1; obtain ⟨x1, n1, c1, rfl⟩ := slice_form hown1
            refine hK.out _ _ ?_ ?_
            · (try dsimp only); (refine MK.out _ ?_; first | exact hB2 | exact hB1 | exact (Below.refl _ _).drew | exact ((Below.refl _ _).alloc (Nat.le_refl _) _).drew | exact (((Below.refl _ _).alloc (Nat.le_refl _) _).alloc (by simp) _).drew | exact hHeld.2.2.alloc hHeld.2.2.size _)
            clear hK K hHeld; intro hHeld
            try simp only [Act.put, List.setIfInBounds_toArray, List.set_cons_zero, List.set_cons_succ]
            refine wpAnyH_ready (rs := [11]) (by kernel_rfl) (by simp) ?_
            refine AllReadyH.cons (o := { dst := some 49, op := Op.buildSlice 56 1 #[(0, Operand.tmp 48)], type := 56, pos := "ref.go:99", after := #[{ on := 10, ground := Ground.data }], guard := none }) rfl (fun K hK => ?_) ?_
            · go_simp
              refine hK.out _ _ ?_ ?_
              · (try dsimp only); (refine MK.out _ ?_; first | exact hB2 | exact hB1 | exact (Below.refl _ _).drew | exact ((Below.refl _ _).alloc (Nat.le_refl _) _).drew | exact (((Below.refl _ _).alloc (Nat.le_refl _) _).alloc (by simp) _).drew | exact hHeld.2.2.alloc hHeld.2.2.size _)
              clear hK K hHeld; intro hHeld
              try simp only [Act.put, List.setIfInBounds_toArray, List.set_cons_zero, List.set_cons_succ]
              refine wpAnyH_ready (rs := [12]) (by kernel_rfl) (by simp) ?_
              refine AllReadyH.cons (o := { dst := some 50, op := Op.call { callee := Callee.builtin Builtin.append, args := #[Operand.tmp 47, Operand.tmp 49], argTypes := #[56, 56] }, type := 56, pos := "ref.go:99", after := #[{ on := 9, ground := Ground.data }, { on := 11, ground := Ground.data }, { on := 9, ground := Ground.chain }], guard := none }) rfl (fun K hK => ?_) ?_
              · refine step_app rfl (.tmp 47) (.tmp 49) rfl w3.heap.size _ _ _ _ [i] rfl rfl (by first | exact hown1 | exact hown1.alloc _) (Reads.one (by first | exact (World.cell?_alloc_new _ _ _ 0).trans rfl | exact hgrow1.cell (by first | (simp; done) | exact (World.cell?_alloc_lt _ _ _ (by simp)).trans ((World.cell?_alloc_new _ _ _ 0).trans rfl)) (by simp [Value.ownBlock]))) (by first | omega | (simp; omega)) hHeld.2.2.size ?_; intro v2 w2 hown2 hgrow2 hat2; have hB2 : Below w3.heap.size w3 w2 := hHeld.2.2.grown hgrow2 hHeld.2.2.size (fun k hk => (hown1.lt k hk).1); rw [← List.length_append] at hown2; obtain ⟨x2, n2, c2, rfl⟩ := slice_form hown2
                refine hK.out _ _ ?_ ?_
                · (try dsimp only); (refine MK.out _ ?_; first | exact hB2 | exact hB1 | exact (Below.refl _ _).drew | exact ((Below.refl _ _).alloc (Nat.le_refl _) _).drew | exact (((Below.refl _ _).alloc (Nat.le_refl _) _).alloc (by simp) _).drew | exact hHeld.2.2.alloc hHeld.2.2.size _)
                clear hK K hHeld; intro hHeld
                try simp only [Act.put, List.setIfInBounds_toArray, List.set_cons_zero, List.set_cons_succ]
                refine wpAnyH_take (i := 15) (oi := { dst := some 53, op := Op.indexAddr 86 (Operand.tmp 52) (Operand.tmp 39), type := 0, pos := "ref.go:99", after := #[{ on := 14, ground := Ground.data }, { on := 1, ground := Ground.data }, { on := 0, ground := Ground.phase }, { on := 1, ground := Ground.phase }, { on := 2, ground := Ground.phase }, { on := 3, ground := Ground.phase }, { on := 4, ground := Ground.phase }, { on := 5, ground := Ground.phase }, { on := 6, ground := Ground.phase }, { on := 7, ground := Ground.phase }, { on := 8, ground := Ground.phase }, { on := 9, ground := Ground.phase }, { on := 10, ground := Ground.phase }, { on := 11, ground := Ground.phase }, { on := 12, ground := Ground.phase }], guard := none }) (v := ?_) rfl (by kernel_rfl) (by kernel_rfl) (by kernel_rfl) (fun _ _ _ h => h) (Or.inl ⟨by rfl, ?_⟩) (by assumption) ?_
                rotate_left 1
                · intro w hSw; (try dsimp only at hSw); go_simp <;> with_reducible rfl
                try simp only [Act.put, List.setIfInBounds_toArray, List.set_cons_zero, List.set_cons_succ]
                refine last_step (o := { dst := none, op := Op.store 56 (Operand.tmp 53) (Operand.tmp 50), type := 0, pos := "ref.go:99", after := #[{ on := 15, ground := Ground.data }, { on := 12, ground := Ground.data }, { on := 12, ground := Ground.chain }, { on := 0, ground := Ground.phase }, { on := 1, ground := Ground.phase }, { on := 2, ground := Ground.phase }, { on := 3, ground := Ground.phase }, { on := 4, ground := Ground.phase }, { on := 5, ground := Ground.phase }, { on := 6, ground := Ground.phase }, { on := 7, ground := Ground.phase }, { on := 8, ground := Ground.phase }, { on := 9, ground := Ground.phase }, { on := 10, ground := Ground.phase }, { on := 11, ground := Ground.phase }, { on := 12, ground := Ground.phase }], guard := none }) rfl (by kernel_rfl) (fun K hK => ?_)
                go_simp
                refine hK.out _ _ ?_
                clear hK K
                try simp only [Act.put, List.setIfInBounds_toArray, List.set_cons_zero, List.set_cons_succ]
                have R2 := Lib.hid (RefM.put (k := 1) (R1.out.keep hHeld.2.2) (by decide) (own_base hown2) (fun e => by have := (hown2.lt b e).1; have := R1.out.lt.1; omega))
                have G2 := Lib.hid (grown_put2 (k := 1) G1.out hHeld.2.2 (.slice x2 n2 c2))
                have C2 := Lib.hid (C1.out.up 1 (v := .slice x2 n2 c2) (fun g hg => Or.inl (Nat.le_trans G1.out.size (hown2.lt g hg).1)))
                go_wp2
                go_ret
                exact ⟨rfl, _, R2.out, G2.out, C2.out⟩
              exact AllReadyH.nil
            exact AllReadyH.nil
          refine AllReadyH.cons (o := { dst := some 49, op := Op.buildSlice 56 1 #[(0, Operand.tmp 48)], type := 56, pos := "ref.go:99", after := #[{ on := 10, ground := Ground.data }], guard := none }) rfl (fun K hK => ?_) ?_
          · go_simp
            refine hK.out _ _ ?_ ?_
            · (try dsimp only); (refine MK.out _ ?_; first | exact hB2 | exact hB1 | exact (Below.refl _ _).drew | exact ((Below.refl _ _).alloc (Nat.le_refl _) _).drew | exact (((Below.refl _ _).alloc (Nat.le_refl _) _).alloc (by simp) _).drew | exact hHeld.2.2.alloc hHeld.2.2.size _)
            clear hK K hHeld; intro hHeld
            try simp only [Act.put, List.setIfInBounds_toArray, List.set_cons_zero, List.set_cons_succ]
            refine wpAnyH_ready (rs := [9]) (by kernel_rfl) (by simp) ?_
            refine AllReadyH.cons (o := { dst := some 47, op := Op.call { callee := Callee.builtin Builtin.append, args := #[Operand.tmp 40, Operand.tmp 46], argTypes := #[56, 56] }, type := 56, pos := "ref.go:99", after := #[{ on := 2, ground := Ground.data }, { on := 8, ground := Ground.data }], guard := none }) rfl (fun K hK => ?_) ?_
            · refine step_app rfl (.tmp 40) (.tmp 46) rfl w3.heap.size 0 (.slice (some ⟨w3.heap.size, 0, none⟩) 0 0) _ [] (A 1) rfl rfl (by first | exact World.ownsRow_made w3 #[] 0 (Nat.le_refl _) (by decide) rfl | exact (World.ownsRow_made w3 #[] 0 (Nat.le_refl _) (by decide) rfl).alloc _ | exact made_after _ _ _) (T1.out _ hHeld.2.2) (by first | omega | (simp; omega)) hHeld.2.2.size ?_; intro v1 w1 hown1 hgrow1 hat1; have hB1 : Below w3.heap.size w3 w1 := hHeld.2.2.grown hgrow1 hHeld.2.2.size (fun k hk => by simp [Value.ownBlock] at hk; omega); simp only [List.nil_append, Nat.zero_add] at hown1; obtain ⟨x1, n1, c1, rfl⟩ := slice_form hown1
              refine hK.out _ _ ?_ ?_
              · (try dsimp only); (refine MK.out _ ?_; first | exact hB2 | exact hB1 | exact (Below.refl _ _).drew | exact ((Below.refl _ _).alloc (Nat.le_refl _) _).drew | exact (((Below.refl _ _).alloc (Nat.le_refl _) _).alloc (by simp) _).drew | exact hHeld.2.2.alloc hHeld.2.2.size _)
              clear hK K hHeld; intro hHeld
              try simp only [Act.put, List.setIfInBounds_toArray, List.set_cons_zero, List.set_cons_succ]
              refine wpAnyH_ready (rs := [12]) (by kernel_rfl) (by simp) ?_
              refine AllReadyH.cons (o := { dst := some 50, op := Op.call { callee := Callee.builtin Builtin.append, args := #[Operand.tmp 47, Operand.tmp 49], argTypes := #[56, 56] }, type := 56, pos := "ref.go:99", after := #[{ on := 9, ground := Ground.data }, { on := 11, ground := Ground.data }, { on := 9, ground := Ground.chain }], guard := none }) rfl (fun K hK => ?_) ?_
              · refine step_app rfl (.tmp 47) (.tmp 49) rfl w3.heap.size _ _ _ _ [i] rfl rfl (by first | exact hown1 | exact hown1.alloc _) (Reads.one (by first | exact (World.cell?_alloc_new _ _ _ 0).trans rfl | exact hgrow1.cell (by first | (simp; done) | exact (World.cell?_alloc_lt _ _ _ (by simp)).trans ((World.cell?_alloc_new _ _ _ 0).trans rfl)) (by simp [Value.ownBlock]))) (by first | omega | (simp; omega)) hHeld.2.2.size ?_; intro v2 w2 hown2 hgrow2 hat2; have hB2 : Below w3.heap.size w3 w2 := hHeld.2.2.grown hgrow2 hHeld.2.2.size (fun k hk => (hown1.lt k hk).1); rw [← List.length_append] at hown2; obtain ⟨x2, n2, c2, rfl⟩ := slice_form hown2
                refine hK.out _ _ ?_ ?_
                · (try dsimp only); (refine MK.out _ ?_; first | exact hB2 | exact hB1 | exact (Below.refl _ _).drew | exact ((Below.refl _ _).alloc (Nat.le_refl _) _).drew | exact (((Below.refl _ _).alloc (Nat.le_refl _) _).alloc (by simp) _).drew | exact hHeld.2.2.alloc hHeld.2.2.size _)
                clear hK K hHeld; intro hHeld
                try simp only [Act.put, List.setIfInBounds_toArray, List.set_cons_zero, List.set_cons_succ]
                refine wpAnyH_take (i := 15) (oi := { dst := some 53, op := Op.indexAddr 86 (Operand.tmp 52) (Operand.tmp 39), type := 0, pos := "ref.go:99", after := #[{ on := 14, ground := Ground.data }, { on := 1, ground := Ground.data }, { on := 0, ground := Ground.phase }, { on := 1, ground := Ground.phase }, { on := 2, ground := Ground.phase }, { on := 3, ground := Ground.phase }, { on := 4, ground := Ground.phase }, { on := 5, ground := Ground.phase }, { on := 6, ground := Ground.phase }, { on := 7, ground := Ground.phase }, { on := 8, ground := Ground.phase }, { on := 9, ground := Ground.phase }, { on := 10, ground := Ground.phase }, { on := 11, ground := Ground.phase }, { on := 12, ground := Ground.phase }], guard := none }) (v := ?_) rfl (by kernel_rfl) (by kernel_rfl) (by kernel_rfl) (fun _ _ _ h => h) (Or.inl ⟨by rfl, ?_⟩) (by assumption) ?_
                rotate_left 1
                · intro w hSw; (try dsimp only at hSw); go_simp <;> with_reducible rfl
                try simp only [Act.put, List.setIfInBounds_toArray, List.set_cons_zero, List.set_cons_succ]
                refine last_step (o := { dst := none, op := Op.store 56 (Operand.tmp 53) (Operand.tmp 50), type := 0, pos := "ref.go:99", after := #[{ on := 15, ground := Ground.data }, { on := 12, ground := Ground.data }, { on := 12, ground := Ground.chain }, { on := 0, ground := Ground.phase }, { on := 1, ground := Ground.phase }, { on := 2, ground := Ground.phase }, { on := 3, ground := Ground.phase }, { on := 4, ground := Ground.phase }, { on := 5, ground := Ground.phase }, { on := 6, ground := Ground.phase }, { on := 7, ground := Ground.phase }, { on := 8, ground := Ground.phase }, { on := 9, ground := Ground.phase }, { on := 10, ground := Ground.phase }, { on := 11, ground := Ground.phase }, { on := 12, ground := Ground.phase }], guard := none }) rfl (by kernel_rfl) (fun K hK => ?_)
                go_simp
                refine hK.out _ _ ?_
                clear hK K
                try simp only [Act.put, List.setIfInBounds_toArray, List.set_cons_zero, List.set_cons_succ]
                have R2 := Lib.hid (RefM.put (k := 1) (R1.out.keep hHeld.2.2) (by decide) (own_base hown2) (fun e => by have := (hown2.lt b e).1; have := R1.out.lt.1; omega))
                have G2 := Lib.hid (grown_put2 (k := 1) G1.out hHeld.2.2 (.slice x2 n2 c2))
                have C2 := Lib.hid (C1.out.up 1 (v := .slice x2 n2 c2) (fun g hg => Or.inl (Nat.le_trans G1.out.size (hown2.lt g hg).1)))
                go_wp2
                go_ret
                exact ⟨rfl, _, R2.out, G2.out, C2.out⟩
              exact AllReadyH.nil
            exact AllReadyH.nil
          exact AllReadyH.nil
        refine AllReadyH.cons (o := { dst := some 49, op := Op.buildSlice 56 1 #[(0, Operand.tmp 48)], type := 56, pos := "ref.go:99", after := #[{ on := 10, ground := Ground.data }], guard := none }) rfl (fun K hK => ?_) ?_
        · go_simp
          refine hK.out _ _ ?_ ?_
          · (try dsimp only); (refine MK.out _ ?_; first | exact hB2 | exact hB1 | exact (Below.refl _ _).drew | exact ((Below.refl _ _).alloc (Nat.le_refl _) _).drew | exact (((Below.refl _ _).alloc (Nat.le_refl _) _).alloc (by simp) _).drew | exact hHeld.2.2.alloc hHeld.2.2.size _)
          clear hK K hHeld; intro hHeld
          try simp only [Act.put, List.setIfInBounds_toArray, List.set_cons_zero, List.set_cons_succ]
          refine wpAnyH_ready (rs := [2]) (by kernel_rfl) (by simp) ?_
          refine AllReadyH.cons (o := { dst := some 40, op := Op.buildSlice 56 0 #[], type := 56, pos := "ref.go:99", after := #[], guard := none }) rfl (fun K hK => ?_) ?_
          · go_simp
            refine hK.out _ _ ?_ ?_
            · (try dsimp only); (refine MK.out _ ?_; first | exact hB2 | exact hB1 | exact (Below.refl _ _).drew | exact ((Below.refl _ _).alloc (Nat.le_refl _) _).drew | exact (((Below.refl _ _).alloc (Nat.le_refl _) _).alloc (by simp) _).drew | exact hHeld.2.2.alloc hHeld.2.2.size _)
            clear hK K hHeld; intro hHeld
            try simp only [Act.put, List.setIfInBounds_toArray, List.set_cons_zero, List.set_cons_succ]
            refine wpAnyH_ready (rs := [9]) (by kernel_rfl) (by simp) ?_
            refine AllReadyH.cons (o := { dst := some 47, op := Op.call { callee := Callee.builtin Builtin.append, args := #[Operand.tmp 40, Operand.tmp 46], argTypes := #[56, 56] }, type := 56, pos := "ref.go:99", after := #[{ on := 2, ground := Ground.data }, { on := 8, ground := Ground.data }], guard := none }) rfl (fun K hK => ?_) ?_
            · refine step_app rfl (.tmp 40) (.tmp 46) rfl w3.heap.size 0 (.slice (some ⟨w3.heap.size + 1, 0, none⟩) 0 0) _ [] (A 1) rfl rfl (by first | exact World.ownsRow_made w3 #[] 0 (Nat.le_refl _) (by decide) rfl | exact (World.ownsRow_made w3 #[] 0 (Nat.le_refl _) (by decide) rfl).alloc _ | exact made_after _ _ _) (T1.out _ hHeld.2.2) (by first | omega | (simp; omega)) hHeld.2.2.size ?_; intro v1 w1 hown1 hgrow1 hat1; have hB1 : Below w3.heap.size w3 w1 := hHeld.2.2.grown hgrow1 hHeld.2.2.size (fun k hk => by simp [Value.ownBlock] at hk; omega); simp only [List.nil_append, Nat.zero_add] at hown1; obtain ⟨x1, n1, c1, rfl⟩ := slice_form hown1
              refine hK.out _ _ ?_ ?_
              · (try dsimp only); (refine MK.out _ ?_; first | exact hB2 | exact hB1 | exact (Below.refl _ _).drew | exact ((Below.refl _ _).alloc (Nat.le_refl _) _).drew | exact (((Below.refl _ _).alloc (Nat.le_refl _) _).alloc (by simp) _).drew | exact hHeld.2.2.alloc hHeld.2.2.size _)
              clear hK K hHeld; intro hHeld
              try simp only [Act.put, List.setIfInBounds_toArray, List.set_cons_zero, List.set_cons_succ]
              refine wpAnyH_ready (rs := [12]) (by kernel_rfl) (by simp) ?_
              refine AllReadyH.cons (o := { dst := some 50, op := Op.call { callee := Callee.builtin Builtin.append, args := #[Operand.tmp 47, Operand.tmp 49], argTypes := #[56, 56] }, type := 56, pos := "ref.go:99", after := #[{ on := 9, ground := Ground.data }, { on := 11, ground := Ground.data }, { on := 9, ground := Ground.chain }], guard := none }) rfl (fun K hK => ?_) ?_
              · refine step_app rfl (.tmp 47) (.tmp 49) rfl w3.heap.size _ _ _ _ [i] rfl rfl (by first | exact hown1 | exact hown1.alloc _) (Reads.one (by first | exact (World.cell?_alloc_new _ _ _ 0).trans rfl | exact hgrow1.cell (by first | (simp; done) | exact (World.cell?_alloc_lt _ _ _ (by simp)).trans ((World.cell?_alloc_new _ _ _ 0).trans rfl)) (by simp [Value.ownBlock]))) (by first | omega | (simp; omega)) hHeld.2.2.size ?_; intro v2 w2 hown2 hgrow2 hat2; have hB2 : Below w3.heap.size w3 w2 := hHeld.2.2.grown hgrow2 hHeld.2.2.size (fun k hk => (hown1.lt k hk).1); rw [← List.length_append] at hown2; obtain ⟨x2, n2, c2, rfl⟩ := slice_form hown2
                refine hK.out _ _ ?_ ?_
                · (try dsimp only); (refine MK.out _ ?_; first | exact hB2 | exact hB1 | exact (Below.refl _ _).drew | exact ((Below.refl _ _).alloc (Nat.le_refl _) _).drew | exact (((Below.refl _ _).alloc (Nat.le_refl _) _).alloc (by simp) _).drew | exact hHeld.2.2.alloc hHeld.2.2.size _)
                clear hK K hHeld; intro hHeld
                try simp only [Act.put, List.setIfInBounds_toArray, List.set_cons_zero, List.set_cons_succ]
                refine wpAnyH_take (i := 15) (oi := { dst := some 53, op := Op.indexAddr 86 (Operand.tmp 52) (Operand.tmp 39), type := 0, pos := "ref.go:99", after := #[{ on := 14, ground := Ground.data }, { on := 1, ground := Ground.data }, { on := 0, ground := Ground.phase }, { on := 1, ground := Ground.phase }, { on := 2, ground := Ground.phase }, { on := 3, ground := Ground.phase }, { on := 4, ground := Ground.phase }, { on := 5, ground := Ground.phase }, { on := 6, ground := Ground.phase }, { on := 7, ground := Ground.phase }, { on := 8, ground := Ground.phase }, { on := 9, ground := Ground.phase }, { on := 10, ground := Ground.phase }, { on := 11, ground := Ground.phase }, { on := 12, ground := Ground.phase }], guard := none }) (v := ?_) rfl (by kernel_rfl) (by kernel_rfl) (by kernel_rfl) (fun _ _ _ h => h) (Or.inl ⟨by rfl, ?_⟩) (by assumption) ?_
                rotate_left 1
                · intro w hSw; (try dsimp only at hSw); go_simp <;> with_reducible rfl
                try simp only [Act.put, List.setIfInBounds_toArray, List.set_cons_zero, List.set_cons_succ]
                refine last_step (o := { dst := none, op := Op.store 56 (Operand.tmp 53) (Operand.tmp 50), type := 0, pos := "ref.go:99", after := #[{ on := 15, ground := Ground.data }, { on := 12, ground := Ground.data }, { on := 12, ground := Ground.chain }, { on := 0, ground := Ground.phase }, { on := 1, ground := Ground.phase }, { on := 2, ground := Ground.phase }, { on := 3, ground := Ground.phase }, { on := 4, ground := Ground.phase }, { on := 5, ground := Ground.phase }, { on := 6, ground := Ground.phase }, { on := 7, ground := Ground.phase }, { on := 8, ground := Ground.phase }, { on := 9, ground := Ground.phase }, { on := 10, ground := Ground.phase }, { on := 11, ground := Ground.phase }, { on := 12, ground := Ground.phase }], guard := none }) rfl (by kernel_rfl) (fun K hK => ?_)
                go_simp
                refine hK.out _ _ ?_
                clear hK K
                try simp only [Act.put, List.setIfInBounds_toArray, List.set_cons_zero, List.set_cons_succ]
                have R2 := Lib.hid (RefM.put (k := 1) (R1.out.keep hHeld.2.2) (by decide) (own_base hown2) (fun e => by have := (hown2.lt b e).1; have := R1.out.lt.1; omega))
                have G2 := Lib.hid (grown_put2 (k := 1) G1.out hHeld.2.2 (.slice x2 n2 c2))
                have C2 := Lib.hid (C1.out.up 1 (v := .slice x2 n2 c2) (fun g hg => Or.inl (Nat.le_trans G1.out.size (hown2.lt g hg).1)))
                go_wp2
                go_ret
                exact ⟨rfl, _, R2.out, G2.out, C2.out⟩
              exact AllReadyH.nil
            exact AllReadyH.nil
          exact AllReadyH.nil
        exact AllReadyH.nil
      exact AllReadyH.nil
    exact AllReadyH.nil
end Wd
end Go.Proofs.YtdaojohdmidemaaGreat

/- The document's own mill: Alloc, Scan, Color. -/
namespace Go.Proofs.YtdaojohdmidemaaGreat
open Go.RowKit
set_option linter.unusedVariables false
namespace Wd
theorem ralloc_c (b : Nat) (A : Mst) (V : Nat → Value) (w : World) (h : RefM w b A V) (hl : ∀ k, k < 4 → (A k).length ≤ 8192) :
    Calls Tryz.prog 49 #[.pointer (some ⟨b, 0, none⟩)] w fun e w' => e = .returned (.int .i64 (firstR A 0)) ∧ ∃ V', RefM w' b (firstA A 0 1) V' ∧ w.grownBy w' (some b) ∧ Comes V V' w.heap.size := by
  replace h := Lib.hid h
  go_enter Tryz.func49, Tryz.ntmps49
  go_wp2_with (first | (go_at_call 91; ((with_reducible refine (first0_c b A V _ h.out hl).mono ?_); rintro e w' ⟨rfl, V', h1, h2, h3⟩; replace h1 := Lib.hid h1; replace h2 := Lib.hid h2; replace h3 := Lib.hid h3)))
  go_ret
  exact ⟨rfl, V', h1.out, h2.out, h3.out⟩
theorem rscan_c (b : Nat) (A : Mst) (V : Nat → Value) (w : World) (h : RefM w b A V) (hl : ∀ k, k < 4 → (A k).length ≤ 8192) :
    Calls Tryz.prog 66 #[.pointer (some ⟨b, 0, none⟩)] w fun e w' => e = .returned (.int .i64 (firstR A 2)) ∧ ∃ V', RefM w' b (firstA A 2 1) V' ∧ w.grownBy w' (some b) ∧ Comes V V' w.heap.size := by
  replace h := Lib.hid h
  go_enter Tryz.func66, Tryz.ntmps66
  go_wp2_with (first | (go_at_call 91; ((with_reducible refine (first2_c b A V _ h.out hl).mono ?_); rintro e w' ⟨rfl, V', h1, h2, h3⟩; replace h1 := Lib.hid h1; replace h2 := Lib.hid h2; replace h3 := Lib.hid h3)))
  go_ret
  exact ⟨rfl, V', h1.out, h2.out, h3.out⟩
theorem colorR_hit {A : Mst} {i : Int} {c : Nat} (hc : c < 4) (hn : ∀ j, j < c → i ∉ A j) (hi : i ∈ A c) : colorR A i = c := by
  unfold colorR
  have h0 := hn 0
  have h1 := hn 1
  have h2 := hn 2
  rcases (show c = 0 ∨ c = 1 ∨ c = 2 ∨ c = 3 by omega) with rfl | rfl | rfl | rfl <;> simp_all
theorem colorR_miss {A : Mst} {i : Int} (hn : ∀ j, j < 4 → i ∉ A j) : colorR A i = -1 := by
  unfold colorR
  rw [if_neg (hn 0 (by decide)), if_neg (hn 1 (by decide)), if_neg (hn 2 (by decide)), if_neg (hn 3 (by decide))]
set_option maxHeartbeats 4000000 in
theorem rcolor_c (i : Int) (b : Nat) (A : Mst) (V : Nat → Value) (w : World) (h : RefM w b A V) (hl : ∀ k, k < 4 → (A k).length ≤ 8192) :
    Calls Tryz.prog 55 #[.pointer (some ⟨b, 0, none⟩), .int .i64 i] w fun e w' => e = .returned (.int .i64 (colorR A i)) ∧ w' = w := by
  replace h := Lib.hid h
  go_enter Tryz.func55, Tryz.ntmps55
  go_wp2
  go_loop [8] (fun s => ∃ c : Nat, c ≤ 4 ∧ s = .int .i64 c ∧ Hid (∀ j, j < c → i ∉ A j)) (fun s => 4 - (intOf s).toNat)
  case atStart => exact ⟨0, by omega, rfl, Lib.hid (fun j hj => by omega)⟩
  case round =>
    obtain ⟨c, hc, rfl, hnot⟩ := hrel
    by_cases hlt : c < 4
    · have hlt' : decide ((c : Int) < 4) = true := by simp; omega
      have p0 : (0 : Int) ≤ (c : Int) := by omega
      have p1 : (c : Int) < 4 := by omega
      have cc := h.out.c c hlt
      have hln := hl c hlt
      rcases (h.out.own c hlt).cases with ⟨hv, h0⟩ | ⟨g, cap, hv, hle, hm, hg, hown⟩
      · rw [hv] at cc
        have H1 : Hid (∀ j, j < c + 1 → i ∉ A j) := Lib.hid (fun j hj => by
          by_cases e : j = c
          · subst e; rw [h0]; simp
          · exact hnot.out j (by omega))
        clear h0 hv
        go_wp2
        refine wp_loop_rounds 1 ?_
        rw [rounds_succ]
        go_wp2
        go_round
        case rel => exact ⟨c + 1, by omega, by go_num, H1⟩
        case measure => simp [intOf]; omega
      · rw [hv] at cc
        have HO := Lib.hid hown
        obtain ⟨n, hn⟩ : ∃ n, n = (A c).length := ⟨_, rfl⟩
        rw [← hn] at cc hle hln
        have HN := Lib.hid hn
        clear hown hv hn
        go_wp2
        go_loop [18] (fun s => ∃ k : Nat, k ≤ n ∧ s = .int .i64 k ∧ Hid (i ∉ (A c).take k)) (fun s => n - (intOf s).toNat)
        case atStart => exact ⟨0, by omega, rfl, Lib.hid (by simp)⟩
        case round =>
          obtain ⟨k, hk, rfl, hin⟩ := hrel
          by_cases hkn : k < n
          · have hkn' : decide ((k : Int) < n) = true := by simp; omega
            obtain ⟨x, hx⟩ : ∃ x, (A c)[k]? = some x := ⟨(A c)[k]'(by have := HN.out; omega), by simp⟩
            have hcx := row_cell (by rw [← HN.out] at HO; exact HO.out) hx
            have HX := Lib.hid hx
            clear hx
            by_cases he : x = i
            · have e : colorR A i = c := colorR_hit hlt hnot.out (List.mem_of_getElem? (by rw [← he]; exact HX.out))
              have he' : (x == i) = true := by simp [he]
              go_wp2
              go_ret
              exact ⟨by simp, rfl⟩
            · have he' : (x == i) = false := by simp [he]
              go_wp2
              go_round
              case rel => exact ⟨k + 1, by omega, by go_num, Lib.hid (take_step (A c) i x k hin.out HX.out he)⟩
              case measure => simp [intOf]; omega
          · have H1 : Hid (∀ j, j < c + 1 → i ∉ A j) := Lib.hid (fun j hj => by
              by_cases e : j = c
              · subst e
                have h2 := hin.out
                rwa [List.take_of_length_le (by have := HN.out; omega)] at h2
              · exact hnot.out j (by omega))
            have hkn' : decide ((k : Int) < n) = false := by simp; omega
            go_wp2
            go_round
            case rel => exact ⟨c + 1, by omega, by go_num, H1⟩
            case measure => simp [intOf]; omega
    · have hc4 : c = 4 := by omega
      subst hc4
      have e : colorR A i = -1 := colorR_miss hnot.out
      go_wp2
      go_ret
      exact ⟨by simp, rfl⟩
end Wd
end Go.Proofs.YtdaojohdmidemaaGreat
