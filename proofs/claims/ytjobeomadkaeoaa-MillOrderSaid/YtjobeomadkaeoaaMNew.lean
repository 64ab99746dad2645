/- The document's own mill: it is made. -/
import Derived.Test.YtjobeomadkaeoaaMColor
import Derived.StillTailTactics
import Derived.BigRegion
namespace Go.Proofs.Ytjobeomadkaeoaa
open Go.RowKit
namespace Wd
/-- the mill while it is filled -/
structure NMst (w : World) (k : Nat) (v : Value) (wr : World) : Prop where
  ref : RefM wr w.heap.size (upA (fun _ => []) 0 (rng k)) (upV (fun _ => .slice none 0 0) 0 v)
  own : wr.ownsRow w.heap.size 3 1 v k (ints (rng k))
  bel : Below w.heap.size w wr
theorem NMst.next {w wr w1 : World} {k : Nat} {v v1 : Value} {o : Obj} (h : NMst w k v wr) (hown : w1.ownsRow w.heap.size 3 1 v1 (k + 1) (ints (rng (k + 1)))) (hg : (wr.alloc o).grownBy w1 v.ownBlock) (hat : v1.ownBlock = v.ownBlock ∨ v1.ownBlock = some (wr.alloc o).heap.size) :
    NMst w (k + 1) v1 (w1.setCell ⟨w.heap.size, 0, none⟩ v1) := by
  have hb := h.ref.lt.1
  have far0 : v.ownBlock ≠ some w.heap.size := h.ref.apart 0 (by decide)
  have far : v1.ownBlock ≠ some w.heap.size := by
    rcases hat with e | e <;> rw [e]
    · exact far0
    · simp; omega
  have hbl : ∀ g, g < wr.heap.size → some g ≠ v.ownBlock → w1.heap[g]? = wr.heap[g]? := fun g hg1 hne => (hg.block g (by simp; omega) hne).trans (Below.heap_alloc _ _ _ hg1)
  have hbb := hbl w.heap.size hb (fun e => far0 e.symm)
  have b1 : Below w.heap.size w w1 := (h.bel.alloc h.bel.size _).grown hg (by have := h.bel.size; simp; omega) (fun k' hk => (h.own.lt k' hk).1)
  refine ⟨⟨fun j hj => ?_, fun j => ?_, fun j hj => ?_, fun j hj => ?_⟩, ownsRow_setCell_other hown far _, b1.setCell (Nat.le_refl _) _⟩
  · by_cases c : j = 0
    · subst c
      simp only [upV, if_true]
      exact World.cell?_setCell_same _ _ _ ((World.cell?_of_block (a := ⟨w.heap.size, 0, none⟩) hbb).trans (h.ref.c 0 (by decide)))
    · simp only [upV, if_neg c]
      refine (World.cell?_setCell_other _ _ _ _ (by intro e; cases e; exact c rfl)).trans ?_
      have := (World.cell?_of_block (a := ⟨w.heap.size, j, none⟩) hbb).trans (h.ref.c j hj)
      simpa only [upV, if_neg c] using this
  · rw [World.frozen?_setCell]; exact (World.frozen?_of_block (a := ⟨w.heap.size, j, none⟩) hbb).trans (h.ref.z j)
  · by_cases c : j = 0
    · subst c
      simp only [upV, upA, if_true]
      have := ownsRow_setCell_other (own_base hown) far (a := ⟨w.heap.size, 0, none⟩) v1
      unfold SL
      rw [rng_len]
      exact this
    · simp only [upV, upA, if_neg c]
      exact World.ownsRow_nil _ _ _ _
  · by_cases c : j = 0
    · subst c; simp only [upV, if_true]; exact far
    · simp only [upV, if_neg c, Value.ownBlock]; simp
set_option maxHeartbeats 16000000 in
theorem rnewm_c (n : Nat) (h2 : n ≤ 8192) (w : World) :
    Calls Try.prog 20 #[.int .i64 n] w fun e w' => ∃ V, e = .returned (.pointer (some ⟨w.heap.size, 0, none⟩)) ∧ RefM w' w.heap.size (upA (fun _ => []) 0 (rng n)) V ∧ Below w.heap.size w w' ∧ (∀ k g, k < 4 → (V k).ownBlock = some g → w.heap.size ≤ g) := by
  have S0 : NMst w 0 (.slice none 0 0) (w.alloc (.cells #[.slice none 0 0, .slice none 0 0, .slice none 0 0, .slice none 0 0] 53)) := by
    refine ⟨⟨fun k hk => ?_, fun k => by simp, fun k hk => ?_, fun k hk => ?_⟩, World.ownsRow_nil _ _ _ _, (Below.refl _ _).alloc (Nat.le_refl _) _⟩
    · rcases (show k = 0 ∨ k = 1 ∨ k = 2 ∨ k = 3 by omega) with rfl | rfl | rfl | rfl <;> simp [upV]
    · rcases (show k = 0 ∨ k = 1 ∨ k = 2 ∨ k = 3 by omega) with rfl | rfl | rfl | rfl <;> exact World.ownsRow_nil _ _ _ _
    · rcases (show k = 0 ∨ k = 1 ∨ k = 2 ∨ k = 3 by omega) with rfl | rfl | rfl | rfl <;> simp [upV, Value.ownBlock]
  replace S0 := Lib.hid S0
  go_enter Try.func20, Try.ntmps20
  go_wp2
  go_loopw [4] (fun i wr => ∃ k : Nat, k ≤ n ∧ i = .int .i64 k ∧ ∃ v, NMst w k v wr) (fun i _ => n - (intOf i).toNat)
  case atStart => exact ⟨0, by omega, rfl, _, S0.out⟩
  case round =>
    obtain ⟨k, hk, rfl, v, hR⟩ := hrel
    by_cases hlt : k < n
    · have hlt' : decide ((k : Int) < (n : Int)) = true := by simp; omega
      have hcv : wr.drew.cell? ⟨w.heap.size, 0, none⟩ = some v := hR.ref.c 0 (by decide)
      have hfz : wr.drew.frozen? ⟨w.heap.size, 0, none⟩ = false := hR.ref.z 0
      have far1 : some w.heap.size ≠ v.ownBlock := fun e => hR.ref.apart 0 (by decide) e.symm
      have KA : (wr.alloc (.cells #[.int .i64 k] 3)).drew.cell? ⟨w.heap.size, 0, none⟩ = some v ∧ (wr.alloc (.cells #[.int .i64 k] 3)).drew.frozen? ⟨w.heap.size, 0, none⟩ = false := by
        have ga := World.grownBy_alloc wr (.cells #[.int .i64 k] 3) none
        exact ⟨ga.cell hcv (by simp), (ga.frozen_far _ hR.ref.lt.1 (by simp)).trans hfz⟩
      obtain ⟨a9, n9, c9, rfl⟩ := slice_form hR.own
      replace hR := Lib.hid hR
      go_wp2
      refine wp_region_last (d := 12) (fuel := 12) (S := (fun w' => w'.cell? ⟨w.heap.size, 0, none⟩ = some (.slice a9 n9 c9) ∧ w'.frozen? ⟨w.heap.size, 0, none⟩ = false)) (by kernel_rfl) (by kernel_rfl) rfl ?_ (fun hHeld => ?_)
      · (try dsimp only); (first | exact ⟨hcv, hfz⟩ | exact ⟨hgrow1.cell hHeld.1 far1, (hgrow1.frozen_far _ (World.block_lt_of_cell? _ _ hHeld.1) far1).trans hHeld.2⟩ | exact KA)
      try simp only [Act.put, List.setIfInBounds_toArray, List.set_cons_zero, List.set_cons_succ]
      refine wpAnyH_take (i := 0) (oi := { dst := some 12, op := Op.move (Operand.tmp 3), type := 41, pos := "ref.go:87", after := #[], guard := none }) (v := ?_) rfl (by kernel_rfl) (by kernel_rfl) (by kernel_rfl) (fun _ _ _ h => h) (Or.inl ⟨by rfl, ?_⟩) (by assumption) ?_
      rotate_left 1
      · intro w hSw; (try dsimp only at hSw); go_simp <;> with_reducible rfl
      try simp only [Act.put, List.setIfInBounds_toArray, List.set_cons_zero, List.set_cons_succ]
      refine wpAnyH_take (i := 1) (oi := { dst := some 13, op := Op.move (Operand.tmp 3), type := 41, pos := "ref.go:87", after := #[], guard := none }) (v := ?_) rfl (by kernel_rfl) (by kernel_rfl) (by kernel_rfl) (fun _ _ _ h => h) (Or.inl ⟨by rfl, ?_⟩) (by assumption) ?_
      rotate_left 1
      · intro w hSw; (try dsimp only at hSw); go_simp <;> with_reducible rfl
      try simp only [Act.put, List.setIfInBounds_toArray, List.set_cons_zero, List.set_cons_succ]
      refine wpAnyH_take (i := 2) (oi := { dst := some 14, op := Op.nilCheck (Operand.tmp 13), type := 0, pos := "ref.go:87", after := #[{ on := 1, ground := Ground.data }], guard := none }) (v := ?_) rfl (by kernel_rfl) (by kernel_rfl) (by kernel_rfl) (fun _ _ _ h => h) (Or.inl ⟨by rfl, ?_⟩) (by assumption) ?_
      rotate_left 1
      · intro w hSw; (try dsimp only at hSw); go_simp <;> with_reducible rfl
      try simp only [Act.put, List.setIfInBounds_toArray, List.set_cons_zero, List.set_cons_succ]
      refine wpAnyH_take (i := 3) (oi := { dst := some 15, op := Op.fieldAddr 53 (Operand.tmp 14) 0, type := 0, pos := "ref.go:87", after := #[{ on := 2, ground := Ground.data }], guard := none }) (v := ?_) rfl (by kernel_rfl) (by kernel_rfl) (by kernel_rfl) (fun _ _ _ h => h) (Or.inl ⟨by rfl, ?_⟩) (by assumption) ?_
      rotate_left 1
      · intro w hSw; (try dsimp only at hSw); go_simp <;> with_reducible rfl
      try simp only [Act.put, List.setIfInBounds_toArray, List.set_cons_zero, List.set_cons_succ]
      refine wpAnyH_take (i := 4) (oi := { dst := some 16, op := Op.indexAddr 51 (Operand.tmp 15) (Operand.const (Value.int IntKind.i64 0)), type := 0, pos := "ref.go:87", after := #[{ on := 3, ground := Ground.data }], guard := none }) (v := ?_) rfl (by kernel_rfl) (by kernel_rfl) (by kernel_rfl) (fun _ _ _ h => h) (Or.inl ⟨by rfl, ?_⟩) (by assumption) ?_
      rotate_left 1
      · intro w hSw; (try dsimp only at hSw); go_simp <;> with_reducible rfl
      try simp only [Act.put, List.setIfInBounds_toArray, List.set_cons_zero, List.set_cons_succ]
      refine wpAnyH_take (i := 5) (oi := { dst := some 17, op := Op.load 33 (Operand.tmp 16), type := 33, pos := "ref.go:87", after := #[{ on := 4, ground := Ground.data }], guard := none }) (v := ?_) rfl (by kernel_rfl) (by kernel_rfl) (by kernel_rfl) (fun _ _ _ h => h) (Or.inl ⟨by rfl, ?_⟩) (by assumption) ?_
      rotate_left 1
      · intro w hSw; (try dsimp only at hSw); go_simp <;> with_reducible rfl
      try simp only [Act.put, List.setIfInBounds_toArray, List.set_cons_zero, List.set_cons_succ]
      refine wpAnyH_take (i := 6) (oi := { dst := some 18, op := Op.move (Operand.tmp 4), type := 3, pos := "ref.go:87", after := #[], guard := none }) (v := ?_) rfl (by kernel_rfl) (by kernel_rfl) (by kernel_rfl) (fun _ _ _ h => h) (Or.inl ⟨by rfl, ?_⟩) (by assumption) ?_
      rotate_left 1
      · intro w hSw; (try dsimp only at hSw); go_simp <;> with_reducible rfl
      try simp only [Act.put, List.setIfInBounds_toArray, List.set_cons_zero, List.set_cons_succ]
      refine wpAnyH_take (i := 9) (oi := { dst := some 21, op := Op.nilCheck (Operand.tmp 12), type := 0, pos := "ref.go:87", after := #[{ on := 0, ground := Ground.data }], guard := none }) (v := ?_) rfl (by kernel_rfl) (by kernel_rfl) (by kernel_rfl) (fun _ _ _ h => h) (Or.inl ⟨by rfl, ?_⟩) (by assumption) ?_
      rotate_left 1
      · intro w hSw; (try dsimp only at hSw); go_simp <;> with_reducible rfl
      try simp only [Act.put, List.setIfInBounds_toArray, List.set_cons_zero, List.set_cons_succ]
      refine wpAnyH_take (i := 10) (oi := { dst := some 22, op := Op.fieldAddr 53 (Operand.tmp 21) 0, type := 0, pos := "ref.go:87", after := #[{ on := 9, ground := Ground.data }], guard := none }) (v := ?_) rfl (by kernel_rfl) (by kernel_rfl) (by kernel_rfl) (fun _ _ _ h => h) (Or.inl ⟨by rfl, ?_⟩) (by assumption) ?_
      rotate_left 1
      · intro w hSw; (try dsimp only at hSw); go_simp <;> with_reducible rfl
      try simp only [Act.put, List.setIfInBounds_toArray, List.set_cons_zero, List.set_cons_succ]
      refine wpAnyH_ready (rs := [7]) (by kernel_rfl) (by simp) ?_
      refine AllReadyH.cons (o := { dst := some 19, op := Op.buildSlice 33 1 #[(0, Operand.tmp 18)], type := 33, pos := "ref.go:87", after := #[{ on := 6, ground := Ground.data }], guard := none }) rfl (fun K hK => ?_) ?_
      · go_simp
        refine hK.out _ _ ?_ ?_
        · (try dsimp only); (first | exact ⟨hcv, hfz⟩ | exact ⟨hgrow1.cell hHeld.1 far1, (hgrow1.frozen_far _ (World.block_lt_of_cell? _ _ hHeld.1) far1).trans hHeld.2⟩ | exact KA)
        clear hK K hHeld; intro hHeld
        try simp only [Act.put, List.setIfInBounds_toArray, List.set_cons_zero, List.set_cons_succ]
        refine wpAnyH_ready (rs := [8]) (by kernel_rfl) (by simp) ?_
        refine AllReadyH.cons (o := { dst := some 20, op := Op.call { callee := Callee.builtin Builtin.append, args := #[Operand.tmp 17, Operand.tmp 19], argTypes := #[33, 33] }, type := 33, pos := "ref.go:87", after := #[{ on := 5, ground := Ground.data }, { on := 7, ground := Ground.data }], guard := none }) rfl (fun K hK => ?_) ?_
        · refine step_app rfl (.tmp 17) (.tmp 19) rfl w.heap.size k (.slice a9 n9 c9) _ (rng k) [(k : Int)] rfl rfl (hR.out.own.alloc _) (Reads.one ((World.cell?_alloc_new _ _ _ 0).trans rfl)) (by rw [List.length_singleton]; omega) (by have := hR.out.bel.size; simp; omega) ?_; intro v1 w1 hown1 hgrow1 hat1; rw [List.length_singleton, ← rng_succ] at hown1; obtain ⟨x1, n1, c1, rfl⟩ := slice_form hown1
          refine hK.out _ _ ?_ ?_
          · (try dsimp only); (first | exact ⟨hcv, hfz⟩ | exact ⟨hgrow1.cell hHeld.1 far1, (hgrow1.frozen_far _ (World.block_lt_of_cell? _ _ hHeld.1) far1).trans hHeld.2⟩ | exact KA)
          clear hK K hHeld; intro hHeld
          try simp only [Act.put, List.setIfInBounds_toArray, List.set_cons_zero, List.set_cons_succ]
          refine wpAnyH_take (i := 11) (oi := { dst := some 23, op := Op.indexAddr 51 (Operand.tmp 22) (Operand.const (Value.int IntKind.i64 0)), type := 0, pos := "ref.go:87", after := #[{ on := 10, ground := Ground.data }, { on := 0, ground := Ground.phase }, { on := 1, ground := Ground.phase }, { on := 2, ground := Ground.phase }, { on := 3, ground := Ground.phase }, { on := 4, ground := Ground.phase }, { on := 5, ground := Ground.phase }, { on := 6, ground := Ground.phase }, { on := 7, ground := Ground.phase }, { on := 8, ground := Ground.phase }], guard := none }) (v := ?_) rfl (by kernel_rfl) (by kernel_rfl) (by kernel_rfl) (fun _ _ _ h => h) (Or.inl ⟨by rfl, ?_⟩) (by assumption) ?_
          rotate_left 1
          · intro w hSw; (try dsimp only at hSw); go_simp <;> with_reducible rfl
          try simp only [Act.put, List.setIfInBounds_toArray, List.set_cons_zero, List.set_cons_succ]
          refine last_step (o := { dst := none, op := Op.store 33 (Operand.tmp 23) (Operand.tmp 20), type := 0, pos := "ref.go:87", after := #[{ on := 11, ground := Ground.data }, { on := 8, ground := Ground.data }, { on := 8, ground := Ground.chain }, { on := 0, ground := Ground.phase }, { on := 1, ground := Ground.phase }, { on := 2, ground := Ground.phase }, { on := 3, ground := Ground.phase }, { on := 4, ground := Ground.phase }, { on := 5, ground := Ground.phase }, { on := 6, ground := Ground.phase }, { on := 7, ground := Ground.phase }, { on := 8, ground := Ground.phase }], guard := none }) rfl (by kernel_rfl) (fun K hK => ?_)
          go_simp
          refine hK.out _ _ ?_
          clear hK K
          try simp only [Act.put, List.setIfInBounds_toArray, List.set_cons_zero, List.set_cons_succ]
          have R1 := hR.out.next (o := .cells #[.int .i64 k] 3) hown1 ⟨hgrow1.os, hgrow1.tape, hgrow1.output, hgrow1.size, hgrow1.block⟩ hat1
          replace R1 := Lib.hid R1
          go_wp2
          go_roundw
          case rel => exact ⟨k + 1, by omega, by go_num, _, R1.out⟩
          case measure => simp [intOf]; omega
        exact AllReadyH.nil
      exact AllReadyH.nil
    · have e : k = n := by omega
      subst e
      have hlt' : decide ((k : Int) < (k : Int)) = false := by simp
      replace hR := Lib.hid hR
      go_wp2
      go_ret
      refine ⟨_, rfl, hR.out.ref, hR.out.bel, fun j g hj hg => ?_⟩
      unfold upV at hg
      split at hg
      · exact (hR.out.own.lt g hg).1
      · cases hg
end Wd
end Go.Proofs.Ytjobeomadkaeoaa
