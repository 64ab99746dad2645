/- An append onto a row of the call's own, at a step of a region that draws: something or nothing is appended. -/
import Derived.Test.YtdfmbeilmbnpiaaRRef
import Derived.Test.YtdfmbeilmbnpiaaRFrom
import Derived.Test.YtdfmbeilmbnpiaaRLast
import Derived.OneCell
import Derived.Maps.AppendAt
import Derived.Deep.AppendLies
import Derived.Deep.RegionHeldLaw
namespace Go.Proofs.Ytdfmbeilmbnpiaa
open Go.RowKit
namespace Wd
theorem keepS {w w' : World} {row : Option Nat} {b : Nat} {x u : Value} (h : w.cell? ⟨b, 0, none⟩ = some x ∧ w.cell? ⟨b, 1, none⟩ = some u ∧ w.frozen? ⟨b, 1, none⟩ = false) (g : w.grownBy w' row) (hne : some b ≠ row) :
    w'.cell? ⟨b, 0, none⟩ = some x ∧ w'.cell? ⟨b, 1, none⟩ = some u ∧ w'.frozen? ⟨b, 1, none⟩ = false :=
  ⟨g.cell h.1 hne, g.cell h.2.1 hne, (g.frozen_far _ (World.block_lt_of_cell? w _ h.2.1) hne).trans h.2.2⟩
theorem ref_stored {w w2 : World} {b : Nat} {N : Int} {X : List Int} {v2 u : Value} (bel : Below w.heap.size w w2) 
    (h : w2.cell? ⟨b, 0, none⟩ = some (.int .i64 N) ∧ w2.cell? ⟨b, 1, none⟩ = some u ∧ w2.frozen? ⟨b, 1, none⟩ = false) (own : SL w2 3 v2 X) (far : ∀ g, g < w.heap.size → v2.ownBlock ≠ some g) (nn : v2 ≠ .slice none 0 0) (hb : b < w.heap.size) :
    RefAt (w2.setCell ⟨b, 1, none⟩ v2) b N X v2 ∧ w.grownBy (w2.setCell ⟨b, 1, none⟩ v2) (some b) ∧ (∀ g, v2.ownBlock = some g → w.heap.size ≤ g) := by
  have far0 := far b hb
  have hlt : b < w2.heap.size := World.block_lt_of_cell? w2 _ h.2.1
  refine ⟨⟨(World.cell?_setCell_other _ _ _ _ (by simp)).trans h.1, World.cell?_setCell_same _ _ _ h.2.1, ?_, ownsRow_setCell_other own far0 _, far0, nn⟩, ?_, fun g hg => Nat.le_of_not_lt (fun h => far g h hg)⟩
  · rw [World.frozen?_setCell]; exact h.2.2
  · refine ⟨bel.os, bel.tape, bel.output, by simpa [World.setCell] using bel.size, fun k hk hne => ?_⟩
    rw [Below.heap_setCell _ _ _ _ (by simpa using hne)]
    exact bel.block k hk
theorem far2 {S T : Nat} {v1 v2 : Value} (hT : S ≤ T) (h1 : v1.ownBlock = some S ∨ v1.ownBlock = some (S + 1)) (h2 : v2.ownBlock = v1.ownBlock ∨ v2.ownBlock = some T) : ∀ b, b < S → v2.ownBlock ≠ some b := by
  intro b hb
  rcases h2 with h2 | h2
  · rw [h2]; rcases h1 with h1 | h1 <;> rw [h1] <;> simp <;> omega
  · rw [h2]; simp; omega
theorem slice_form {w : World} {e : TypeId} {base size n : Nat} {v : Value} {xs : List Value} (h : w.ownsRow base e size v n xs) : ∃ a m c, v = .slice a m c := by
  rcases h.2 with ⟨rfl, _⟩ | ⟨g, cap, cur, rfl, _⟩ <;> exact ⟨_, _, _, rfl⟩
set_option maxHeartbeats 16000000 in
theorem out_c (i : Int) (b : Nat) (N : Int) (L : List Int) (v : Value) (w : World) (h : RefAt w b N L v) (hl : L.length ≤ 8192) :
    Calls Try.prog 20 #[.pointer (some ⟨b, 0, none⟩), .int .i64 i] w fun e w' => e = .returned (.bool (decide (i ∈ L))) ∧ ∃ v', RefAt w' b N (outL L i) v' ∧ w.grownBy w' (some b) ∧ (∀ g, v'.ownBlock = some g → w.heap.size ≤ g ∨ v.ownBlock = some g) := by
  by_cases hi : i ∈ L
  · obtain ⟨k, hk, hlt, hx⟩ := idx_in L i hi
    rcases h.own.cases with ⟨rfl, rfl⟩ | ⟨g, cap, rfl, hle, hm, hg, hown⟩
    · cases hi
    have e1 : outL L i = L.take k ++ L.drop (k + 1) := by unfold outL; rw [if_pos hi, hx]
    have e2 : decide (i ∈ L) = true := by simpa using hi
    have hb := World.block_lt_of_cell? w _ h.l
    have O1 : Hid ((w.alloc (.cells #[] 3)).drew.ownsRow 0 3 1 (.slice (some ⟨w.heap.size, 0, none⟩) 0 0) 0 []) := Lib.hid (World.ownsRow_made w #[] 0 (by omega) (by decide) rfl)
    have V1 : Hid ((w.alloc (.cells #[] 3)).drew.ownsRow 0 3 1 (.slice (some ⟨g, 0, none⟩) L.length cap) L.length (ints L)) := Lib.hid (hown.alloc _)
    replace h := Lib.hid h
    clear hi hown hx
    rw [e1, e2]; clear e1 e2
    obtain ⟨n, hn⟩ : ∃ n, n = L.length := ⟨_, rfl⟩
    rw [← hn] at hlt hle hl
    have HN := Lib.hid hn
    have T1 : Hid ((ints (L.take k)).length = k * 1) := Lib.hid (by rw [ints_len, List.length_take]; omega)
    have D1 : Hid ((ints (L.drop (k + 1))).length = (n - (k + 1)) * 1) := Lib.hid (by rw [ints_len, List.length_drop, hn])
    obtain ⟨A, hA, HA⟩ : ∃ A : Addr, (if cap = k + 1 then some (⟨g, 0, none⟩ : Addr) else some ⟨g, k + 1, none⟩) = some A ∧ Hid (∀ W : World, W.ownsRow 0 3 1 (.slice (some ⟨g, 0, none⟩) L.length cap) L.length (ints L) → ∀ j u, (ints (L.drop (k + 1)))[j]? = some u → W.cell? (A.add j) = some u) := by
      by_cases hc : cap = k + 1
      · refine ⟨⟨g, 0, none⟩, by simp [hc], fun W hW j u hu => ?_⟩
        rw [List.drop_eq_nil_of_le (by omega)] at hu
        simp [ints] at hu
      · exact ⟨⟨g, k + 1, none⟩, by simp [hc], fun W hW => news_at hW (drop_at L (k + 1))⟩
    clear hn
    have hmx : Hid (n ≤ maxLen) := Lib.hid (by omega)
    have hwr : IntKind.i64.wrap ((k : Int) + 1) = (k : Int) + 1 := by rw [IntKind.wrap_i64]; omega
    have q0 : (0 : Int) ≤ (k : Int) := by omega
    have q1 : (k : Int) ≤ (cap : Int) := by omega
    have q2 : (0 : Int) ≤ (k : Int) + 1 := by omega
    have q3 : (k : Int) + 1 ≤ (n : Int) := by omega
    have q4 : ((k : Int) + 1).toNat = k + 1 := by omega
    have q5 : k ≤ cap := by omega
    have q6 : k + 1 ≤ n := by omega
    obtain ⟨i0, hi0, hz0, hz1, hz2⟩ := info_parts info3
    go_enter Try.func20, Try.ntmps20
    go_wp2_with (first | (go_at_call 24; ((with_reducible refine (at_c i b N L _ w h.out (by rw [← HN.out]; exact hl)).mono ?_); rintro e w' ⟨rfl, rfl⟩)))
    refine wp_region_last (d := 19) (fuel := 19) (S := (fun w' => w'.cell? ⟨b, 0, none⟩ = some (.int .i64 N) ∧ w'.cell? ⟨b, 1, none⟩ = some (.slice (some ⟨g, 0, none⟩) n cap) ∧ w'.frozen? ⟨b, 1, none⟩ = false)) (by kernel_rfl) (by kernel_rfl) rfl ?_ (fun hHeld => ?_)
    · (try dsimp only); (first | assumption | exact ⟨h.out.n, by (rw [HN.out]; exact h.out.l), h.out.fr⟩ | exact keepS hHeld hgrow2 (far_of hb (by simpa [Value.ownBlock] using hat1)) | exact keepS hHeld hgrow1 (by simp [Value.ownBlock]; omega) | exact keepS hHeld (World.grownBy_alloc _ _ none) (by simp) | (exact keepS (w := w) ⟨h.out.n, by (rw [HN.out]; exact h.out.l), h.out.fr⟩ (World.grownBy_alloc w _ none) (by simp)))
    refine wpAnyH_take (i := 0) (oi := { dst := some 11, op := Op.move (Operand.tmp 0), type := 38, pos := "ref.go:48", after := #[], guard := none }) (v := ?_) rfl (by kernel_rfl) (by kernel_rfl) (by kernel_rfl) (fun _ _ _ h => h) (Or.inl ⟨by rfl, ?_⟩) (by assumption) ?_
    rotate_left 1
    · intro w hSw; (try dsimp only at hSw); go_simp <;> with_reducible rfl
    try simp only [Act.put, List.setIfInBounds_toArray, List.set_cons_zero, List.set_cons_succ]
    refine wpAnyH_take (i := 2) (oi := { dst := some 13, op := Op.move (Operand.tmp 0), type := 38, pos := "ref.go:48", after := #[], guard := none }) (v := ?_) rfl (by kernel_rfl) (by kernel_rfl) (by kernel_rfl) (fun _ _ _ h => h) (Or.inl ⟨by rfl, ?_⟩) (by assumption) ?_
    rotate_left 1
    · intro w hSw; (try dsimp only at hSw); go_simp <;> with_reducible rfl
    try simp only [Act.put, List.setIfInBounds_toArray, List.set_cons_zero, List.set_cons_succ]
    refine wpAnyH_take (i := 3) (oi := { dst := some 14, op := Op.nilCheck (Operand.tmp 13), type := 0, pos := "ref.go:48", after := #[{ on := 2, ground := Ground.data }], guard := none }) (v := ?_) rfl (by kernel_rfl) (by kernel_rfl) (by kernel_rfl) (fun _ _ _ h => h) (Or.inl ⟨by rfl, ?_⟩) (by assumption) ?_
    rotate_left 1
    · intro w hSw; (try dsimp only at hSw); go_simp <;> with_reducible rfl
    try simp only [Act.put, List.setIfInBounds_toArray, List.set_cons_zero, List.set_cons_succ]
    refine wpAnyH_take (i := 4) (oi := { dst := some 15, op := Op.fieldAddr 45 (Operand.tmp 14) 1, type := 0, pos := "ref.go:48", after := #[{ on := 3, ground := Ground.data }], guard := none }) (v := ?_) rfl (by kernel_rfl) (by kernel_rfl) (by kernel_rfl) (fun _ _ _ h => h) (Or.inl ⟨by rfl, ?_⟩) (by assumption) ?_
    rotate_left 1
    · intro w hSw; (try dsimp only at hSw); go_simp <;> with_reducible rfl
    try simp only [Act.put, List.setIfInBounds_toArray, List.set_cons_zero, List.set_cons_succ]
    refine wpAnyH_take (i := 5) (oi := { dst := some 16, op := Op.load 28 (Operand.tmp 15), type := 28, pos := "ref.go:48", after := #[{ on := 4, ground := Ground.data }], guard := none }) (v := ?_) rfl (by kernel_rfl) (by kernel_rfl) (by kernel_rfl) (fun _ _ _ h => h) (Or.inl ⟨by rfl, ?_⟩) (by assumption) ?_
    rotate_left 1
    · intro w hSw; (try dsimp only at hSw); go_simp <;> with_reducible rfl
    try simp only [Act.put, List.setIfInBounds_toArray, List.set_cons_zero, List.set_cons_succ]
    refine wpAnyH_take (i := 6) (oi := { dst := some 17, op := Op.move (Operand.tmp 5), type := 3, pos := "ref.go:48", after := #[], guard := none }) (v := ?_) rfl (by kernel_rfl) (by kernel_rfl) (by kernel_rfl) (fun _ _ _ h => h) (Or.inl ⟨by rfl, ?_⟩) (by assumption) ?_
    rotate_left 1
    · intro w hSw; (try dsimp only at hSw); go_simp <;> with_reducible rfl
    try simp only [Act.put, List.setIfInBounds_toArray, List.set_cons_zero, List.set_cons_succ]
    refine wpAnyH_take (i := 7) (oi := { dst := some 18, op := Op.slice 28 (Operand.tmp 16) none (some (Operand.tmp 17)) none, type := 28, pos := "ref.go:48", after := #[{ on := 5, ground := Ground.data }, { on := 6, ground := Ground.data }], guard := none }) (v := ?_) rfl (by kernel_rfl) (by kernel_rfl) (by kernel_rfl) (fun _ _ _ h => h) (Or.inl ⟨by rfl, ?_⟩) (by assumption) ?_
    rotate_left 1
    · intro w hSw; (try dsimp only at hSw); go_simp <;> with_reducible rfl
    try simp only [Act.put, List.setIfInBounds_toArray, List.set_cons_zero, List.set_cons_succ]
    refine wpAnyH_take (i := 9) (oi := { dst := some 20, op := Op.move (Operand.tmp 0), type := 38, pos := "ref.go:48", after := #[], guard := none }) (v := ?_) rfl (by kernel_rfl) (by kernel_rfl) (by kernel_rfl) (fun _ _ _ h => h) (Or.inl ⟨by rfl, ?_⟩) (by assumption) ?_
    rotate_left 1
    · intro w hSw; (try dsimp only at hSw); go_simp <;> with_reducible rfl
    try simp only [Act.put, List.setIfInBounds_toArray, List.set_cons_zero, List.set_cons_succ]
    refine wpAnyH_take (i := 10) (oi := { dst := some 21, op := Op.nilCheck (Operand.tmp 20), type := 0, pos := "ref.go:48", after := #[{ on := 9, ground := Ground.data }], guard := none }) (v := ?_) rfl (by kernel_rfl) (by kernel_rfl) (by kernel_rfl) (fun _ _ _ h => h) (Or.inl ⟨by rfl, ?_⟩) (by assumption) ?_
    rotate_left 1
    · intro w hSw; (try dsimp only at hSw); go_simp <;> with_reducible rfl
    try simp only [Act.put, List.setIfInBounds_toArray, List.set_cons_zero, List.set_cons_succ]
    refine wpAnyH_take (i := 11) (oi := { dst := some 22, op := Op.fieldAddr 45 (Operand.tmp 21) 1, type := 0, pos := "ref.go:48", after := #[{ on := 10, ground := Ground.data }], guard := none }) (v := ?_) rfl (by kernel_rfl) (by kernel_rfl) (by kernel_rfl) (fun _ _ _ h => h) (Or.inl ⟨by rfl, ?_⟩) (by assumption) ?_
    rotate_left 1
    · intro w hSw; (try dsimp only at hSw); go_simp <;> with_reducible rfl
    try simp only [Act.put, List.setIfInBounds_toArray, List.set_cons_zero, List.set_cons_succ]
    refine wpAnyH_take (i := 12) (oi := { dst := some 23, op := Op.load 28 (Operand.tmp 22), type := 28, pos := "ref.go:48", after := #[{ on := 11, ground := Ground.data }], guard := none }) (v := ?_) rfl (by kernel_rfl) (by kernel_rfl) (by kernel_rfl) (fun _ _ _ h => h) (Or.inl ⟨by rfl, ?_⟩) (by assumption) ?_
    rotate_left 1
    · intro w hSw; (try dsimp only at hSw); go_simp <;> with_reducible rfl
    try simp only [Act.put, List.setIfInBounds_toArray, List.set_cons_zero, List.set_cons_succ]
    refine wpAnyH_take (i := 13) (oi := { dst := some 24, op := Op.move (Operand.tmp 5), type := 3, pos := "ref.go:48", after := #[], guard := none }) (v := ?_) rfl (by kernel_rfl) (by kernel_rfl) (by kernel_rfl) (fun _ _ _ h => h) (Or.inl ⟨by rfl, ?_⟩) (by assumption) ?_
    rotate_left 1
    · intro w hSw; (try dsimp only at hSw); go_simp <;> with_reducible rfl
    try simp only [Act.put, List.setIfInBounds_toArray, List.set_cons_zero, List.set_cons_succ]
    refine wpAnyH_take (i := 14) (oi := { dst := some 25, op := Op.binOp BinOp.add 3 (Operand.tmp 24) (Operand.const (Value.int IntKind.i64 1)) 3, type := 3, pos := "ref.go:48", after := #[{ on := 13, ground := Ground.data }], guard := none }) (v := ?_) rfl (by kernel_rfl) (by kernel_rfl) (by kernel_rfl) (fun _ _ _ h => h) (Or.inl ⟨by rfl, ?_⟩) (by assumption) ?_
    rotate_left 1
    · intro w hSw; (try dsimp only at hSw); go_simp <;> with_reducible rfl
    try simp only [Act.put, List.setIfInBounds_toArray, List.set_cons_zero, List.set_cons_succ]
    refine wpAnyH_take (i := 15) (oi := { dst := some 26, op := Op.slice 28 (Operand.tmp 23) (some (Operand.tmp 25)) none none, type := 28, pos := "ref.go:48", after := #[{ on := 12, ground := Ground.data }, { on := 14, ground := Ground.data }], guard := none }) (v := ?_) rfl (by kernel_rfl) (by kernel_rfl) (by kernel_rfl) (fun _ _ _ h => h) (Or.inl ⟨by rfl, ?_⟩) (by assumption) ?_
    rotate_left 1
    · intro w hSw; (try dsimp only at hSw); go_simp <;> with_reducible rfl
    try simp only [Act.put, List.setIfInBounds_toArray, List.set_cons_zero, List.set_cons_succ]
    refine wpAnyH_ready (rs := [1]) (by kernel_rfl) (by simp) ?_
    refine AllReadyH.cons (o := { dst := some 12, op := Op.buildSlice 28 0 #[], type := 28, pos := "ref.go:48", after := #[], guard := none }) rfl (fun K hK => ?_) ?_
    · go_simp
      refine hK.out _ _ ?_ ?_
      · (try dsimp only); (first | assumption | exact ⟨h.out.n, by (rw [HN.out]; exact h.out.l), h.out.fr⟩ | exact keepS hHeld hgrow2 (far_of hb (by simpa [Value.ownBlock] using hat1)) | exact keepS hHeld hgrow1 (by simp [Value.ownBlock]; omega) | exact keepS hHeld (World.grownBy_alloc _ _ none) (by simp) | (exact keepS (w := w) ⟨h.out.n, by (rw [HN.out]; exact h.out.l), h.out.fr⟩ (World.grownBy_alloc w _ none) (by simp)))
      clear hK K hHeld; intro hHeld
      try simp only [Act.put, List.setIfInBounds_toArray, List.set_cons_zero, List.set_cons_succ]
      refine wpAnyH_ready (rs := [8]) (by kernel_rfl) (by simp) ?_
      refine AllReadyH.cons (o := { dst := some 19, op := Op.call { callee := Callee.builtin Builtin.append, args := #[Operand.tmp 12, Operand.tmp 18], argTypes := #[28, 28] }, type := 28, pos := "ref.go:48", after := #[{ on := 1, ground := Ground.data }, { on := 7, ground := Ground.data }], guard := none }) rfl (fun K hK => ?_) ?_
      · refine step_append_at rfl (.tmp 12) (.tmp 18) 28 rfl 0 3 i0 (.int .i64 0) 1 8 Try.underlying28 hi0 hz0 hz1 hz2 rfl (by decide) _ 0 [] (by simp [Act.eval]) O1.out ⟨g, 0, none⟩ k cap (ints (L.take k)) (by simp [Act.eval]) T1.out (news_at V1.out (take_at L k)) (ints_one _) (by have := hmx.out; omega) (by omega) (by omega) ?_; intro v1 w1 hown1 hgrow1 hat1 hnn1
        refine hK.out _ _ ?_ ?_
        · (try dsimp only); (first | assumption | exact ⟨h.out.n, by (rw [HN.out]; exact h.out.l), h.out.fr⟩ | exact keepS hHeld hgrow2 (far_of hb (by simpa [Value.ownBlock] using hat1)) | exact keepS hHeld hgrow1 (by simp [Value.ownBlock]; omega) | exact keepS hHeld (World.grownBy_alloc _ _ none) (by simp) | (exact keepS (w := w) ⟨h.out.n, by (rw [HN.out]; exact h.out.l), h.out.fr⟩ (World.grownBy_alloc w _ none) (by simp)))
        clear hK K hHeld; intro hHeld
        try simp only [Act.put, List.setIfInBounds_toArray, List.set_cons_zero, List.set_cons_succ]
        refine wpAnyH_ready (rs := [16]) (by kernel_rfl) (by simp) ?_
        refine AllReadyH.cons (o := { dst := some 27, op := Op.call { callee := Callee.builtin Builtin.append, args := #[Operand.tmp 19, Operand.tmp 26], argTypes := #[28, 28] }, type := 28, pos := "ref.go:48", after := #[{ on := 8, ground := Ground.data }, { on := 15, ground := Ground.data }, { on := 8, ground := Ground.chain }], guard := none }) rfl (fun K hK => ?_) ?_
        · refine step_append_at rfl (.tmp 19) (.tmp 26) 28 rfl 0 3 i0 (.int .i64 0) 1 8 Try.underlying28 hi0 hz0 hz1 hz2 rfl (by decide) v1 _ _ (by simp [Act.eval]) hown1 A (n - (k + 1)) (cap - (k + 1)) (ints (L.drop (k + 1))) (by simp [Act.eval]) D1.out (HA.out _ (V1.out.kept hgrow1 (by simp [Value.ownBlock]; omega))) (ints_one _) (by have := hmx.out; omega) (by omega) (by omega) ?_; intro v2 w2 hown2 hgrow2 hat2 hnn2; obtain ⟨x2, n2, c2, rfl⟩ := slice_form hown2
          refine hK.out _ _ ?_ ?_
          · (try dsimp only); (first | assumption | exact ⟨h.out.n, by (rw [HN.out]; exact h.out.l), h.out.fr⟩ | exact keepS hHeld hgrow2 (far_of hb (by simpa [Value.ownBlock] using hat1)) | exact keepS hHeld hgrow1 (by simp [Value.ownBlock]; omega) | exact keepS hHeld (World.grownBy_alloc _ _ none) (by simp) | (exact keepS (w := w) ⟨h.out.n, by (rw [HN.out]; exact h.out.l), h.out.fr⟩ (World.grownBy_alloc w _ none) (by simp)))
          clear hK K hHeld; intro hHeld
          try simp only [Act.put, List.setIfInBounds_toArray, List.set_cons_zero, List.set_cons_succ]
          refine wpAnyH_ready (rs := [17]) (by kernel_rfl) (by simp) ?_
          refine AllReadyH.cons (o := { dst := some 28, op := Op.nilCheck (Operand.tmp 11), type := 0, pos := "ref.go:48", after := #[{ on := 0, ground := Ground.data }, { on := 0, ground := Ground.phase }, { on := 1, ground := Ground.phase }, { on := 2, ground := Ground.phase }, { on := 3, ground := Ground.phase }, { on := 4, ground := Ground.phase }, { on := 5, ground := Ground.phase }, { on := 6, ground := Ground.phase }, { on := 7, ground := Ground.phase }, { on := 8, ground := Ground.phase }, { on := 9, ground := Ground.phase }, { on := 10, ground := Ground.phase }, { on := 11, ground := Ground.phase }, { on := 12, ground := Ground.phase }, { on := 13, ground := Ground.phase }, { on := 14, ground := Ground.phase }, { on := 15, ground := Ground.phase }, { on := 16, ground := Ground.phase }], guard := none }) rfl (fun K hK => ?_) ?_
          · go_simp
            refine hK.out _ _ ?_ ?_
            · (try dsimp only); (first | assumption | exact ⟨h.out.n, by (rw [HN.out]; exact h.out.l), h.out.fr⟩ | exact keepS hHeld hgrow2 (far_of hb (by simpa [Value.ownBlock] using hat1)) | exact keepS hHeld hgrow1 (by simp [Value.ownBlock]; omega) | exact keepS hHeld (World.grownBy_alloc _ _ none) (by simp) | (exact keepS (w := w) ⟨h.out.n, by (rw [HN.out]; exact h.out.l), h.out.fr⟩ (World.grownBy_alloc w _ none) (by simp)))
            clear hK K hHeld; intro hHeld
            try simp only [Act.put, List.setIfInBounds_toArray, List.set_cons_zero, List.set_cons_succ]
            refine wpAnyH_take (i := 18) (oi := { dst := some 29, op := Op.fieldAddr 45 (Operand.tmp 28) 1, type := 0, pos := "ref.go:48", after := #[{ on := 17, ground := Ground.data }, { on := 0, ground := Ground.phase }, { on := 1, ground := Ground.phase }, { on := 2, ground := Ground.phase }, { on := 3, ground := Ground.phase }, { on := 4, ground := Ground.phase }, { on := 5, ground := Ground.phase }, { on := 6, ground := Ground.phase }, { on := 7, ground := Ground.phase }, { on := 8, ground := Ground.phase }, { on := 9, ground := Ground.phase }, { on := 10, ground := Ground.phase }, { on := 11, ground := Ground.phase }, { on := 12, ground := Ground.phase }, { on := 13, ground := Ground.phase }, { on := 14, ground := Ground.phase }, { on := 15, ground := Ground.phase }, { on := 16, ground := Ground.phase }], guard := none }) (v := ?_) rfl (by kernel_rfl) (by kernel_rfl) (by kernel_rfl) (fun _ _ _ h => h) (Or.inl ⟨by rfl, ?_⟩) (by assumption) ?_
            rotate_left 1
            · intro w hSw; (try dsimp only at hSw); go_simp <;> with_reducible rfl
            try simp only [Act.put, List.setIfInBounds_toArray, List.set_cons_zero, List.set_cons_succ]
            refine last_step (o := { dst := none, op := Op.store 28 (Operand.tmp 29) (Operand.tmp 27), type := 0, pos := "ref.go:48", after := #[{ on := 18, ground := Ground.data }, { on := 16, ground := Ground.data }, { on := 16, ground := Ground.chain }, { on := 0, ground := Ground.phase }, { on := 1, ground := Ground.phase }, { on := 2, ground := Ground.phase }, { on := 3, ground := Ground.phase }, { on := 4, ground := Ground.phase }, { on := 5, ground := Ground.phase }, { on := 6, ground := Ground.phase }, { on := 7, ground := Ground.phase }, { on := 8, ground := Ground.phase }, { on := 9, ground := Ground.phase }, { on := 10, ground := Ground.phase }, { on := 11, ground := Ground.phase }, { on := 12, ground := Ground.phase }, { on := 13, ground := Ground.phase }, { on := 14, ground := Ground.phase }, { on := 15, ground := Ground.phase }, { on := 16, ground := Ground.phase }], guard := none }) rfl (by kernel_rfl) (fun K hK => ?_)
            go_simp
            refine hK.out _ _ ?_
            clear hK K
            try simp only [Act.put, List.setIfInBounds_toArray, List.set_cons_zero, List.set_cons_succ]
            have B2 := app_end (A := L.take k) (B := L.drop (k + 1)) (by have := HN.out; rw [List.length_append, List.length_drop, List.length_take, ← this]; omega) hown2 hgrow1 rfl (by simpa [Value.ownBlock] using hat1) hgrow2
            have F2 := far2 (S := w'.heap.size) (Nat.le_of_lt (by have := hgrow1.size; simp at this; omega)) (by simpa [Value.ownBlock] using hat1) hat2
            have R2 := Lib.hid (ref_stored B2.2 hHeld B2.1 F2 (fun e => by have := (hnn1.1 (hnn2.1 e).1).1; cases this) hb)
            clear B2 F2
            go_wp2
            go_ret
            exact ⟨rfl, _, R2.out.1, R2.out.2.1, fun g hg => Or.inl (R2.out.2.2 g hg)⟩
          exact AllReadyH.nil
        exact AllReadyH.nil
      exact AllReadyH.nil
    exact AllReadyH.nil
  · have e1 : outL L i = L := by simp [outL, hi]
    have e2 : idx L i = -1 := by simp [idx, hi]
    have e3 : decide (i ∈ L) = false := by simpa using hi
    rw [e1, e3]
    go_enter Try.func20, Try.ntmps20
    go_wp2_with (first | (go_at_call 24; ((with_reducible refine (at_c i b N L v w h hl).mono ?_); rintro e w' ⟨rfl, rfl⟩)))
    go_ret
    exact ⟨rfl, _, h, ⟨rfl, rfl, rfl, Nat.le_refl _, fun _ _ _ => rfl⟩, fun g hg => Or.inr hg⟩
end Wd
end Go.Proofs.Ytdfmbeilmbnpiaa
