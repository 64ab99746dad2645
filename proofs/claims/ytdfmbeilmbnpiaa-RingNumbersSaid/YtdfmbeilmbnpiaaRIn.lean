/- An append onto a row of the call's own, at a step of a region that draws: something or nothing is appended. -/
import Derived.Test.YtdfmbeilmbnpiaaRRef
import Derived.Test.YtdfmbeilmbnpiaaRFrom
import Derived.Test.YtdfmbeilmbnpiaaROut
import Derived.Test.YtdfmbeilmbnpiaaRLast
import Derived.OneCell
import Derived.Maps.AppendAt
import Derived.Deep.AppendLies
import Derived.Deep.RegionHeldLaw
namespace Go.Proofs.Ytdfmbeilmbnpiaa
open Go.RowKit
namespace Wd
/-- three appends onto a row of the call's own, with blocks made between -/
theorem grow3 {w W0 w1 W1 w2 w3 : World} {row : Option Nat} {r : Nat} {v1 v2 v3 : Value} (b0 : Below w.heap.size w W0) (g1 : W0.grownBy w1 row) (hrow : row = some r) (hr : w.heap.size ≤ r)
    (h1 : v1.ownBlock = row ∨ v1.ownBlock = some W0.heap.size) (m1 : Below w1.heap.size w1 W1) (g2 : W1.grownBy w2 v1.ownBlock) (h2 : v2.ownBlock = v1.ownBlock ∨ v2.ownBlock = some W1.heap.size)
    (g3 : w2.grownBy w3 v2.ownBlock) (h3 : v3.ownBlock = v2.ownBlock ∨ v3.ownBlock = some w2.heap.size) :
    Below w.heap.size w w1 ∧ Below w.heap.size w w2 ∧ Below w.heap.size w w3 ∧ ∀ b, b < w.heap.size → some b ≠ row ∧ some b ≠ v1.ownBlock ∧ some b ≠ v2.ownBlock ∧ some b ≠ v3.ownBlock := by
  have s0 := b0.size
  have r1 : ∀ k, row = some k → w.heap.size ≤ k := fun k hk => by rw [hrow] at hk; cases hk; exact hr
  have b1 := b0.grown g1 s0 r1
  have s1 := b1.size
  have B1 : Below w.heap.size w W1 := b1.trans (m1.mono s1)
  have r2 : ∀ k, v1.ownBlock = some k → w.heap.size ≤ k := fun k hk => by
    rcases h1 with h | h <;> rw [h] at hk
    · exact r1 k hk
    · cases hk; exact s0
  have b2 := B1.grown g2 B1.size r2
  have r3 : ∀ k, v2.ownBlock = some k → w.heap.size ≤ k := fun k hk => by
    rcases h2 with h | h <;> rw [h] at hk
    · exact r2 k hk
    · cases hk; exact B1.size
  have b3 := b2.grown g3 b2.size r3
  have r4 : ∀ k, v3.ownBlock = some k → w.heap.size ≤ k := fun k hk => by
    rcases h3 with h | h <;> rw [h] at hk
    · exact r3 k hk
    · cases hk; exact b2.size
  exact ⟨b1, b2, b3, fun b hb => ⟨fun e => by have := r1 b e.symm; omega, fun e => by have := r2 b e.symm; omega, fun e => by have := r3 b e.symm; omega, fun e => by have := r4 b e.symm; omega⟩⟩
theorem one_at {w : World} {g : Nat} {i : Int} (h : w.cell? ⟨g, 0, none⟩ = some (.int .i64 i)) : ∀ j u, (ints [i])[j]? = some u → w.cell? ((⟨g, 0, none⟩ : Addr).add j) = some u := by
  intro j u hu
  match j, hu with
  | 0, hu =>
    simp [ints] at hu; subst hu
    rw [Addr.add_lit]; exact h
theorem farb1 {b r T : Nat} {row : Option Nat} {v1 : Value} (h1 : v1.ownBlock = row ∨ v1.ownBlock = some T) (hrow : row = some r) (hr : b < r) (hT : b < T) : some b ≠ v1.ownBlock := by
  rcases h1 with h | h <;> rw [h]
  · rw [hrow]; simp; omega
  · simp; omega
theorem farb2 {b T : Nat} {v1 v2 : Value} (h2 : v2.ownBlock = v1.ownBlock ∨ v2.ownBlock = some T) (h1 : some b ≠ v1.ownBlock) (hT : b < T) : some b ≠ v2.ownBlock := by
  rcases h2 with h | h <;> rw [h]
  · exact h1
  · simp; omega
theorem own_in {w : World} {e : TypeId} {v : Value} {A B : List Int} {i : Int} {m : Nat} (hm : m = (A ++ [i] ++ B).length) (h : w.ownsRow 0 e 1 v m ((([] ++ ints A) ++ ints [i]) ++ ints B)) : SL w e v (A ++ [i] ++ B) := by
  subst hm
  simpa [SL, ints] using h
set_option maxHeartbeats 16000000 in
set_option maxRecDepth 100000 in
theorem in_yes (i a : Int) (b : Nat) (N : Int) (L : List Int) (v : Value) (w : World) (h : RefAt w b N L v) (hl : L.length ≤ 8192) (k : Nat) (hk : k ≤ L.length)
    (iz : 0 ≤ i) (iN : i < N) (hi : idx L i = -1) (ha : idx L a = k) :
    Calls Try.prog 19 #[.pointer (some ⟨b, 0, none⟩), .int .i64 i, .int .i64 a] w fun e w' => e = .returned (.bool true) ∧ ∃ v', RefAt w' b N (L.take k ++ [i] ++ L.drop k) v' ∧ w.grownBy w' (some b) ∧ (∀ g, v'.ownBlock = some g → w.heap.size ≤ g) := by
  have hb := World.block_lt_of_cell? w _ h.l
  rcases h.own.cases with ⟨rfl, rfl⟩ | ⟨g, cap, rfl, hle, hm, hg, hown⟩
  · exact absurd rfl h.nn
  have hn0 := h.n
  have O1 : Hid ((w.alloc (.cells #[] 3)).drew.ownsRow 0 3 1 (.slice (some ⟨w.heap.size, 0, none⟩) 0 0) 0 []) := Lib.hid (World.ownsRow_made w #[] 0 (by omega) (by decide) rfl)
  have O2 : Hid (((w.alloc (.cells #[] 3)).alloc (.cells #[.int .i64 i] 3)).drew.ownsRow 0 3 1 (.slice (some ⟨w.heap.size, 0, none⟩) 0 0) 0 []) := Lib.hid ((World.ownsRow_made w #[] 0 (by omega) (by decide) rfl).alloc _)
  have O3 : Hid (((w.alloc (.cells #[.int .i64 i] 3)).alloc (.cells #[] 3)).drew.ownsRow 0 3 1 (.slice (some ⟨w.heap.size + 1, 0, none⟩) 0 0) 0 []) := Lib.hid (World.ownsRow.drew (by have := World.ownsRow_made (base := 0) (e := 3) (size := 1) (w.alloc (.cells #[.int .i64 i] 3)) #[] 0 (by omega) (by decide) rfl; simpa using this))
  have V1 : Hid ((w.alloc (.cells #[] 3)).drew.ownsRow 0 3 1 (.slice (some ⟨g, 0, none⟩) L.length cap) L.length (ints L)) := Lib.hid (hown.alloc _)
  have V2 : Hid (((w.alloc (.cells #[] 3)).alloc (.cells #[.int .i64 i] 3)).drew.ownsRow 0 3 1 (.slice (some ⟨g, 0, none⟩) L.length cap) L.length (ints L)) := Lib.hid ((hown.alloc _).alloc _)
  have V3 : Hid (((w.alloc (.cells #[.int .i64 i] 3)).alloc (.cells #[] 3)).drew.ownsRow 0 3 1 (.slice (some ⟨g, 0, none⟩) L.length cap) L.length (ints L)) := Lib.hid ((hown.alloc _).alloc _)
  have C2 : Hid (((w.alloc (.cells #[] 3)).alloc (.cells #[.int .i64 i] 3)).drew.cell? ⟨w.heap.size + 1, 0, none⟩ = some (.int .i64 i)) := Lib.hid (by go_simp)
  have C3 : Hid (((w.alloc (.cells #[.int .i64 i] 3)).alloc (.cells #[] 3)).drew.cell? ⟨w.heap.size, 0, none⟩ = some (.int .i64 i)) := Lib.hid (by go_simp)
  have HL := Lib.hid hl
  replace h := Lib.hid h
  obtain ⟨n, hn⟩ : ∃ n, n = L.length := ⟨_, rfl⟩
  rw [← hn] at hle hl
  have hkn : k ≤ n := by omega
  have HN := Lib.hid hn
  have hL : w.cell? ⟨b, 1, none⟩ = some (.slice (some ⟨g, 0, none⟩) n cap) := by rw [hn]; exact h.out.l
  have T1 : Hid ((ints (L.take k)).length = k * 1) := Lib.hid (by rw [ints_len, List.length_take]; omega)
  have D1 : Hid ((ints (L.drop k)).length = (n - k) * 1) := Lib.hid (by rw [ints_len, List.length_drop, hn])
  obtain ⟨A, hA, HA⟩ : ∃ A : Addr, (if cap = k then some (⟨g, 0, none⟩ : Addr) else some ⟨g, k, none⟩) = some A ∧ Hid (∀ W : World, W.ownsRow 0 3 1 (.slice (some ⟨g, 0, none⟩) L.length cap) L.length (ints L) → ∀ j u, (ints (L.drop k))[j]? = some u → W.cell? (A.add j) = some u) := by
    by_cases hc : cap = k
    · refine ⟨⟨g, 0, none⟩, by simp [hc], fun W hW j u hu => ?_⟩
      rw [List.drop_eq_nil_of_le (by omega)] at hu
      simp [ints] at hu
    · exact ⟨⟨g, k, none⟩, by simp [hc], fun W hW => news_at hW (drop_at L k)⟩
  clear hn hown
  have hmx : Hid (n + 2 ≤ maxLen) := Lib.hid (by have h8 : 8194 ≤ maxLen := (by decide); omega)
  have q0 : (0 : Int) ≤ (k : Int) := by omega
  have q1 : (k : Int) ≤ (cap : Int) := by omega
  have q3 : (k : Int) ≤ (n : Int) := by omega
  have q5 : k ≤ cap := by omega
  obtain ⟨i0, hi0, hz0, hz1, hz2⟩ := info_parts info3
  go_enter Try.func19, Try.ntmps19
  go_wp2_with (first | (go_at_call 24; ((with_reducible refine (at_c _ b N L _ _ h.out HL.out).mono ?_); rintro e w ⟨rfl, rfl⟩)))
  refine wp_region_last (d := 21) (fuel := 21) (S := (fun w' => w'.cell? ⟨b, 0, none⟩ = some (.int .i64 N) ∧ w'.cell? ⟨b, 1, none⟩ = some (.slice (some ⟨g, 0, none⟩) n cap) ∧ w'.frozen? ⟨b, 1, none⟩ = false)) (by kernel_rfl) (by kernel_rfl) rfl ?_ (fun hHeld => ?_)
  · (try dsimp only); exact ⟨h.out.n, by (rw [HN.out]; exact h.out.l), h.out.fr⟩
  refine wpAnyH_take (i := 0) (oi := { dst := some 43, op := Op.move (Operand.tmp 0), type := 38, pos := "ref.go:61", after := #[], guard := none }) (v := ?_) rfl (by kernel_rfl) (by kernel_rfl) (by kernel_rfl) (fun _ _ _ h => h) (Or.inl ⟨by rfl, ?_⟩) (by assumption) ?_
  rotate_left 1
  · intro w hSw; (try dsimp only at hSw); go_simp <;> with_reducible rfl
  try simp only [Act.put, List.setIfInBounds_toArray, List.set_cons_zero, List.set_cons_succ]
  refine wpAnyH_take (i := 2) (oi := { dst := some 45, op := Op.move (Operand.tmp 0), type := 38, pos := "ref.go:61", after := #[], guard := none }) (v := ?_) rfl (by kernel_rfl) (by kernel_rfl) (by kernel_rfl) (fun _ _ _ h => h) (Or.inl ⟨by rfl, ?_⟩) (by assumption) ?_
  rotate_left 1
  · intro w hSw; (try dsimp only at hSw); go_simp <;> with_reducible rfl
  try simp only [Act.put, List.setIfInBounds_toArray, List.set_cons_zero, List.set_cons_succ]
  refine wpAnyH_take (i := 3) (oi := { dst := some 46, op := Op.nilCheck (Operand.tmp 45), type := 0, pos := "ref.go:61", after := #[{ on := 2, ground := Ground.data }], guard := none }) (v := ?_) rfl (by kernel_rfl) (by kernel_rfl) (by kernel_rfl) (fun _ _ _ h => h) (Or.inl ⟨by rfl, ?_⟩) (by assumption) ?_
  rotate_left 1
  · intro w hSw; (try dsimp only at hSw); go_simp <;> with_reducible rfl
  try simp only [Act.put, List.setIfInBounds_toArray, List.set_cons_zero, List.set_cons_succ]
  refine wpAnyH_take (i := 4) (oi := { dst := some 47, op := Op.fieldAddr 45 (Operand.tmp 46) 1, type := 0, pos := "ref.go:61", after := #[{ on := 3, ground := Ground.data }], guard := none }) (v := ?_) rfl (by kernel_rfl) (by kernel_rfl) (by kernel_rfl) (fun _ _ _ h => h) (Or.inl ⟨by rfl, ?_⟩) (by assumption) ?_
  rotate_left 1
  · intro w hSw; (try dsimp only at hSw); go_simp <;> with_reducible rfl
  try simp only [Act.put, List.setIfInBounds_toArray, List.set_cons_zero, List.set_cons_succ]
  refine wpAnyH_take (i := 5) (oi := { dst := some 48, op := Op.load 28 (Operand.tmp 47), type := 28, pos := "ref.go:61", after := #[{ on := 4, ground := Ground.data }], guard := none }) (v := ?_) rfl (by kernel_rfl) (by kernel_rfl) (by kernel_rfl) (fun _ _ _ h => h) (Or.inl ⟨by rfl, ?_⟩) (by assumption) ?_
  rotate_left 1
  · intro w hSw; (try dsimp only at hSw); go_simp <;> with_reducible rfl
  try simp only [Act.put, List.setIfInBounds_toArray, List.set_cons_zero, List.set_cons_succ]
  refine wpAnyH_take (i := 6) (oi := { dst := some 49, op := Op.move (Operand.tmp 7), type := 3, pos := "ref.go:61", after := #[], guard := none }) (v := ?_) rfl (by kernel_rfl) (by kernel_rfl) (by kernel_rfl) (fun _ _ _ h => h) (Or.inl ⟨by rfl, ?_⟩) (by assumption) ?_
  rotate_left 1
  · intro w hSw; (try dsimp only at hSw); go_simp <;> with_reducible rfl
  try simp only [Act.put, List.setIfInBounds_toArray, List.set_cons_zero, List.set_cons_succ]
  refine wpAnyH_take (i := 7) (oi := { dst := some 50, op := Op.slice 28 (Operand.tmp 48) none (some (Operand.tmp 49)) none, type := 28, pos := "ref.go:61", after := #[{ on := 5, ground := Ground.data }, { on := 6, ground := Ground.data }], guard := none }) (v := ?_) rfl (by kernel_rfl) (by kernel_rfl) (by kernel_rfl) (fun _ _ _ h => h) (Or.inl ⟨by rfl, ?_⟩) (by assumption) ?_
  rotate_left 1
  · intro w hSw; (try dsimp only at hSw); go_simp <;> with_reducible rfl
  try simp only [Act.put, List.setIfInBounds_toArray, List.set_cons_zero, List.set_cons_succ]
  refine wpAnyH_take (i := 9) (oi := { dst := some 52, op := Op.move (Operand.tmp 1), type := 3, pos := "ref.go:61", after := #[], guard := none }) (v := ?_) rfl (by kernel_rfl) (by kernel_rfl) (by kernel_rfl) (fun _ _ _ h => h) (Or.inl ⟨by rfl, ?_⟩) (by assumption) ?_
  rotate_left 1
  · intro w hSw; (try dsimp only at hSw); go_simp <;> with_reducible rfl
  try simp only [Act.put, List.setIfInBounds_toArray, List.set_cons_zero, List.set_cons_succ]
  refine wpAnyH_take (i := 12) (oi := { dst := some 55, op := Op.move (Operand.tmp 0), type := 38, pos := "ref.go:61", after := #[], guard := none }) (v := ?_) rfl (by kernel_rfl) (by kernel_rfl) (by kernel_rfl) (fun _ _ _ h => h) (Or.inl ⟨by rfl, ?_⟩) (by assumption) ?_
  rotate_left 1
  · intro w hSw; (try dsimp only at hSw); go_simp <;> with_reducible rfl
  try simp only [Act.put, List.setIfInBounds_toArray, List.set_cons_zero, List.set_cons_succ]
  refine wpAnyH_take (i := 13) (oi := { dst := some 56, op := Op.nilCheck (Operand.tmp 55), type := 0, pos := "ref.go:61", after := #[{ on := 12, ground := Ground.data }], guard := none }) (v := ?_) rfl (by kernel_rfl) (by kernel_rfl) (by kernel_rfl) (fun _ _ _ h => h) (Or.inl ⟨by rfl, ?_⟩) (by assumption) ?_
  rotate_left 1
  · intro w hSw; (try dsimp only at hSw); go_simp <;> with_reducible rfl
  try simp only [Act.put, List.setIfInBounds_toArray, List.set_cons_zero, List.set_cons_succ]
  refine wpAnyH_take (i := 14) (oi := { dst := some 57, op := Op.fieldAddr 45 (Operand.tmp 56) 1, type := 0, pos := "ref.go:61", after := #[{ on := 13, ground := Ground.data }], guard := none }) (v := ?_) rfl (by kernel_rfl) (by kernel_rfl) (by kernel_rfl) (fun _ _ _ h => h) (Or.inl ⟨by rfl, ?_⟩) (by assumption) ?_
  rotate_left 1
  · intro w hSw; (try dsimp only at hSw); go_simp <;> with_reducible rfl
  try simp only [Act.put, List.setIfInBounds_toArray, List.set_cons_zero, List.set_cons_succ]
  refine wpAnyH_take (i := 15) (oi := { dst := some 58, op := Op.load 28 (Operand.tmp 57), type := 28, pos := "ref.go:61", after := #[{ on := 14, ground := Ground.data }], guard := none }) (v := ?_) rfl (by kernel_rfl) (by kernel_rfl) (by kernel_rfl) (fun _ _ _ h => h) (Or.inl ⟨by rfl, ?_⟩) (by assumption) ?_
  rotate_left 1
  · intro w hSw; (try dsimp only at hSw); go_simp <;> with_reducible rfl
  try simp only [Act.put, List.setIfInBounds_toArray, List.set_cons_zero, List.set_cons_succ]
  refine wpAnyH_take (i := 16) (oi := { dst := some 59, op := Op.move (Operand.tmp 7), type := 3, pos := "ref.go:61", after := #[], guard := none }) (v := ?_) rfl (by kernel_rfl) (by kernel_rfl) (by kernel_rfl) (fun _ _ _ h => h) (Or.inl ⟨by rfl, ?_⟩) (by assumption) ?_
  rotate_left 1
  · intro w hSw; (try dsimp only at hSw); go_simp <;> with_reducible rfl
  try simp only [Act.put, List.setIfInBounds_toArray, List.set_cons_zero, List.set_cons_succ]
  refine wpAnyH_take (i := 17) (oi := { dst := some 60, op := Op.slice 28 (Operand.tmp 58) (some (Operand.tmp 59)) none none, type := 28, pos := "ref.go:61", after := #[{ on := 15, ground := Ground.data }, { on := 16, ground := Ground.data }], guard := none }) (v := ?_) rfl (by kernel_rfl) (by kernel_rfl) (by kernel_rfl) (fun _ _ _ h => h) (Or.inl ⟨by rfl, ?_⟩) (by assumption) ?_
  rotate_left 1
  · intro w hSw; (try dsimp only at hSw); go_simp <;> with_reducible rfl
  try simp only [Act.put, List.setIfInBounds_toArray, List.set_cons_zero, List.set_cons_succ]
  refine wpAnyH_ready (rs := [1, 10]) (by kernel_rfl) (by simp) ?_
  refine AllReadyH.cons (o := { dst := some 44, op := Op.buildSlice 28 0 #[], type := 28, pos := "ref.go:61", after := #[], guard := none }) rfl (fun K hK => ?_) ?_
  · go_simp
    refine hK.out _ _ ?_ ?_
    · (try dsimp only); exact keepS hHeld (World.grownBy_alloc _ _ none) (by simp)
    clear hK K hHeld; intro hHeld
    try simp only [Act.put, List.setIfInBounds_toArray, List.set_cons_zero, List.set_cons_succ]
    refine wpAnyH_ready (rs := [8, 10]) (by kernel_rfl) (by simp) ?_
    refine AllReadyH.cons (o := { dst := some 51, op := Op.call { callee := Callee.builtin Builtin.append, args := #[Operand.tmp 44, Operand.tmp 50], argTypes := #[28, 28] }, type := 28, pos := "ref.go:61", after := #[{ on := 1, ground := Ground.data }, { on := 7, ground := Ground.data }], guard := none }) rfl (fun K hK => ?_) ?_
    · refine step_append_at rfl (.tmp 44) (.tmp 50) 28 rfl 0 3 i0 (.int .i64 0) 1 8 Try.underlying28 hi0 hz0 hz1 hz2 rfl (by decide) _ 0 [] (by simp [Act.eval]) O1.out ⟨g, 0, none⟩ k cap (ints (L.take k)) (by simp [Act.eval]) T1.out (news_at V1.out (take_at L k)) (ints_one _) (by have := hmx.out; omega) (by omega) (by omega) ?_; intro v1 w1 hown1 hgrow1 hat1 hnn1
      refine hK.out _ _ ?_ ?_
      · (try dsimp only); exact keepS hHeld hgrow1 (by simp [Value.ownBlock]; omega)
      clear hK K hHeld; intro hHeld
      try simp only [Act.put, List.setIfInBounds_toArray, List.set_cons_zero, List.set_cons_succ]
      refine wpAnyH_ready (rs := [10]) (by kernel_rfl) (by simp) ?_
      refine AllReadyH.cons (o := { dst := some 53, op := Op.buildSlice 28 1 #[(0, Operand.tmp 52)], type := 28, pos := "ref.go:61", after := #[{ on := 9, ground := Ground.data }], guard := none }) rfl (fun K hK => ?_) ?_
      · go_simp
        refine hK.out _ _ ?_ ?_
        · (try dsimp only); exact keepS hHeld (World.grownBy_alloc _ _ none) (by simp)
        clear hK K hHeld; intro hHeld
        try simp only [Act.put, List.setIfInBounds_toArray, List.set_cons_zero, List.set_cons_succ]
        refine wpAnyH_ready (rs := [11]) (by kernel_rfl) (by simp) ?_
        refine AllReadyH.cons (o := { dst := some 54, op := Op.call { callee := Callee.builtin Builtin.append, args := #[Operand.tmp 51, Operand.tmp 53], argTypes := #[28, 28] }, type := 28, pos := "ref.go:61", after := #[{ on := 8, ground := Ground.data }, { on := 10, ground := Ground.data }, { on := 8, ground := Ground.chain }], guard := none }) rfl (fun K hK => ?_) ?_
        · refine step_append_at rfl (.tmp 51) (.tmp 53) 28 rfl 0 3 i0 (.int .i64 0) 1 8 Try.underlying28 hi0 hz0 hz1 hz2 rfl (by decide) v1 _ _ (by simp [Act.eval]) (hown1.alloc _) ⟨w1.heap.size, 0, none⟩ 1 1 (ints [i]) (by simp [Act.eval]) (by simp [ints]) (one_at ((World.cell?_alloc_new _ _ _ 0).trans rfl)) (ints_one _) (by have := hmx.out; omega) (by omega) (by omega) ?_; intro v2 w2 hown2 hgrow2 hat2 hnn2
          refine hK.out _ _ ?_ ?_
          · (try dsimp only); exact keepS hHeld hgrow2 (farb1 hat1 rfl (by first | omega | (simp; done) | (simp; omega)) (by first | omega | (simp; done) | (simp; omega)))
          clear hK K hHeld; intro hHeld
          try simp only [Act.put, List.setIfInBounds_toArray, List.set_cons_zero, List.set_cons_succ]
          refine wpAnyH_ready (rs := [18]) (by kernel_rfl) (by simp) ?_
          refine AllReadyH.cons (o := { dst := some 61, op := Op.call { callee := Callee.builtin Builtin.append, args := #[Operand.tmp 54, Operand.tmp 60], argTypes := #[28, 28] }, type := 28, pos := "ref.go:61", after := #[{ on := 11, ground := Ground.data }, { on := 17, ground := Ground.data }, { on := 11, ground := Ground.chain }], guard := none }) rfl (fun K hK => ?_) ?_
          · refine step_append_at rfl (.tmp 54) (.tmp 60) 28 rfl 0 3 i0 (.int .i64 0) 1 8 Try.underlying28 hi0 hz0 hz1 hz2 rfl (by decide) v2 _ _ (by simp [Act.eval]) hown2 A (n - k) (cap - k) (ints (L.drop k)) (by simp [Act.eval]) D1.out (HA.out _ (((V1.out.kept hgrow1 (by simp [Value.ownBlock]; omega)).alloc _).kept hgrow2 (Or.inr (farb1 (b := g) hat1 rfl (by first | omega | (simp; done) | (simp; omega)) (by first | omega | (simp; done) | (simp; omega)))))) (ints_one _) (by have := hmx.out; omega) (by omega) (by omega) ?_; intro v3 w3 hown3 hgrow3 hat3 hnn3; obtain ⟨x3, n3, c3, rfl⟩ := slice_form hown3
            refine hK.out _ _ ?_ ?_
            · (try dsimp only); exact keepS hHeld hgrow3 (farb2 hat2 (farb1 hat1 rfl (by first | omega | (simp; done) | (simp; omega)) (by first | omega | (simp; done) | (simp; omega))) (by have h9 := hgrow1.size; simp at h9 ⊢; omega))
            clear hK K hHeld; intro hHeld
            try simp only [Act.put, List.setIfInBounds_toArray, List.set_cons_zero, List.set_cons_succ]
            refine wpAnyH_ready (rs := [19]) (by kernel_rfl) (by simp) ?_
            refine AllReadyH.cons (o := { dst := some 62, op := Op.nilCheck (Operand.tmp 43), type := 0, pos := "ref.go:61", after := #[{ on := 0, ground := Ground.data }, { on := 0, ground := Ground.phase }, { on := 1, ground := Ground.phase }, { on := 2, ground := Ground.phase }, { on := 3, ground := Ground.phase }, { on := 4, ground := Ground.phase }, { on := 5, ground := Ground.phase }, { on := 6, ground := Ground.phase }, { on := 7, ground := Ground.phase }, { on := 8, ground := Ground.phase }, { on := 9, ground := Ground.phase }, { on := 10, ground := Ground.phase }, { on := 11, ground := Ground.phase }, { on := 12, ground := Ground.phase }, { on := 13, ground := Ground.phase }, { on := 14, ground := Ground.phase }, { on := 15, ground := Ground.phase }, { on := 16, ground := Ground.phase }, { on := 17, ground := Ground.phase }, { on := 18, ground := Ground.phase }], guard := none }) rfl (fun K hK => ?_) ?_
            · go_simp
              refine hK.out _ _ ?_ ?_
              · (try dsimp only); assumption
              clear hK K hHeld; intro hHeld
              try simp only [Act.put, List.setIfInBounds_toArray, List.set_cons_zero, List.set_cons_succ]
              refine wpAnyH_take (i := 20) (oi := { dst := some 63, op := Op.fieldAddr 45 (Operand.tmp 62) 1, type := 0, pos := "ref.go:61", after := #[{ on := 19, ground := Ground.data }, { on := 0, ground := Ground.phase }, { on := 1, ground := Ground.phase }, { on := 2, ground := Ground.phase }, { on := 3, ground := Ground.phase }, { on := 4, ground := Ground.phase }, { on := 5, ground := Ground.phase }, { on := 6, ground := Ground.phase }, { on := 7, ground := Ground.phase }, { on := 8, ground := Ground.phase }, { on := 9, ground := Ground.phase }, { on := 10, ground := Ground.phase }, { on := 11, ground := Ground.phase }, { on := 12, ground := Ground.phase }, { on := 13, ground := Ground.phase }, { on := 14, ground := Ground.phase }, { on := 15, ground := Ground.phase }, { on := 16, ground := Ground.phase }, { on := 17, ground := Ground.phase }, { on := 18, ground := Ground.phase }], guard := none }) (v := ?_) rfl (by kernel_rfl) (by kernel_rfl) (by kernel_rfl) (fun _ _ _ h => h) (Or.inl ⟨by rfl, ?_⟩) (by assumption) ?_
              rotate_left 1
              · intro w hSw; (try dsimp only at hSw); go_simp <;> with_reducible rfl
              try simp only [Act.put, List.setIfInBounds_toArray, List.set_cons_zero, List.set_cons_succ]
              refine last_step (o := { dst := none, op := Op.store 28 (Operand.tmp 63) (Operand.tmp 61), type := 0, pos := "ref.go:61", after := #[{ on := 20, ground := Ground.data }, { on := 18, ground := Ground.data }, { on := 18, ground := Ground.chain }, { on := 0, ground := Ground.phase }, { on := 1, ground := Ground.phase }, { on := 2, ground := Ground.phase }, { on := 3, ground := Ground.phase }, { on := 4, ground := Ground.phase }, { on := 5, ground := Ground.phase }, { on := 6, ground := Ground.phase }, { on := 7, ground := Ground.phase }, { on := 8, ground := Ground.phase }, { on := 9, ground := Ground.phase }, { on := 10, ground := Ground.phase }, { on := 11, ground := Ground.phase }, { on := 12, ground := Ground.phase }, { on := 13, ground := Ground.phase }, { on := 14, ground := Ground.phase }, { on := 15, ground := Ground.phase }, { on := 16, ground := Ground.phase }, { on := 17, ground := Ground.phase }, { on := 18, ground := Ground.phase }], guard := none }) rfl (by kernel_rfl) (fun K hK => ?_)
              go_simp
              refine hK.out _ _ ?_
              clear hK K
              try simp only [Act.put, List.setIfInBounds_toArray, List.set_cons_zero, List.set_cons_succ]
              obtain ⟨_, _, B3, F3⟩ := grow3 (w := w) (r := w.heap.size) (((Below.refl _ _).alloc (Nat.le_refl _) _).drew) hgrow1 rfl (by omega) hat1 ((Below.refl _ _).alloc (Nat.le_refl _) _) hgrow2 hat2 hgrow3 hat3
              have own3 := own_in (by have := HN.out; rw [List.length_append, List.length_append, List.length_take, List.length_drop, ← this]; simp; omega) hown3
              have R3 := Lib.hid (ref_stored B3 hHeld own3 (fun g hg => fun e => (F3 g hg).2.2.2 e.symm) (fun e => by have := (hnn1.1 (hnn2.1 (hnn3.1 e).1).1).1; cases this) hb)
              clear B3 F3 own3
              go_wp2
              go_ret
              exact ⟨rfl, _, R3.out⟩
            exact AllReadyH.nil
          exact AllReadyH.nil
        exact AllReadyH.nil
      exact AllReadyH.nil
    refine AllReadyH.cons (o := { dst := some 53, op := Op.buildSlice 28 1 #[(0, Operand.tmp 52)], type := 28, pos := "ref.go:61", after := #[{ on := 9, ground := Ground.data }], guard := none }) rfl (fun K hK => ?_) ?_
    · go_simp
      refine hK.out _ _ ?_ ?_
      · (try dsimp only); exact keepS hHeld (World.grownBy_alloc _ _ none) (by simp)
      clear hK K hHeld; intro hHeld
      try simp only [Act.put, List.setIfInBounds_toArray, List.set_cons_zero, List.set_cons_succ]
      refine wpAnyH_ready (rs := [8]) (by kernel_rfl) (by simp) ?_
      refine AllReadyH.cons (o := { dst := some 51, op := Op.call { callee := Callee.builtin Builtin.append, args := #[Operand.tmp 44, Operand.tmp 50], argTypes := #[28, 28] }, type := 28, pos := "ref.go:61", after := #[{ on := 1, ground := Ground.data }, { on := 7, ground := Ground.data }], guard := none }) rfl (fun K hK => ?_) ?_
      · refine step_append_at rfl (.tmp 44) (.tmp 50) 28 rfl 0 3 i0 (.int .i64 0) 1 8 Try.underlying28 hi0 hz0 hz1 hz2 rfl (by decide) _ 0 [] (by simp [Act.eval]) O2.out ⟨g, 0, none⟩ k cap (ints (L.take k)) (by simp [Act.eval]) T1.out (news_at V2.out (take_at L k)) (ints_one _) (by have := hmx.out; omega) (by omega) (by omega) ?_; intro v1 w1 hown1 hgrow1 hat1 hnn1
        refine hK.out _ _ ?_ ?_
        · (try dsimp only); exact keepS hHeld hgrow1 (by simp [Value.ownBlock]; omega)
        clear hK K hHeld; intro hHeld
        try simp only [Act.put, List.setIfInBounds_toArray, List.set_cons_zero, List.set_cons_succ]
        refine wpAnyH_ready (rs := [11]) (by kernel_rfl) (by simp) ?_
        refine AllReadyH.cons (o := { dst := some 54, op := Op.call { callee := Callee.builtin Builtin.append, args := #[Operand.tmp 51, Operand.tmp 53], argTypes := #[28, 28] }, type := 28, pos := "ref.go:61", after := #[{ on := 8, ground := Ground.data }, { on := 10, ground := Ground.data }, { on := 8, ground := Ground.chain }], guard := none }) rfl (fun K hK => ?_) ?_
        · refine step_append_at rfl (.tmp 51) (.tmp 53) 28 rfl 0 3 i0 (.int .i64 0) 1 8 Try.underlying28 hi0 hz0 hz1 hz2 rfl (by decide) v1 _ _ (by simp [Act.eval]) hown1 ⟨w.heap.size + 1, 0, none⟩ 1 1 (ints [i]) (by simp [Act.eval]) (by simp [ints]) (one_at (hgrow1.cell C2.out (by simp [Value.ownBlock]))) (ints_one _) (by have := hmx.out; omega) (by omega) (by omega) ?_; intro v2 w2 hown2 hgrow2 hat2 hnn2
          refine hK.out _ _ ?_ ?_
          · (try dsimp only); exact keepS hHeld hgrow2 (farb1 hat1 rfl (by first | omega | (simp; done) | (simp; omega)) (by first | omega | (simp; done) | (simp; omega)))
          clear hK K hHeld; intro hHeld
          try simp only [Act.put, List.setIfInBounds_toArray, List.set_cons_zero, List.set_cons_succ]
          refine wpAnyH_ready (rs := [18]) (by kernel_rfl) (by simp) ?_
          refine AllReadyH.cons (o := { dst := some 61, op := Op.call { callee := Callee.builtin Builtin.append, args := #[Operand.tmp 54, Operand.tmp 60], argTypes := #[28, 28] }, type := 28, pos := "ref.go:61", after := #[{ on := 11, ground := Ground.data }, { on := 17, ground := Ground.data }, { on := 11, ground := Ground.chain }], guard := none }) rfl (fun K hK => ?_) ?_
          · refine step_append_at rfl (.tmp 54) (.tmp 60) 28 rfl 0 3 i0 (.int .i64 0) 1 8 Try.underlying28 hi0 hz0 hz1 hz2 rfl (by decide) v2 _ _ (by simp [Act.eval]) hown2 A (n - k) (cap - k) (ints (L.drop k)) (by simp [Act.eval]) D1.out (HA.out _ ((V2.out.kept hgrow1 (by simp [Value.ownBlock]; omega)).kept hgrow2 (Or.inr (farb1 (b := g) hat1 rfl (by first | omega | (simp; done) | (simp; omega)) (by first | omega | (simp; done) | (simp; omega)))))) (ints_one _) (by have := hmx.out; omega) (by omega) (by omega) ?_; intro v3 w3 hown3 hgrow3 hat3 hnn3; obtain ⟨x3, n3, c3, rfl⟩ := slice_form hown3
            refine hK.out _ _ ?_ ?_
            · (try dsimp only); exact keepS hHeld hgrow3 (farb2 hat2 (farb1 hat1 rfl (by first | omega | (simp; done) | (simp; omega)) (by first | omega | (simp; done) | (simp; omega))) (by have h9 := hgrow1.size; simp at h9 ⊢; omega))
            clear hK K hHeld; intro hHeld
            try simp only [Act.put, List.setIfInBounds_toArray, List.set_cons_zero, List.set_cons_succ]
            refine wpAnyH_ready (rs := [19]) (by kernel_rfl) (by simp) ?_
            refine AllReadyH.cons (o := { dst := some 62, op := Op.nilCheck (Operand.tmp 43), type := 0, pos := "ref.go:61", after := #[{ on := 0, ground := Ground.data }, { on := 0, ground := Ground.phase }, { on := 1, ground := Ground.phase }, { on := 2, ground := Ground.phase }, { on := 3, ground := Ground.phase }, { on := 4, ground := Ground.phase }, { on := 5, ground := Ground.phase }, { on := 6, ground := Ground.phase }, { on := 7, ground := Ground.phase }, { on := 8, ground := Ground.phase }, { on := 9, ground := Ground.phase }, { on := 10, ground := Ground.phase }, { on := 11, ground := Ground.phase }, { on := 12, ground := Ground.phase }, { on := 13, ground := Ground.phase }, { on := 14, ground := Ground.phase }, { on := 15, ground := Ground.phase }, { on := 16, ground := Ground.phase }, { on := 17, ground := Ground.phase }, { on := 18, ground := Ground.phase }], guard := none }) rfl (fun K hK => ?_) ?_
            · go_simp
              refine hK.out _ _ ?_ ?_
              · (try dsimp only); assumption
              clear hK K hHeld; intro hHeld
              try simp only [Act.put, List.setIfInBounds_toArray, List.set_cons_zero, List.set_cons_succ]
              refine wpAnyH_take (i := 20) (oi := { dst := some 63, op := Op.fieldAddr 45 (Operand.tmp 62) 1, type := 0, pos := "ref.go:61", after := #[{ on := 19, ground := Ground.data }, { on := 0, ground := Ground.phase }, { on := 1, ground := Ground.phase }, { on := 2, ground := Ground.phase }, { on := 3, ground := Ground.phase }, { on := 4, ground := Ground.phase }, { on := 5, ground := Ground.phase }, { on := 6, ground := Ground.phase }, { on := 7, ground := Ground.phase }, { on := 8, ground := Ground.phase }, { on := 9, ground := Ground.phase }, { on := 10, ground := Ground.phase }, { on := 11, ground := Ground.phase }, { on := 12, ground := Ground.phase }, { on := 13, ground := Ground.phase }, { on := 14, ground := Ground.phase }, { on := 15, ground := Ground.phase }, { on := 16, ground := Ground.phase }, { on := 17, ground := Ground.phase }, { on := 18, ground := Ground.phase }], guard := none }) (v := ?_) rfl (by kernel_rfl) (by kernel_rfl) (by kernel_rfl) (fun _ _ _ h => h) (Or.inl ⟨by rfl, ?_⟩) (by assumption) ?_
              rotate_left 1
              · intro w hSw; (try dsimp only at hSw); go_simp <;> with_reducible rfl
              try simp only [Act.put, List.setIfInBounds_toArray, List.set_cons_zero, List.set_cons_succ]
              refine last_step (o := { dst := none, op := Op.store 28 (Operand.tmp 63) (Operand.tmp 61), type := 0, pos := "ref.go:61", after := #[{ on := 20, ground := Ground.data }, { on := 18, ground := Ground.data }, { on := 18, ground := Ground.chain }, { on := 0, ground := Ground.phase }, { on := 1, ground := Ground.phase }, { on := 2, ground := Ground.phase }, { on := 3, ground := Ground.phase }, { on := 4, ground := Ground.phase }, { on := 5, ground := Ground.phase }, { on := 6, ground := Ground.phase }, { on := 7, ground := Ground.phase }, { on := 8, ground := Ground.phase }, { on := 9, ground := Ground.phase }, { on := 10, ground := Ground.phase }, { on := 11, ground := Ground.phase }, { on := 12, ground := Ground.phase }, { on := 13, ground := Ground.phase }, { on := 14, ground := Ground.phase }, { on := 15, ground := Ground.phase }, { on := 16, ground := Ground.phase }, { on := 17, ground := Ground.phase }, { on := 18, ground := Ground.phase }], guard := none }) rfl (by kernel_rfl) (fun K hK => ?_)
              go_simp
              refine hK.out _ _ ?_
              clear hK K
              try simp only [Act.put, List.setIfInBounds_toArray, List.set_cons_zero, List.set_cons_succ]
              obtain ⟨_, _, B3, F3⟩ := grow3 (w := w) (r := w.heap.size) ((((Below.refl _ _).alloc (Nat.le_refl _) _).alloc (by simp) _).drew) hgrow1 rfl (by omega) hat1 (Below.refl _ _) hgrow2 hat2 hgrow3 hat3
              have own3 := own_in (by have := HN.out; rw [List.length_append, List.length_append, List.length_take, List.length_drop, ← this]; simp; omega) hown3
              have R3 := Lib.hid (ref_stored B3 hHeld own3 (fun g hg => fun e => (F3 g hg).2.2.2 e.symm) (fun e => by have := (hnn1.1 (hnn2.1 (hnn3.1 e).1).1).1; cases this) hb)
              clear B3 F3 own3
              go_wp2
              go_ret
              exact ⟨rfl, _, R3.out⟩
            exact AllReadyH.nil
          exact AllReadyH.nil
        exact AllReadyH.nil
      exact AllReadyH.nil
    exact AllReadyH.nil
  refine AllReadyH.cons (o := { dst := some 53, op := Op.buildSlice 28 1 #[(0, Operand.tmp 52)], type := 28, pos := "ref.go:61", after := #[{ on := 9, ground := Ground.data }], guard := none }) rfl (fun K hK => ?_) ?_
  · go_simp
    refine hK.out _ _ ?_ ?_
    · (try dsimp only); exact keepS hHeld (World.grownBy_alloc _ _ none) (by simp)
    clear hK K hHeld; intro hHeld
    try simp only [Act.put, List.setIfInBounds_toArray, List.set_cons_zero, List.set_cons_succ]
    refine wpAnyH_ready (rs := [1]) (by kernel_rfl) (by simp) ?_
    refine AllReadyH.cons (o := { dst := some 44, op := Op.buildSlice 28 0 #[], type := 28, pos := "ref.go:61", after := #[], guard := none }) rfl (fun K hK => ?_) ?_
    · go_simp
      refine hK.out _ _ ?_ ?_
      · (try dsimp only); exact keepS hHeld (World.grownBy_alloc _ _ none) (by simp)
      clear hK K hHeld; intro hHeld
      try simp only [Act.put, List.setIfInBounds_toArray, List.set_cons_zero, List.set_cons_succ]
      refine wpAnyH_ready (rs := [8]) (by kernel_rfl) (by simp) ?_
      refine AllReadyH.cons (o := { dst := some 51, op := Op.call { callee := Callee.builtin Builtin.append, args := #[Operand.tmp 44, Operand.tmp 50], argTypes := #[28, 28] }, type := 28, pos := "ref.go:61", after := #[{ on := 1, ground := Ground.data }, { on := 7, ground := Ground.data }], guard := none }) rfl (fun K hK => ?_) ?_
      · refine step_append_at rfl (.tmp 44) (.tmp 50) 28 rfl 0 3 i0 (.int .i64 0) 1 8 Try.underlying28 hi0 hz0 hz1 hz2 rfl (by decide) _ 0 [] (by simp [Act.eval]) O3.out ⟨g, 0, none⟩ k cap (ints (L.take k)) (by simp [Act.eval]) T1.out (news_at V3.out (take_at L k)) (ints_one _) (by have := hmx.out; omega) (by omega) (by omega) ?_; intro v1 w1 hown1 hgrow1 hat1 hnn1
        refine hK.out _ _ ?_ ?_
        · (try dsimp only); exact keepS hHeld hgrow1 (by simp [Value.ownBlock]; omega)
        clear hK K hHeld; intro hHeld
        try simp only [Act.put, List.setIfInBounds_toArray, List.set_cons_zero, List.set_cons_succ]
        refine wpAnyH_ready (rs := [11]) (by kernel_rfl) (by simp) ?_
        refine AllReadyH.cons (o := { dst := some 54, op := Op.call { callee := Callee.builtin Builtin.append, args := #[Operand.tmp 51, Operand.tmp 53], argTypes := #[28, 28] }, type := 28, pos := "ref.go:61", after := #[{ on := 8, ground := Ground.data }, { on := 10, ground := Ground.data }, { on := 8, ground := Ground.chain }], guard := none }) rfl (fun K hK => ?_) ?_
        · refine step_append_at rfl (.tmp 51) (.tmp 53) 28 rfl 0 3 i0 (.int .i64 0) 1 8 Try.underlying28 hi0 hz0 hz1 hz2 rfl (by decide) v1 _ _ (by simp [Act.eval]) hown1 ⟨w.heap.size, 0, none⟩ 1 1 (ints [i]) (by simp [Act.eval]) (by simp [ints]) (one_at (hgrow1.cell C3.out (by simp [Value.ownBlock]))) (ints_one _) (by have := hmx.out; omega) (by omega) (by omega) ?_; intro v2 w2 hown2 hgrow2 hat2 hnn2
          refine hK.out _ _ ?_ ?_
          · (try dsimp only); exact keepS hHeld hgrow2 (farb1 hat1 rfl (by first | omega | (simp; done) | (simp; omega)) (by first | omega | (simp; done) | (simp; omega)))
          clear hK K hHeld; intro hHeld
          try simp only [Act.put, List.setIfInBounds_toArray, List.set_cons_zero, List.set_cons_succ]
          refine wpAnyH_ready (rs := [18]) (by kernel_rfl) (by simp) ?_
          refine AllReadyH.cons (o := { dst := some 61, op := Op.call { callee := Callee.builtin Builtin.append, args := #[Operand.tmp 54, Operand.tmp 60], argTypes := #[28, 28] }, type := 28, pos := "ref.go:61", after := #[{ on := 11, ground := Ground.data }, { on := 17, ground := Ground.data }, { on := 11, ground := Ground.chain }], guard := none }) rfl (fun K hK => ?_) ?_
          · refine step_append_at rfl (.tmp 54) (.tmp 60) 28 rfl 0 3 i0 (.int .i64 0) 1 8 Try.underlying28 hi0 hz0 hz1 hz2 rfl (by decide) v2 _ _ (by simp [Act.eval]) hown2 A (n - k) (cap - k) (ints (L.drop k)) (by simp [Act.eval]) D1.out (HA.out _ ((V3.out.kept hgrow1 (by simp [Value.ownBlock]; omega)).kept hgrow2 (Or.inr (farb1 (b := g) hat1 rfl (by first | omega | (simp; done) | (simp; omega)) (by first | omega | (simp; done) | (simp; omega)))))) (ints_one _) (by have := hmx.out; omega) (by omega) (by omega) ?_; intro v3 w3 hown3 hgrow3 hat3 hnn3; obtain ⟨x3, n3, c3, rfl⟩ := slice_form hown3
            refine hK.out _ _ ?_ ?_
            · (try dsimp only); exact keepS hHeld hgrow3 (farb2 hat2 (farb1 hat1 rfl (by first | omega | (simp; done) | (simp; omega)) (by first | omega | (simp; done) | (simp; omega))) (by have h9 := hgrow1.size; simp at h9 ⊢; omega))
            clear hK K hHeld; intro hHeld
            try simp only [Act.put, List.setIfInBounds_toArray, List.set_cons_zero, List.set_cons_succ]
            refine wpAnyH_ready (rs := [19]) (by kernel_rfl) (by simp) ?_
            refine AllReadyH.cons (o := { dst := some 62, op := Op.nilCheck (Operand.tmp 43), type := 0, pos := "ref.go:61", after := #[{ on := 0, ground := Ground.data }, { on := 0, ground := Ground.phase }, { on := 1, ground := Ground.phase }, { on := 2, ground := Ground.phase }, { on := 3, ground := Ground.phase }, { on := 4, ground := Ground.phase }, { on := 5, ground := Ground.phase }, { on := 6, ground := Ground.phase }, { on := 7, ground := Ground.phase }, { on := 8, ground := Ground.phase }, { on := 9, ground := Ground.phase }, { on := 10, ground := Ground.phase }, { on := 11, ground := Ground.phase }, { on := 12, ground := Ground.phase }, { on := 13, ground := Ground.phase }, { on := 14, ground := Ground.phase }, { on := 15, ground := Ground.phase }, { on := 16, ground := Ground.phase }, { on := 17, ground := Ground.phase }, { on := 18, ground := Ground.phase }], guard := none }) rfl (fun K hK => ?_) ?_
            · go_simp
              refine hK.out _ _ ?_ ?_
              · (try dsimp only); assumption
              clear hK K hHeld; intro hHeld
              try simp only [Act.put, List.setIfInBounds_toArray, List.set_cons_zero, List.set_cons_succ]
              refine wpAnyH_take (i := 20) (oi := { dst := some 63, op := Op.fieldAddr 45 (Operand.tmp 62) 1, type := 0, pos := "ref.go:61", after := #[{ on := 19, ground := Ground.data }, { on := 0, ground := Ground.phase }, { on := 1, ground := Ground.phase }, { on := 2, ground := Ground.phase }, { on := 3, ground := Ground.phase }, { on := 4, ground := Ground.phase }, { on := 5, ground := Ground.phase }, { on := 6, ground := Ground.phase }, { on := 7, ground := Ground.phase }, { on := 8, ground := Ground.phase }, { on := 9, ground := Ground.phase }, { on := 10, ground := Ground.phase }, { on := 11, ground := Ground.phase }, { on := 12, ground := Ground.phase }, { on := 13, ground := Ground.phase }, { on := 14, ground := Ground.phase }, { on := 15, ground := Ground.phase }, { on := 16, ground := Ground.phase }, { on := 17, ground := Ground.phase }, { on := 18, ground := Ground.phase }], guard := none }) (v := ?_) rfl (by kernel_rfl) (by kernel_rfl) (by kernel_rfl) (fun _ _ _ h => h) (Or.inl ⟨by rfl, ?_⟩) (by assumption) ?_
              rotate_left 1
              · intro w hSw; (try dsimp only at hSw); go_simp <;> with_reducible rfl
              try simp only [Act.put, List.setIfInBounds_toArray, List.set_cons_zero, List.set_cons_succ]
              refine last_step (o := { dst := none, op := Op.store 28 (Operand.tmp 63) (Operand.tmp 61), type := 0, pos := "ref.go:61", after := #[{ on := 20, ground := Ground.data }, { on := 18, ground := Ground.data }, { on := 18, ground := Ground.chain }, { on := 0, ground := Ground.phase }, { on := 1, ground := Ground.phase }, { on := 2, ground := Ground.phase }, { on := 3, ground := Ground.phase }, { on := 4, ground := Ground.phase }, { on := 5, ground := Ground.phase }, { on := 6, ground := Ground.phase }, { on := 7, ground := Ground.phase }, { on := 8, ground := Ground.phase }, { on := 9, ground := Ground.phase }, { on := 10, ground := Ground.phase }, { on := 11, ground := Ground.phase }, { on := 12, ground := Ground.phase }, { on := 13, ground := Ground.phase }, { on := 14, ground := Ground.phase }, { on := 15, ground := Ground.phase }, { on := 16, ground := Ground.phase }, { on := 17, ground := Ground.phase }, { on := 18, ground := Ground.phase }], guard := none }) rfl (by kernel_rfl) (fun K hK => ?_)
              go_simp
              refine hK.out _ _ ?_
              clear hK K
              try simp only [Act.put, List.setIfInBounds_toArray, List.set_cons_zero, List.set_cons_succ]
              obtain ⟨_, _, B3, F3⟩ := grow3 (w := w) (r := (w.heap.size + 1)) ((((Below.refl _ _).alloc (Nat.le_refl _) _).alloc (by simp) _).drew) hgrow1 rfl (by omega) hat1 (Below.refl _ _) hgrow2 hat2 hgrow3 hat3
              have own3 := own_in (by have := HN.out; rw [List.length_append, List.length_append, List.length_take, List.length_drop, ← this]; simp; omega) hown3
              have R3 := Lib.hid (ref_stored B3 hHeld own3 (fun g hg => fun e => (F3 g hg).2.2.2 e.symm) (fun e => by have := (hnn1.1 (hnn2.1 (hnn3.1 e).1).1).1; cases this) hb)
              clear B3 F3 own3
              go_wp2
              go_ret
              exact ⟨rfl, _, R3.out⟩
            exact AllReadyH.nil
          exact AllReadyH.nil
        exact AllReadyH.nil
      exact AllReadyH.nil
    exact AllReadyH.nil
  exact AllReadyH.nil
set_option maxHeartbeats 16000000 in
set_option maxRecDepth 100000 in
theorem in_first (i : Int) (b : Nat) (N : Int) (v : Value) (w : World) (h : RefAt w b N [] v) (hl : ([] : List Int).length ≤ 8192)
    (iz : 0 ≤ i) (iN : i < N) (hi : idx [] i = -1) (ha : idx [] (-1) = -1) :
    Calls Try.prog 19 #[.pointer (some ⟨b, 0, none⟩), .int .i64 i, .int .i64 (-1)] w fun e w' => e = .returned (.bool true) ∧ ∃ v', RefAt w' b N (([] : List Int).take 0 ++ [i] ++ ([] : List Int).drop 0) v' ∧ w.grownBy w' (some b) ∧ (∀ g, v'.ownBlock = some g → w.heap.size ≤ g) := by
  have hb := World.block_lt_of_cell? w _ h.l
  rcases h.own.cases with ⟨rfl, _⟩ | ⟨g, cap, rfl, hle, hm, hg, hown⟩
  · exact absurd rfl h.nn
  have hn0 := h.n
  have O1 : Hid ((w.alloc (.cells #[] 3)).drew.ownsRow 0 3 1 (.slice (some ⟨w.heap.size, 0, none⟩) 0 0) 0 []) := Lib.hid (World.ownsRow_made w #[] 0 (by omega) (by decide) rfl)
  have O2 : Hid (((w.alloc (.cells #[] 3)).alloc (.cells #[.int .i64 i] 3)).drew.ownsRow 0 3 1 (.slice (some ⟨w.heap.size, 0, none⟩) 0 0) 0 []) := Lib.hid ((World.ownsRow_made w #[] 0 (by omega) (by decide) rfl).alloc _)
  have O3 : Hid (((w.alloc (.cells #[.int .i64 i] 3)).alloc (.cells #[] 3)).drew.ownsRow 0 3 1 (.slice (some ⟨w.heap.size + 1, 0, none⟩) 0 0) 0 []) := Lib.hid (World.ownsRow.drew (by have := World.ownsRow_made (base := 0) (e := 3) (size := 1) (w.alloc (.cells #[.int .i64 i] 3)) #[] 0 (by omega) (by decide) rfl; simpa using this))
  have V1 : Hid ((w.alloc (.cells #[] 3)).drew.ownsRow 0 3 1 (.slice (some ⟨g, 0, none⟩) ([] : List Int).length cap) ([] : List Int).length (ints ([] : List Int))) := Lib.hid (hown.alloc _)
  have V2 : Hid (((w.alloc (.cells #[] 3)).alloc (.cells #[.int .i64 i] 3)).drew.ownsRow 0 3 1 (.slice (some ⟨g, 0, none⟩) ([] : List Int).length cap) ([] : List Int).length (ints ([] : List Int))) := Lib.hid ((hown.alloc _).alloc _)
  have V3 : Hid (((w.alloc (.cells #[.int .i64 i] 3)).alloc (.cells #[] 3)).drew.ownsRow 0 3 1 (.slice (some ⟨g, 0, none⟩) ([] : List Int).length cap) ([] : List Int).length (ints ([] : List Int))) := Lib.hid ((hown.alloc _).alloc _)
  have C2 : Hid (((w.alloc (.cells #[] 3)).alloc (.cells #[.int .i64 i] 3)).drew.cell? ⟨w.heap.size + 1, 0, none⟩ = some (.int .i64 i)) := Lib.hid (by go_simp)
  have C3 : Hid (((w.alloc (.cells #[.int .i64 i] 3)).alloc (.cells #[] 3)).drew.cell? ⟨w.heap.size, 0, none⟩ = some (.int .i64 i)) := Lib.hid (by go_simp)
  have HL := Lib.hid hl
  replace h := Lib.hid h
  have hL : w.cell? ⟨b, 1, none⟩ = some (.slice (some ⟨g, 0, none⟩) 0 cap) := h.out.l
  have T1 : Hid ((ints (([] : List Int).take 0)).length = 0 * 1) := Lib.hid rfl
  have D1 : Hid ((ints (([] : List Int).drop 0)).length = 0 * 1) := Lib.hid rfl
  obtain ⟨A, hA, HA⟩ : ∃ A : Addr, A = ⟨g, 0, none⟩ ∧ Hid (∀ W : World, W.ownsRow 0 3 1 (.slice (some ⟨g, 0, none⟩) ([] : List Int).length cap) ([] : List Int).length (ints ([] : List Int)) → ∀ j u, (ints (([] : List Int).drop 0))[j]? = some u → W.cell? (A.add j) = some u) := ⟨_, rfl, Lib.hid (fun W hW => news_at hW (drop_at ([] : List Int) 0))⟩
  subst hA
  clear hown
  have hmx : Hid (0 + 2 ≤ maxLen) := Lib.hid (by decide)
  have q1 : (0 : Int) ≤ (cap : Int) := by omega
  obtain ⟨i0, hi0, hz0, hz1, hz2⟩ := info_parts info3
  go_enter Try.func19, Try.ntmps19
  go_wp2_with (first | (go_at_call 24; ((with_reducible refine (at_c _ b N ([] : List Int) _ _ h.out HL.out).mono ?_); rintro e w ⟨rfl, rfl⟩)))
  refine wp_region_last (d := 21) (fuel := 21) (S := (fun w' => w'.cell? ⟨b, 0, none⟩ = some (.int .i64 N) ∧ w'.cell? ⟨b, 1, none⟩ = some (.slice (some ⟨g, 0, none⟩) 0 cap) ∧ w'.frozen? ⟨b, 1, none⟩ = false)) (by kernel_rfl) (by kernel_rfl) rfl ?_ (fun hHeld => ?_)
  · (try dsimp only); exact ⟨h.out.n, h.out.l, h.out.fr⟩
  refine wpAnyH_take (i := 0) (oi := { dst := some 43, op := Op.move (Operand.tmp 0), type := 38, pos := "ref.go:61", after := #[], guard := none }) (v := ?_) rfl (by kernel_rfl) (by kernel_rfl) (by kernel_rfl) (fun _ _ _ h => h) (Or.inl ⟨by rfl, ?_⟩) (by assumption) ?_
  rotate_left 1
  · intro w hSw; (try dsimp only at hSw); go_simp <;> with_reducible rfl
  try simp only [Act.put, List.setIfInBounds_toArray, List.set_cons_zero, List.set_cons_succ]
  refine wpAnyH_take (i := 2) (oi := { dst := some 45, op := Op.move (Operand.tmp 0), type := 38, pos := "ref.go:61", after := #[], guard := none }) (v := ?_) rfl (by kernel_rfl) (by kernel_rfl) (by kernel_rfl) (fun _ _ _ h => h) (Or.inl ⟨by rfl, ?_⟩) (by assumption) ?_
  rotate_left 1
  · intro w hSw; (try dsimp only at hSw); go_simp <;> with_reducible rfl
  try simp only [Act.put, List.setIfInBounds_toArray, List.set_cons_zero, List.set_cons_succ]
  refine wpAnyH_take (i := 3) (oi := { dst := some 46, op := Op.nilCheck (Operand.tmp 45), type := 0, pos := "ref.go:61", after := #[{ on := 2, ground := Ground.data }], guard := none }) (v := ?_) rfl (by kernel_rfl) (by kernel_rfl) (by kernel_rfl) (fun _ _ _ h => h) (Or.inl ⟨by rfl, ?_⟩) (by assumption) ?_
  rotate_left 1
  · intro w hSw; (try dsimp only at hSw); go_simp <;> with_reducible rfl
  try simp only [Act.put, List.setIfInBounds_toArray, List.set_cons_zero, List.set_cons_succ]
  refine wpAnyH_take (i := 4) (oi := { dst := some 47, op := Op.fieldAddr 45 (Operand.tmp 46) 1, type := 0, pos := "ref.go:61", after := #[{ on := 3, ground := Ground.data }], guard := none }) (v := ?_) rfl (by kernel_rfl) (by kernel_rfl) (by kernel_rfl) (fun _ _ _ h => h) (Or.inl ⟨by rfl, ?_⟩) (by assumption) ?_
  rotate_left 1
  · intro w hSw; (try dsimp only at hSw); go_simp <;> with_reducible rfl
  try simp only [Act.put, List.setIfInBounds_toArray, List.set_cons_zero, List.set_cons_succ]
  refine wpAnyH_take (i := 5) (oi := { dst := some 48, op := Op.load 28 (Operand.tmp 47), type := 28, pos := "ref.go:61", after := #[{ on := 4, ground := Ground.data }], guard := none }) (v := ?_) rfl (by kernel_rfl) (by kernel_rfl) (by kernel_rfl) (fun _ _ _ h => h) (Or.inl ⟨by rfl, ?_⟩) (by assumption) ?_
  rotate_left 1
  · intro w hSw; (try dsimp only at hSw); go_simp <;> with_reducible rfl
  try simp only [Act.put, List.setIfInBounds_toArray, List.set_cons_zero, List.set_cons_succ]
  refine wpAnyH_take (i := 6) (oi := { dst := some 49, op := Op.move (Operand.tmp 7), type := 3, pos := "ref.go:61", after := #[], guard := none }) (v := ?_) rfl (by kernel_rfl) (by kernel_rfl) (by kernel_rfl) (fun _ _ _ h => h) (Or.inl ⟨by rfl, ?_⟩) (by assumption) ?_
  rotate_left 1
  · intro w hSw; (try dsimp only at hSw); go_simp <;> with_reducible rfl
  try simp only [Act.put, List.setIfInBounds_toArray, List.set_cons_zero, List.set_cons_succ]
  refine wpAnyH_take (i := 7) (oi := { dst := some 50, op := Op.slice 28 (Operand.tmp 48) none (some (Operand.tmp 49)) none, type := 28, pos := "ref.go:61", after := #[{ on := 5, ground := Ground.data }, { on := 6, ground := Ground.data }], guard := none }) (v := ?_) rfl (by kernel_rfl) (by kernel_rfl) (by kernel_rfl) (fun _ _ _ h => h) (Or.inl ⟨by rfl, ?_⟩) (by assumption) ?_
  rotate_left 1
  · intro w hSw; (try dsimp only at hSw); go_simp <;> with_reducible rfl
  try simp only [Act.put, List.setIfInBounds_toArray, List.set_cons_zero, List.set_cons_succ]
  refine wpAnyH_take (i := 9) (oi := { dst := some 52, op := Op.move (Operand.tmp 1), type := 3, pos := "ref.go:61", after := #[], guard := none }) (v := ?_) rfl (by kernel_rfl) (by kernel_rfl) (by kernel_rfl) (fun _ _ _ h => h) (Or.inl ⟨by rfl, ?_⟩) (by assumption) ?_
  rotate_left 1
  · intro w hSw; (try dsimp only at hSw); go_simp <;> with_reducible rfl
  try simp only [Act.put, List.setIfInBounds_toArray, List.set_cons_zero, List.set_cons_succ]
  refine wpAnyH_take (i := 12) (oi := { dst := some 55, op := Op.move (Operand.tmp 0), type := 38, pos := "ref.go:61", after := #[], guard := none }) (v := ?_) rfl (by kernel_rfl) (by kernel_rfl) (by kernel_rfl) (fun _ _ _ h => h) (Or.inl ⟨by rfl, ?_⟩) (by assumption) ?_
  rotate_left 1
  · intro w hSw; (try dsimp only at hSw); go_simp <;> with_reducible rfl
  try simp only [Act.put, List.setIfInBounds_toArray, List.set_cons_zero, List.set_cons_succ]
  refine wpAnyH_take (i := 13) (oi := { dst := some 56, op := Op.nilCheck (Operand.tmp 55), type := 0, pos := "ref.go:61", after := #[{ on := 12, ground := Ground.data }], guard := none }) (v := ?_) rfl (by kernel_rfl) (by kernel_rfl) (by kernel_rfl) (fun _ _ _ h => h) (Or.inl ⟨by rfl, ?_⟩) (by assumption) ?_
  rotate_left 1
  · intro w hSw; (try dsimp only at hSw); go_simp <;> with_reducible rfl
  try simp only [Act.put, List.setIfInBounds_toArray, List.set_cons_zero, List.set_cons_succ]
  refine wpAnyH_take (i := 14) (oi := { dst := some 57, op := Op.fieldAddr 45 (Operand.tmp 56) 1, type := 0, pos := "ref.go:61", after := #[{ on := 13, ground := Ground.data }], guard := none }) (v := ?_) rfl (by kernel_rfl) (by kernel_rfl) (by kernel_rfl) (fun _ _ _ h => h) (Or.inl ⟨by rfl, ?_⟩) (by assumption) ?_
  rotate_left 1
  · intro w hSw; (try dsimp only at hSw); go_simp <;> with_reducible rfl
  try simp only [Act.put, List.setIfInBounds_toArray, List.set_cons_zero, List.set_cons_succ]
  refine wpAnyH_take (i := 15) (oi := { dst := some 58, op := Op.load 28 (Operand.tmp 57), type := 28, pos := "ref.go:61", after := #[{ on := 14, ground := Ground.data }], guard := none }) (v := ?_) rfl (by kernel_rfl) (by kernel_rfl) (by kernel_rfl) (fun _ _ _ h => h) (Or.inl ⟨by rfl, ?_⟩) (by assumption) ?_
  rotate_left 1
  · intro w hSw; (try dsimp only at hSw); go_simp <;> with_reducible rfl
  try simp only [Act.put, List.setIfInBounds_toArray, List.set_cons_zero, List.set_cons_succ]
  refine wpAnyH_take (i := 16) (oi := { dst := some 59, op := Op.move (Operand.tmp 7), type := 3, pos := "ref.go:61", after := #[], guard := none }) (v := ?_) rfl (by kernel_rfl) (by kernel_rfl) (by kernel_rfl) (fun _ _ _ h => h) (Or.inl ⟨by rfl, ?_⟩) (by assumption) ?_
  rotate_left 1
  · intro w hSw; (try dsimp only at hSw); go_simp <;> with_reducible rfl
  try simp only [Act.put, List.setIfInBounds_toArray, List.set_cons_zero, List.set_cons_succ]
  refine wpAnyH_take (i := 17) (oi := { dst := some 60, op := Op.slice 28 (Operand.tmp 58) (some (Operand.tmp 59)) none none, type := 28, pos := "ref.go:61", after := #[{ on := 15, ground := Ground.data }, { on := 16, ground := Ground.data }], guard := none }) (v := ?_) rfl (by kernel_rfl) (by kernel_rfl) (by kernel_rfl) (fun _ _ _ h => h) (Or.inl ⟨by rfl, ?_⟩) (by assumption) ?_
  rotate_left 1
  · intro w hSw; (try dsimp only at hSw); go_simp <;> with_reducible rfl
  try simp only [Act.put, List.setIfInBounds_toArray, List.set_cons_zero, List.set_cons_succ]
  refine wpAnyH_ready (rs := [1, 10]) (by kernel_rfl) (by simp) ?_
  refine AllReadyH.cons (o := { dst := some 44, op := Op.buildSlice 28 0 #[], type := 28, pos := "ref.go:61", after := #[], guard := none }) rfl (fun K hK => ?_) ?_
  · go_simp
    refine hK.out _ _ ?_ ?_
    · (try dsimp only); exact keepS hHeld (World.grownBy_alloc _ _ none) (by simp)
    clear hK K hHeld; intro hHeld
    try simp only [Act.put, List.setIfInBounds_toArray, List.set_cons_zero, List.set_cons_succ]
    refine wpAnyH_ready (rs := [8, 10]) (by kernel_rfl) (by simp) ?_
    refine AllReadyH.cons (o := { dst := some 51, op := Op.call { callee := Callee.builtin Builtin.append, args := #[Operand.tmp 44, Operand.tmp 50], argTypes := #[28, 28] }, type := 28, pos := "ref.go:61", after := #[{ on := 1, ground := Ground.data }, { on := 7, ground := Ground.data }], guard := none }) rfl (fun K hK => ?_) ?_
    · refine step_append_at rfl (.tmp 44) (.tmp 50) 28 rfl 0 3 i0 (.int .i64 0) 1 8 Try.underlying28 hi0 hz0 hz1 hz2 rfl (by decide) _ 0 [] (by simp [Act.eval]) O1.out ⟨g, 0, none⟩ 0 cap (ints (([] : List Int).take 0)) (by simp [Act.eval]) T1.out (news_at V1.out (take_at ([] : List Int) 0)) (ints_one _) (by have := hmx.out; omega) (by omega) (by omega) ?_; intro v1 w1 hown1 hgrow1 hat1 hnn1
      refine hK.out _ _ ?_ ?_
      · (try dsimp only); exact keepS hHeld hgrow1 (by simp [Value.ownBlock]; omega)
      clear hK K hHeld; intro hHeld
      try simp only [Act.put, List.setIfInBounds_toArray, List.set_cons_zero, List.set_cons_succ]
      refine wpAnyH_ready (rs := [10]) (by kernel_rfl) (by simp) ?_
      refine AllReadyH.cons (o := { dst := some 53, op := Op.buildSlice 28 1 #[(0, Operand.tmp 52)], type := 28, pos := "ref.go:61", after := #[{ on := 9, ground := Ground.data }], guard := none }) rfl (fun K hK => ?_) ?_
      · go_simp
        refine hK.out _ _ ?_ ?_
        · (try dsimp only); exact keepS hHeld (World.grownBy_alloc _ _ none) (by simp)
        clear hK K hHeld; intro hHeld
        try simp only [Act.put, List.setIfInBounds_toArray, List.set_cons_zero, List.set_cons_succ]
        refine wpAnyH_ready (rs := [11]) (by kernel_rfl) (by simp) ?_
        refine AllReadyH.cons (o := { dst := some 54, op := Op.call { callee := Callee.builtin Builtin.append, args := #[Operand.tmp 51, Operand.tmp 53], argTypes := #[28, 28] }, type := 28, pos := "ref.go:61", after := #[{ on := 8, ground := Ground.data }, { on := 10, ground := Ground.data }, { on := 8, ground := Ground.chain }], guard := none }) rfl (fun K hK => ?_) ?_
        · refine step_append_at rfl (.tmp 51) (.tmp 53) 28 rfl 0 3 i0 (.int .i64 0) 1 8 Try.underlying28 hi0 hz0 hz1 hz2 rfl (by decide) v1 _ _ (by simp [Act.eval]) (hown1.alloc _) ⟨w1.heap.size, 0, none⟩ 1 1 (ints [i]) (by simp [Act.eval]) (by simp [ints]) (one_at ((World.cell?_alloc_new _ _ _ 0).trans rfl)) (ints_one _) (by have := hmx.out; omega) (by omega) (by omega) ?_; intro v2 w2 hown2 hgrow2 hat2 hnn2
          refine hK.out _ _ ?_ ?_
          · (try dsimp only); exact keepS hHeld hgrow2 (farb1 hat1 rfl (by first | omega | (simp; done) | (simp; omega)) (by first | omega | (simp; done) | (simp; omega)))
          clear hK K hHeld; intro hHeld
          try simp only [Act.put, List.setIfInBounds_toArray, List.set_cons_zero, List.set_cons_succ]
          refine wpAnyH_ready (rs := [18]) (by kernel_rfl) (by simp) ?_
          refine AllReadyH.cons (o := { dst := some 61, op := Op.call { callee := Callee.builtin Builtin.append, args := #[Operand.tmp 54, Operand.tmp 60], argTypes := #[28, 28] }, type := 28, pos := "ref.go:61", after := #[{ on := 11, ground := Ground.data }, { on := 17, ground := Ground.data }, { on := 11, ground := Ground.chain }], guard := none }) rfl (fun K hK => ?_) ?_
          · refine step_append_at rfl (.tmp 54) (.tmp 60) 28 rfl 0 3 i0 (.int .i64 0) 1 8 Try.underlying28 hi0 hz0 hz1 hz2 rfl (by decide) v2 _ _ (by simp [Act.eval]) hown2 ⟨g, 0, none⟩ 0 cap (ints (([] : List Int).drop 0)) (by simp [Act.eval]) D1.out (HA.out _ (((V1.out.kept hgrow1 (by simp [Value.ownBlock]; omega)).alloc _).kept hgrow2 (Or.inr (farb1 (b := g) hat1 rfl (by first | omega | (simp; done) | (simp; omega)) (by first | omega | (simp; done) | (simp; omega)))))) (ints_one _) (by have := hmx.out; omega) (by omega) (by omega) ?_; intro v3 w3 hown3 hgrow3 hat3 hnn3; obtain ⟨x3, n3, c3, rfl⟩ := slice_form hown3
            refine hK.out _ _ ?_ ?_
            · (try dsimp only); exact keepS hHeld hgrow3 (farb2 hat2 (farb1 hat1 rfl (by first | omega | (simp; done) | (simp; omega)) (by first | omega | (simp; done) | (simp; omega))) (by have h9 := hgrow1.size; simp at h9 ⊢; omega))
            clear hK K hHeld; intro hHeld
            try simp only [Act.put, List.setIfInBounds_toArray, List.set_cons_zero, List.set_cons_succ]
            refine wpAnyH_ready (rs := [19]) (by kernel_rfl) (by simp) ?_
            refine AllReadyH.cons (o := { dst := some 62, op := Op.nilCheck (Operand.tmp 43), type := 0, pos := "ref.go:61", after := #[{ on := 0, ground := Ground.data }, { on := 0, ground := Ground.phase }, { on := 1, ground := Ground.phase }, { on := 2, ground := Ground.phase }, { on := 3, ground := Ground.phase }, { on := 4, ground := Ground.phase }, { on := 5, ground := Ground.phase }, { on := 6, ground := Ground.phase }, { on := 7, ground := Ground.phase }, { on := 8, ground := Ground.phase }, { on := 9, ground := Ground.phase }, { on := 10, ground := Ground.phase }, { on := 11, ground := Ground.phase }, { on := 12, ground := Ground.phase }, { on := 13, ground := Ground.phase }, { on := 14, ground := Ground.phase }, { on := 15, ground := Ground.phase }, { on := 16, ground := Ground.phase }, { on := 17, ground := Ground.phase }, { on := 18, ground := Ground.phase }], guard := none }) rfl (fun K hK => ?_) ?_
            · go_simp
              refine hK.out _ _ ?_ ?_
              · (try dsimp only); assumption
              clear hK K hHeld; intro hHeld
              try simp only [Act.put, List.setIfInBounds_toArray, List.set_cons_zero, List.set_cons_succ]
              refine wpAnyH_take (i := 20) (oi := { dst := some 63, op := Op.fieldAddr 45 (Operand.tmp 62) 1, type := 0, pos := "ref.go:61", after := #[{ on := 19, ground := Ground.data }, { on := 0, ground := Ground.phase }, { on := 1, ground := Ground.phase }, { on := 2, ground := Ground.phase }, { on := 3, ground := Ground.phase }, { on := 4, ground := Ground.phase }, { on := 5, ground := Ground.phase }, { on := 6, ground := Ground.phase }, { on := 7, ground := Ground.phase }, { on := 8, ground := Ground.phase }, { on := 9, ground := Ground.phase }, { on := 10, ground := Ground.phase }, { on := 11, ground := Ground.phase }, { on := 12, ground := Ground.phase }, { on := 13, ground := Ground.phase }, { on := 14, ground := Ground.phase }, { on := 15, ground := Ground.phase }, { on := 16, ground := Ground.phase }, { on := 17, ground := Ground.phase }, { on := 18, ground := Ground.phase }], guard := none }) (v := ?_) rfl (by kernel_rfl) (by kernel_rfl) (by kernel_rfl) (fun _ _ _ h => h) (Or.inl ⟨by rfl, ?_⟩) (by assumption) ?_
              rotate_left 1
              · intro w hSw; (try dsimp only at hSw); go_simp <;> with_reducible rfl
              try simp only [Act.put, List.setIfInBounds_toArray, List.set_cons_zero, List.set_cons_succ]
              refine last_step (o := { dst := none, op := Op.store 28 (Operand.tmp 63) (Operand.tmp 61), type := 0, pos := "ref.go:61", after := #[{ on := 20, ground := Ground.data }, { on := 18, ground := Ground.data }, { on := 18, ground := Ground.chain }, { on := 0, ground := Ground.phase }, { on := 1, ground := Ground.phase }, { on := 2, ground := Ground.phase }, { on := 3, ground := Ground.phase }, { on := 4, ground := Ground.phase }, { on := 5, ground := Ground.phase }, { on := 6, ground := Ground.phase }, { on := 7, ground := Ground.phase }, { on := 8, ground := Ground.phase }, { on := 9, ground := Ground.phase }, { on := 10, ground := Ground.phase }, { on := 11, ground := Ground.phase }, { on := 12, ground := Ground.phase }, { on := 13, ground := Ground.phase }, { on := 14, ground := Ground.phase }, { on := 15, ground := Ground.phase }, { on := 16, ground := Ground.phase }, { on := 17, ground := Ground.phase }, { on := 18, ground := Ground.phase }], guard := none }) rfl (by kernel_rfl) (fun K hK => ?_)
              go_simp
              refine hK.out _ _ ?_
              clear hK K
              try simp only [Act.put, List.setIfInBounds_toArray, List.set_cons_zero, List.set_cons_succ]
              obtain ⟨_, _, B3, F3⟩ := grow3 (w := w) (r := w.heap.size) (((Below.refl _ _).alloc (Nat.le_refl _) _).drew) hgrow1 rfl (by omega) hat1 ((Below.refl _ _).alloc (Nat.le_refl _) _) hgrow2 hat2 hgrow3 hat3
              have own3 := own_in (by simp) hown3
              have R3 := Lib.hid (ref_stored B3 hHeld own3 (fun g hg => fun e => (F3 g hg).2.2.2 e.symm) (fun e => by have := (hnn1.1 (hnn2.1 (hnn3.1 e).1).1).1; cases this) hb)
              clear B3 F3 own3
              go_wp2
              go_ret
              exact ⟨rfl, _, by simpa using R3.out.1, R3.out.2⟩
            exact AllReadyH.nil
          exact AllReadyH.nil
        exact AllReadyH.nil
      exact AllReadyH.nil
    refine AllReadyH.cons (o := { dst := some 53, op := Op.buildSlice 28 1 #[(0, Operand.tmp 52)], type := 28, pos := "ref.go:61", after := #[{ on := 9, ground := Ground.data }], guard := none }) rfl (fun K hK => ?_) ?_
    · go_simp
      refine hK.out _ _ ?_ ?_
      · (try dsimp only); exact keepS hHeld (World.grownBy_alloc _ _ none) (by simp)
      clear hK K hHeld; intro hHeld
      try simp only [Act.put, List.setIfInBounds_toArray, List.set_cons_zero, List.set_cons_succ]
      refine wpAnyH_ready (rs := [8]) (by kernel_rfl) (by simp) ?_
      refine AllReadyH.cons (o := { dst := some 51, op := Op.call { callee := Callee.builtin Builtin.append, args := #[Operand.tmp 44, Operand.tmp 50], argTypes := #[28, 28] }, type := 28, pos := "ref.go:61", after := #[{ on := 1, ground := Ground.data }, { on := 7, ground := Ground.data }], guard := none }) rfl (fun K hK => ?_) ?_
      · refine step_append_at rfl (.tmp 44) (.tmp 50) 28 rfl 0 3 i0 (.int .i64 0) 1 8 Try.underlying28 hi0 hz0 hz1 hz2 rfl (by decide) _ 0 [] (by simp [Act.eval]) O2.out ⟨g, 0, none⟩ 0 cap (ints (([] : List Int).take 0)) (by simp [Act.eval]) T1.out (news_at V2.out (take_at ([] : List Int) 0)) (ints_one _) (by have := hmx.out; omega) (by omega) (by omega) ?_; intro v1 w1 hown1 hgrow1 hat1 hnn1
        refine hK.out _ _ ?_ ?_
        · (try dsimp only); exact keepS hHeld hgrow1 (by simp [Value.ownBlock]; omega)
        clear hK K hHeld; intro hHeld
        try simp only [Act.put, List.setIfInBounds_toArray, List.set_cons_zero, List.set_cons_succ]
        refine wpAnyH_ready (rs := [11]) (by kernel_rfl) (by simp) ?_
        refine AllReadyH.cons (o := { dst := some 54, op := Op.call { callee := Callee.builtin Builtin.append, args := #[Operand.tmp 51, Operand.tmp 53], argTypes := #[28, 28] }, type := 28, pos := "ref.go:61", after := #[{ on := 8, ground := Ground.data }, { on := 10, ground := Ground.data }, { on := 8, ground := Ground.chain }], guard := none }) rfl (fun K hK => ?_) ?_
        · refine step_append_at rfl (.tmp 51) (.tmp 53) 28 rfl 0 3 i0 (.int .i64 0) 1 8 Try.underlying28 hi0 hz0 hz1 hz2 rfl (by decide) v1 _ _ (by simp [Act.eval]) hown1 ⟨w.heap.size + 1, 0, none⟩ 1 1 (ints [i]) (by simp [Act.eval]) (by simp [ints]) (one_at (hgrow1.cell C2.out (by simp [Value.ownBlock]))) (ints_one _) (by have := hmx.out; omega) (by omega) (by omega) ?_; intro v2 w2 hown2 hgrow2 hat2 hnn2
          refine hK.out _ _ ?_ ?_
          · (try dsimp only); exact keepS hHeld hgrow2 (farb1 hat1 rfl (by first | omega | (simp; done) | (simp; omega)) (by first | omega | (simp; done) | (simp; omega)))
          clear hK K hHeld; intro hHeld
          try simp only [Act.put, List.setIfInBounds_toArray, List.set_cons_zero, List.set_cons_succ]
          refine wpAnyH_ready (rs := [18]) (by kernel_rfl) (by simp) ?_
          refine AllReadyH.cons (o := { dst := some 61, op := Op.call { callee := Callee.builtin Builtin.append, args := #[Operand.tmp 54, Operand.tmp 60], argTypes := #[28, 28] }, type := 28, pos := "ref.go:61", after := #[{ on := 11, ground := Ground.data }, { on := 17, ground := Ground.data }, { on := 11, ground := Ground.chain }], guard := none }) rfl (fun K hK => ?_) ?_
          · refine step_append_at rfl (.tmp 54) (.tmp 60) 28 rfl 0 3 i0 (.int .i64 0) 1 8 Try.underlying28 hi0 hz0 hz1 hz2 rfl (by decide) v2 _ _ (by simp [Act.eval]) hown2 ⟨g, 0, none⟩ 0 cap (ints (([] : List Int).drop 0)) (by simp [Act.eval]) D1.out (HA.out _ ((V2.out.kept hgrow1 (by simp [Value.ownBlock]; omega)).kept hgrow2 (Or.inr (farb1 (b := g) hat1 rfl (by first | omega | (simp; done) | (simp; omega)) (by first | omega | (simp; done) | (simp; omega)))))) (ints_one _) (by have := hmx.out; omega) (by omega) (by omega) ?_; intro v3 w3 hown3 hgrow3 hat3 hnn3; obtain ⟨x3, n3, c3, rfl⟩ := slice_form hown3
            refine hK.out _ _ ?_ ?_
            · (try dsimp only); exact keepS hHeld hgrow3 (farb2 hat2 (farb1 hat1 rfl (by first | omega | (simp; done) | (simp; omega)) (by first | omega | (simp; done) | (simp; omega))) (by have h9 := hgrow1.size; simp at h9 ⊢; omega))
            clear hK K hHeld; intro hHeld
            try simp only [Act.put, List.setIfInBounds_toArray, List.set_cons_zero, List.set_cons_succ]
            refine wpAnyH_ready (rs := [19]) (by kernel_rfl) (by simp) ?_
            refine AllReadyH.cons (o := { dst := some 62, op := Op.nilCheck (Operand.tmp 43), type := 0, pos := "ref.go:61", after := #[{ on := 0, ground := Ground.data }, { on := 0, ground := Ground.phase }, { on := 1, ground := Ground.phase }, { on := 2, ground := Ground.phase }, { on := 3, ground := Ground.phase }, { on := 4, ground := Ground.phase }, { on := 5, ground := Ground.phase }, { on := 6, ground := Ground.phase }, { on := 7, ground := Ground.phase }, { on := 8, ground := Ground.phase }, { on := 9, ground := Ground.phase }, { on := 10, ground := Ground.phase }, { on := 11, ground := Ground.phase }, { on := 12, ground := Ground.phase }, { on := 13, ground := Ground.phase }, { on := 14, ground := Ground.phase }, { on := 15, ground := Ground.phase }, { on := 16, ground := Ground.phase }, { on := 17, ground := Ground.phase }, { on := 18, ground := Ground.phase }], guard := none }) rfl (fun K hK => ?_) ?_
            · go_simp
              refine hK.out _ _ ?_ ?_
              · (try dsimp only); assumption
              clear hK K hHeld; intro hHeld
              try simp only [Act.put, List.setIfInBounds_toArray, List.set_cons_zero, List.set_cons_succ]
              refine wpAnyH_take (i := 20) (oi := { dst := some 63, op := Op.fieldAddr 45 (Operand.tmp 62) 1, type := 0, pos := "ref.go:61", after := #[{ on := 19, ground := Ground.data }, { on := 0, ground := Ground.phase }, { on := 1, ground := Ground.phase }, { on := 2, ground := Ground.phase }, { on := 3, ground := Ground.phase }, { on := 4, ground := Ground.phase }, { on := 5, ground := Ground.phase }, { on := 6, ground := Ground.phase }, { on := 7, ground := Ground.phase }, { on := 8, ground := Ground.phase }, { on := 9, ground := Ground.phase }, { on := 10, ground := Ground.phase }, { on := 11, ground := Ground.phase }, { on := 12, ground := Ground.phase }, { on := 13, ground := Ground.phase }, { on := 14, ground := Ground.phase }, { on := 15, ground := Ground.phase }, { on := 16, ground := Ground.phase }, { on := 17, ground := Ground.phase }, { on := 18, ground := Ground.phase }], guard := none }) (v := ?_) rfl (by kernel_rfl) (by kernel_rfl) (by kernel_rfl) (fun _ _ _ h => h) (Or.inl ⟨by rfl, ?_⟩) (by assumption) ?_
              rotate_left 1
              · intro w hSw; (try dsimp only at hSw); go_simp <;> with_reducible rfl
              try simp only [Act.put, List.setIfInBounds_toArray, List.set_cons_zero, List.set_cons_succ]
              refine last_step (o := { dst := none, op := Op.store 28 (Operand.tmp 63) (Operand.tmp 61), type := 0, pos := "ref.go:61", after := #[{ on := 20, ground := Ground.data }, { on := 18, ground := Ground.data }, { on := 18, ground := Ground.chain }, { on := 0, ground := Ground.phase }, { on := 1, ground := Ground.phase }, { on := 2, ground := Ground.phase }, { on := 3, ground := Ground.phase }, { on := 4, ground := Ground.phase }, { on := 5, ground := Ground.phase }, { on := 6, ground := Ground.phase }, { on := 7, ground := Ground.phase }, { on := 8, ground := Ground.phase }, { on := 9, ground := Ground.phase }, { on := 10, ground := Ground.phase }, { on := 11, ground := Ground.phase }, { on := 12, ground := Ground.phase }, { on := 13, ground := Ground.phase }, { on := 14, ground := Ground.phase }, { on := 15, ground := Ground.phase }, { on := 16, ground := Ground.phase }, { on := 17, ground := Ground.phase }, { on := 18, ground := Ground.phase }], guard := none }) rfl (by kernel_rfl) (fun K hK => ?_)
              go_simp
              refine hK.out _ _ ?_
              clear hK K
              try simp only [Act.put, List.setIfInBounds_toArray, List.set_cons_zero, List.set_cons_succ]
              obtain ⟨_, _, B3, F3⟩ := grow3 (w := w) (r := w.heap.size) ((((Below.refl _ _).alloc (Nat.le_refl _) _).alloc (by simp) _).drew) hgrow1 rfl (by omega) hat1 (Below.refl _ _) hgrow2 hat2 hgrow3 hat3
              have own3 := own_in (by simp) hown3
              have R3 := Lib.hid (ref_stored B3 hHeld own3 (fun g hg => fun e => (F3 g hg).2.2.2 e.symm) (fun e => by have := (hnn1.1 (hnn2.1 (hnn3.1 e).1).1).1; cases this) hb)
              clear B3 F3 own3
              go_wp2
              go_ret
              exact ⟨rfl, _, by simpa using R3.out.1, R3.out.2⟩
            exact AllReadyH.nil
          exact AllReadyH.nil
        exact AllReadyH.nil
      exact AllReadyH.nil
    exact AllReadyH.nil
  refine AllReadyH.cons (o := { dst := some 53, op := Op.buildSlice 28 1 #[(0, Operand.tmp 52)], type := 28, pos := "ref.go:61", after := #[{ on := 9, ground := Ground.data }], guard := none }) rfl (fun K hK => ?_) ?_
  · go_simp
    refine hK.out _ _ ?_ ?_
    · (try dsimp only); exact keepS hHeld (World.grownBy_alloc _ _ none) (by simp)
    clear hK K hHeld; intro hHeld
    try simp only [Act.put, List.setIfInBounds_toArray, List.set_cons_zero, List.set_cons_succ]
    refine wpAnyH_ready (rs := [1]) (by kernel_rfl) (by simp) ?_
    refine AllReadyH.cons (o := { dst := some 44, op := Op.buildSlice 28 0 #[], type := 28, pos := "ref.go:61", after := #[], guard := none }) rfl (fun K hK => ?_) ?_
    · go_simp
      refine hK.out _ _ ?_ ?_
      · (try dsimp only); exact keepS hHeld (World.grownBy_alloc _ _ none) (by simp)
      clear hK K hHeld; intro hHeld
      try simp only [Act.put, List.setIfInBounds_toArray, List.set_cons_zero, List.set_cons_succ]
      refine wpAnyH_ready (rs := [8]) (by kernel_rfl) (by simp) ?_
      refine AllReadyH.cons (o := { dst := some 51, op := Op.call { callee := Callee.builtin Builtin.append, args := #[Operand.tmp 44, Operand.tmp 50], argTypes := #[28, 28] }, type := 28, pos := "ref.go:61", after := #[{ on := 1, ground := Ground.data }, { on := 7, ground := Ground.data }], guard := none }) rfl (fun K hK => ?_) ?_
      · refine step_append_at rfl (.tmp 44) (.tmp 50) 28 rfl 0 3 i0 (.int .i64 0) 1 8 Try.underlying28 hi0 hz0 hz1 hz2 rfl (by decide) _ 0 [] (by simp [Act.eval]) O3.out ⟨g, 0, none⟩ 0 cap (ints (([] : List Int).take 0)) (by simp [Act.eval]) T1.out (news_at V3.out (take_at ([] : List Int) 0)) (ints_one _) (by have := hmx.out; omega) (by omega) (by omega) ?_; intro v1 w1 hown1 hgrow1 hat1 hnn1
        refine hK.out _ _ ?_ ?_
        · (try dsimp only); exact keepS hHeld hgrow1 (by simp [Value.ownBlock]; omega)
        clear hK K hHeld; intro hHeld
        try simp only [Act.put, List.setIfInBounds_toArray, List.set_cons_zero, List.set_cons_succ]
        refine wpAnyH_ready (rs := [11]) (by kernel_rfl) (by simp) ?_
        refine AllReadyH.cons (o := { dst := some 54, op := Op.call { callee := Callee.builtin Builtin.append, args := #[Operand.tmp 51, Operand.tmp 53], argTypes := #[28, 28] }, type := 28, pos := "ref.go:61", after := #[{ on := 8, ground := Ground.data }, { on := 10, ground := Ground.data }, { on := 8, ground := Ground.chain }], guard := none }) rfl (fun K hK => ?_) ?_
        · refine step_append_at rfl (.tmp 51) (.tmp 53) 28 rfl 0 3 i0 (.int .i64 0) 1 8 Try.underlying28 hi0 hz0 hz1 hz2 rfl (by decide) v1 _ _ (by simp [Act.eval]) hown1 ⟨w.heap.size, 0, none⟩ 1 1 (ints [i]) (by simp [Act.eval]) (by simp [ints]) (one_at (hgrow1.cell C3.out (by simp [Value.ownBlock]))) (ints_one _) (by have := hmx.out; omega) (by omega) (by omega) ?_; intro v2 w2 hown2 hgrow2 hat2 hnn2
          refine hK.out _ _ ?_ ?_
          · (try dsimp only); exact keepS hHeld hgrow2 (farb1 hat1 rfl (by first | omega | (simp; done) | (simp; omega)) (by first | omega | (simp; done) | (simp; omega)))
          clear hK K hHeld; intro hHeld
          try simp only [Act.put, List.setIfInBounds_toArray, List.set_cons_zero, List.set_cons_succ]
          refine wpAnyH_ready (rs := [18]) (by kernel_rfl) (by simp) ?_
          refine AllReadyH.cons (o := { dst := some 61, op := Op.call { callee := Callee.builtin Builtin.append, args := #[Operand.tmp 54, Operand.tmp 60], argTypes := #[28, 28] }, type := 28, pos := "ref.go:61", after := #[{ on := 11, ground := Ground.data }, { on := 17, ground := Ground.data }, { on := 11, ground := Ground.chain }], guard := none }) rfl (fun K hK => ?_) ?_
          · refine step_append_at rfl (.tmp 54) (.tmp 60) 28 rfl 0 3 i0 (.int .i64 0) 1 8 Try.underlying28 hi0 hz0 hz1 hz2 rfl (by decide) v2 _ _ (by simp [Act.eval]) hown2 ⟨g, 0, none⟩ 0 cap (ints (([] : List Int).drop 0)) (by simp [Act.eval]) D1.out (HA.out _ ((V3.out.kept hgrow1 (by simp [Value.ownBlock]; omega)).kept hgrow2 (Or.inr (farb1 (b := g) hat1 rfl (by first | omega | (simp; done) | (simp; omega)) (by first | omega | (simp; done) | (simp; omega)))))) (ints_one _) (by have := hmx.out; omega) (by omega) (by omega) ?_; intro v3 w3 hown3 hgrow3 hat3 hnn3; obtain ⟨x3, n3, c3, rfl⟩ := slice_form hown3
            refine hK.out _ _ ?_ ?_
            · (try dsimp only); exact keepS hHeld hgrow3 (farb2 hat2 (farb1 hat1 rfl (by first | omega | (simp; done) | (simp; omega)) (by first | omega | (simp; done) | (simp; omega))) (by have h9 := hgrow1.size; simp at h9 ⊢; omega))
            clear hK K hHeld; intro hHeld
            try simp only [Act.put, List.setIfInBounds_toArray, List.set_cons_zero, List.set_cons_succ]
            refine wpAnyH_ready (rs := [19]) (by kernel_rfl) (by simp) ?_
            refine AllReadyH.cons (o := { dst := some 62, op := Op.nilCheck (Operand.tmp 43), type := 0, pos := "ref.go:61", after := #[{ on := 0, ground := Ground.data }, { on := 0, ground := Ground.phase }, { on := 1, ground := Ground.phase }, { on := 2, ground := Ground.phase }, { on := 3, ground := Ground.phase }, { on := 4, ground := Ground.phase }, { on := 5, ground := Ground.phase }, { on := 6, ground := Ground.phase }, { on := 7, ground := Ground.phase }, { on := 8, ground := Ground.phase }, { on := 9, ground := Ground.phase }, { on := 10, ground := Ground.phase }, { on := 11, ground := Ground.phase }, { on := 12, ground := Ground.phase }, { on := 13, ground := Ground.phase }, { on := 14, ground := Ground.phase }, { on := 15, ground := Ground.phase }, { on := 16, ground := Ground.phase }, { on := 17, ground := Ground.phase }, { on := 18, ground := Ground.phase }], guard := none }) rfl (fun K hK => ?_) ?_
            · go_simp
              refine hK.out _ _ ?_ ?_
              · (try dsimp only); assumption
              clear hK K hHeld; intro hHeld
              try simp only [Act.put, List.setIfInBounds_toArray, List.set_cons_zero, List.set_cons_succ]
              refine wpAnyH_take (i := 20) (oi := { dst := some 63, op := Op.fieldAddr 45 (Operand.tmp 62) 1, type := 0, pos := "ref.go:61", after := #[{ on := 19, ground := Ground.data }, { on := 0, ground := Ground.phase }, { on := 1, ground := Ground.phase }, { on := 2, ground := Ground.phase }, { on := 3, ground := Ground.phase }, { on := 4, ground := Ground.phase }, { on := 5, ground := Ground.phase }, { on := 6, ground := Ground.phase }, { on := 7, ground := Ground.phase }, { on := 8, ground := Ground.phase }, { on := 9, ground := Ground.phase }, { on := 10, ground := Ground.phase }, { on := 11, ground := Ground.phase }, { on := 12, ground := Ground.phase }, { on := 13, ground := Ground.phase }, { on := 14, ground := Ground.phase }, { on := 15, ground := Ground.phase }, { on := 16, ground := Ground.phase }, { on := 17, ground := Ground.phase }, { on := 18, ground := Ground.phase }], guard := none }) (v := ?_) rfl (by kernel_rfl) (by kernel_rfl) (by kernel_rfl) (fun _ _ _ h => h) (Or.inl ⟨by rfl, ?_⟩) (by assumption) ?_
              rotate_left 1
              · intro w hSw; (try dsimp only at hSw); go_simp <;> with_reducible rfl
              try simp only [Act.put, List.setIfInBounds_toArray, List.set_cons_zero, List.set_cons_succ]
              refine last_step (o := { dst := none, op := Op.store 28 (Operand.tmp 63) (Operand.tmp 61), type := 0, pos := "ref.go:61", after := #[{ on := 20, ground := Ground.data }, { on := 18, ground := Ground.data }, { on := 18, ground := Ground.chain }, { on := 0, ground := Ground.phase }, { on := 1, ground := Ground.phase }, { on := 2, ground := Ground.phase }, { on := 3, ground := Ground.phase }, { on := 4, ground := Ground.phase }, { on := 5, ground := Ground.phase }, { on := 6, ground := Ground.phase }, { on := 7, ground := Ground.phase }, { on := 8, ground := Ground.phase }, { on := 9, ground := Ground.phase }, { on := 10, ground := Ground.phase }, { on := 11, ground := Ground.phase }, { on := 12, ground := Ground.phase }, { on := 13, ground := Ground.phase }, { on := 14, ground := Ground.phase }, { on := 15, ground := Ground.phase }, { on := 16, ground := Ground.phase }, { on := 17, ground := Ground.phase }, { on := 18, ground := Ground.phase }], guard := none }) rfl (by kernel_rfl) (fun K hK => ?_)
              go_simp
              refine hK.out _ _ ?_
              clear hK K
              try simp only [Act.put, List.setIfInBounds_toArray, List.set_cons_zero, List.set_cons_succ]
              obtain ⟨_, _, B3, F3⟩ := grow3 (w := w) (r := (w.heap.size + 1)) ((((Below.refl _ _).alloc (Nat.le_refl _) _).alloc (by simp) _).drew) hgrow1 rfl (by omega) hat1 (Below.refl _ _) hgrow2 hat2 hgrow3 hat3
              have own3 := own_in (by simp) hown3
              have R3 := Lib.hid (ref_stored B3 hHeld own3 (fun g hg => fun e => (F3 g hg).2.2.2 e.symm) (fun e => by have := (hnn1.1 (hnn2.1 (hnn3.1 e).1).1).1; cases this) hb)
              clear B3 F3 own3
              go_wp2
              go_ret
              exact ⟨rfl, _, by simpa using R3.out.1, R3.out.2⟩
            exact AllReadyH.nil
          exact AllReadyH.nil
        exact AllReadyH.nil
      exact AllReadyH.nil
    exact AllReadyH.nil
  exact AllReadyH.nil
end Wd
end Go.Proofs.Ytdfmbeilmbnpiaa
