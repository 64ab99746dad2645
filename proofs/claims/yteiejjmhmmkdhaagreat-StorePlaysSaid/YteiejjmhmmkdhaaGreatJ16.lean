/- Texts joined: YI. -/
import Derived.Test.YteiejjmhmmkdhaaGreatJ15
/- The walk: StorePlays. -/
namespace Go.Proofs.YteiejjmhmmkdhaaGreat
open Go.RowKit
set_option linter.unusedVariables false
set_option maxRecDepth 20000
namespace Wd
abbrev Ak8 := Int × Int × Int × Int
def quad8 : List Ak8 → List Value
  | [] => []
  | t :: T => .int .i64 t.1 :: .int .i64 t.2.1 :: .int .i64 t.2.2.1 :: .int .i64 t.2.2.2 :: quad8 T
theorem quad8_app : ∀ (A B : List Ak8), quad8 (A ++ B) = quad8 A ++ quad8 B
  | [], _ => rfl
  | t :: A, B => by simp [quad8, quad8_app A B]
theorem quad8_get : ∀ (T : List Ak8) (k : Nat) (t : Ak8), T[k]? = some t → (quad8 T)[k * 4]? = some (.int .i64 t.1) ∧ (quad8 T)[k * 4 + 1]? = some (.int .i64 t.2.1) ∧ (quad8 T)[k * 4 + 2]? = some (.int .i64 t.2.2.1) ∧ (quad8 T)[k * 4 + 3]? = some (.int .i64 t.2.2.2)
  | [], k, t, h => by simp at h
  | s :: T, 0, t, h => by simp at h; subst h; simp [quad8]
  | s :: T, k + 1, t, h => by
    have := quad8_get T k t (by simpa using h)
    rw [show (k + 1) * 4 = k * 4 + 4 by omega]
    simpa [quad8] using this
def akB8 (t : Ak8) : Prop := b64 t.1 ∧ b64 t.2.1 ∧ b64 t.2.2.1 ∧ b64 t.2.2.2
theorem asks_own8 {w : World} {k : Nat} {v : Value} {T : List Ak8} (h : w.ownsRow 0 24 4 v k (quad8 T)) (hk : T.length = k) (hb : ∀ t, t ∈ T → akB8 t) :
    ∃ ad cap, v = .slice ad k cap ∧ AskV8 w ad k := by
  rcases h.2 with ⟨rfl, h0⟩ | ⟨g, cap, cur, rfl, h1, h2, h3⟩
  · exact ⟨_, _, by rw [h0], fun q hq => by omega⟩
  · refine ⟨_, _, rfl, fun q hq => ?_⟩
    obtain ⟨t, ht⟩ : ∃ t, T[q]? = some t := ⟨T[q]'(by omega), by simp⟩
    obtain ⟨c0, c1, c2, c3⟩ := quad8_get T q t ht
    obtain ⟨b0, b1, b2, b3⟩ := hb t (List.mem_of_getElem? ht)
    refine ⟨g, 0, t.1, t.2.1, t.2.2.1, t.2.2.2, rfl, b0, b1, b2, b3, ?_, ?_, ?_, ?_⟩
    · rw [Nat.zero_add]; exact (h.cellAt (q * 4) (by omega)).trans c0
    · rw [Nat.zero_add]; exact (h.cellAt (q * 4 + 1) (by omega)).trans c1
    · rw [Nat.zero_add]; exact (h.cellAt (q * 4 + 2) (by omega)).trans c2
    · rw [Nat.zero_add]; exact (h.cellAt (q * 4 + 3) (by omega)).trans c3
theorem infoA8 : (Tryz.prog.info? 24).map (fun i => (i.zero, i.size, i.bytes)) = some (some (.agg #[.int .i64 0, .int .i64 0, .int .i64 0, .int .i64 0]), 4, 32) := by kernel_rfl
theorem rd_four (w : World) (u1 u2 u3 u4 : Value) (T : TypeId) : Rd (w.alloc (.cells #[u1, u2, u3, u4] T)) (.slice (some ⟨w.heap.size, 0, none⟩) 1 1) 1 [u1, u2, u3, u4] := by
  refine Or.inr ⟨_, _, rfl, fun j x hx => ?_⟩
  match j, hx with
  | 0, hx => simp at hx; subst hx; rw [Addr.add_lit]; simp
  | 1, hx => simp at hx; subst hx; rw [Addr.add_lit]; simp
  | 2, hx => simp at hx; subst hx; rw [Addr.add_lit]; simp
  | 3, hx => simp at hx; subst hx; rw [Addr.add_lit]; simp
/-- the asks made so far -/
structure Sm8 (w wr : World) (v : Value) (T : List Ak8) : Prop where
  bel : Below w.heap.size w wr
  own : wr.ownsRow 0 24 4 v T.length (quad8 T)
  vb : ∀ k, v.ownBlock = some k → w.heap.size ≤ k
  bd : ∀ t, t ∈ T → akB8 t
section
variable {w wr w1 w2 : World} {v v' : Value} {T : List Ak8}
theorem Sm8.up (h : Sm8 w wr v T) (g : Below wr.heap.size wr w1) : Sm8 w w1 v T :=
  ⟨h.bel.trans (g.mono h.bel.size), own_same h.own (fun k hk => g.block k (own_lt h.own k hk)) g.size, h.vb, h.bd⟩
theorem Sm8.next (h : Sm8 w wr v T) {t : Ak8} (ht : akB8 t) {o : Obj} (ho : w2.ownsRow 0 24 4 v' (T.length + 1) (quad8 T ++ quad8 [t])) (hg : (wr.alloc o).grownBy w2 v.ownBlock) (hv : v'.ownBlock = v.ownBlock ∨ v'.ownBlock = some (wr.alloc o).heap.size) : Sm8 w w2 v' (T ++ [t]) := by
  have hs : (wr.alloc o).heap.size = wr.heap.size + 1 := by simp
  have hz := hg.size
  have hb := h.bel.size
  refine ⟨⟨hg.os.trans h.bel.os, hg.tape.trans h.bel.tape, hg.output.trans h.bel.output, by omega, fun k hk => ?_⟩, ?_, fun k hk => ?_, fun x hx => ?_⟩
  · rw [hg.block k (by omega) (fun e => by have := h.vb k e.symm; omega), Below.heap_alloc _ _ _ (by omega)]
    exact h.bel.block k hk
  · rw [List.length_append, List.length_singleton, quad8_app]; exact ho
  · rcases hv with e | e
    · exact h.vb k (by rw [← e]; exact hk)
    · rw [e] at hk; have := Option.some.inj hk; omega
  · rcases List.mem_append.1 hx with e | e
    · exact h.bd x e
    · rw [List.mem_singleton] at e; subst e; exact ht
end
set_option maxHeartbeats 64000000 in
theorem plays_s {w : World} {ad : Option Addr} {n cap : Nat} (HA : AskV8 w ad n) (hn : n * 32 ≤ 140737488351232) :
    Calls Tryz.prog 4 #[.slice ad n cap] w fun e w' => e = .returned (.bool true) ∧ Below w.heap.size w w' := by
  have hplay := Lib.hid (play_y (cap := cap) HA hn)
  have HA0 := Lib.hid HA
  replace HA := Lib.hid HA
  obtain ⟨i1, hi1, hy0, hy1, hy2⟩ := infoP8 infoA8
  have hst := Lib.hid (show Sm8 w w (.slice none 0 0) [] from ⟨Below.refl _ _, ⟨by simp [quad8], Or.inl ⟨rfl, rfl⟩⟩, fun k e => by simp [Value.ownBlock] at e, fun t ht => by cases ht⟩)
  go_enter Tryz.func4, Tryz.ntmps4
  go_wp2
  go_loopw [3, 7] (fun v3 x7 wr => ∃ (v : Value) (T : List Ak8), T.length ≤ n ∧ v3 = v ∧ x7 = .int .i64 T.length ∧ Hid (Sm8 w wr v T)) (fun _ x7 _ => n - (intOf x7).toNat)
  case atStart => exact ⟨_, [], by simp, rfl, rfl, hst⟩
  case round =>
    clear hst
    obtain ⟨v, T, hT, rfl, rfl, hS⟩ := hrel
    by_cases hlt : T.length < n
    · as_aux_lemma =>
      have d1 : decide ((T.length : Int) < (n : Int)) = true := by simp; omega
      have p0 : (0 : Int) ≤ (T.length : Int) := by omega
      have p1 : (T.length : Int) < (n : Int) := by omega
      obtain ⟨g, off, x, y, z, u, rfl, bx', by', bz', bu', c0, c1, c2, c3⟩ := HA.out T.length hlt
      have hgl := Lib.hid (show g < w.heap.size from World.block_lt_of_cell? w _ c0)
      replace c0 := cell_up hS.out.bel c0
      replace c1 := cell_up hS.out.bel c1
      replace c2 := cell_up hS.out.bel c2
      replace c3 := cell_up hS.out.bel c3
      obtain ⟨va, vc, e, _⟩ := own_form hS.out.own
      subst e
      have hxx := Lib.hid bx'
      have wb := within_bd x 0 5 (by omega)
      have e15 := i64_and15 y
      have e7 := i64_and7 z
      have ht : Hid (akB8 (within x 0 5, bits .and .i64 y 15, bits .and .i64 z 7, u)) := Lib.hid ⟨⟨by show _ ≤ within x 0 5; omega, by show within x 0 5 ≤ _; omega⟩, ⟨by show _ ≤ bits .and .i64 y 15; omega, by show bits .and .i64 y 15 ≤ _; omega⟩, ⟨by show _ ≤ bits .and .i64 z 7; omega, by show bits .and .i64 z 7 ≤ _; omega⟩, bu'⟩
      clear wb e15 e7
      have w3 : IntKind.i64.wrap ((T.length : Int) + 1) = ((T.length + 1 : Nat) : Int) := by rw [IntKind.wrap_i64]; omega
      have hmx : Hid (T.length + 1 ≤ maxLen) := Lib.hid (by simp only [maxLen]; omega)
      have hbx : Hid ((T.length + 1) * 32 ≤ 140737488355328) := Lib.hid (by omega)
      have hS1 := Lib.hid (hS.out.up ((Below.refl _ _).drew))
      have hS2 := Lib.hid (hS1.out.up ((Below.refl _ _).alloc (Nat.le_refl _) (.cells #[.int .i64 (within x 0 5), .int .i64 (bits .and .i64 y 15), .int .i64 (bits .and .i64 z 7), .int .i64 u] 24)))
      have hcg : Hid (∀ (W : World) (j : Nat) (q : Value), (wr.drew.alloc (.cells #[.int .i64 (within x 0 5), .int .i64 (bits .and .i64 y 15), .int .i64 (bits .and .i64 z 7), .int .i64 u] 24)).grownBy W (Value.slice va T.length vc).ownBlock → wr.drew.cell? ⟨g, j, none⟩ = some q → W.cell? ⟨g, j, none⟩ = some q) := Lib.hid (fun W j q hg hq => by
        have hl : g < wr.drew.heap.size := World.block_lt_of_cell? _ _ hq
        exact (World.cell?_of_block (a := ⟨g, j, none⟩) ((hg.block g (by rw [World.size_alloc]; omega) (fun e => by have := hS1.out.vb _ e.symm; have := hgl.out; omega)).trans (Below.heap_alloc _ _ _ hl))).trans hq)
      clear hS HA bu' by' bz'
      have hlT : T.length + 1 ≤ n := by omega
      clear hlt hT
      go_upto_region 5 with fail
      refine wp_region_held_drew (S := (fun wr' => wr'.cell? ⟨g, off + T.length * 4, none⟩ = some (.int .i64 x) ∧ wr'.cell? ⟨g, off + T.length * 4 + 1, none⟩ = some (.int .i64 y) ∧ wr'.cell? ⟨g, off + T.length * 4 + 2, none⟩ = some (.int .i64 z) ∧ wr'.cell? ⟨g, off + T.length * 4 + 3, none⟩ = some (.int .i64 u))) (by kernel_rfl) ?_ (fun hHeld => ?_)
      · (try dsimp only); first | exact ⟨c0, c1, c2, c3⟩ | exact ⟨cell_up ((Below.refl _ _).drew) c0, cell_up ((Below.refl _ _).drew) c1, cell_up ((Below.refl _ _).drew) c2, cell_up ((Below.refl _ _).drew) c3⟩
      try simp only [Act.put, nA]
      refine tk (i := 0) (oi := ⟨some 10, .move (.tmp 3), 22, "law.go:139", #[], none⟩) (hy := by intro w hSw; (try dsimp only at hSw); obtain ⟨q0, q1, q2, q3⟩ := hSw; go_simp <;> with_reducible rfl) ?_
      try simp only [Act.put, nA]
      refine tk (i := 1) (oi := ⟨some 11, .move (.tmp 0), 22, "law.go:139", #[], none⟩) (hy := by intro w hSw; (try dsimp only at hSw); obtain ⟨q0, q1, q2, q3⟩ := hSw; go_simp <;> with_reducible rfl) ?_
      try simp only [Act.put, nA]
      refine tk (i := 2) (oi := ⟨some 12, .move (.tmp 4), 3, "law.go:139", #[], none⟩) (hy := by intro w hSw; (try dsimp only at hSw); obtain ⟨q0, q1, q2, q3⟩ := hSw; go_simp <;> with_reducible rfl) ?_
      try simp only [Act.put, nA]
      refine tk (i := 3) (oi := ⟨some 13, .indexAddr 22 (.tmp 11) (.tmp 12), 0, "law.go:139", #[⟨1, .data⟩, ⟨2, .data⟩], none⟩) (hy := by intro w hSw; (try dsimp only at hSw); obtain ⟨q0, q1, q2, q3⟩ := hSw; go_simp <;> with_reducible rfl) ?_
      try simp only [Act.put, nA]
      refine tk (i := 4) (oi := ⟨some 14, .fieldAddr 24 (.tmp 13) 0, 0, "law.go:139", #[⟨3, .data⟩], none⟩) (hy := by intro w hSw; (try dsimp only at hSw); obtain ⟨q0, q1, q2, q3⟩ := hSw; go_simp <;> with_reducible rfl) ?_
      try simp only [Act.put, nA]
      refine tk (i := 5) (oi := ⟨some 15, .load 3 (.tmp 14), 3, "law.go:139", #[⟨4, .data⟩], none⟩) (hy := by intro w hSw; (try dsimp only at hSw); obtain ⟨q0, q1, q2, q3⟩ := hSw; go_simp <;> with_reducible rfl) ?_
      try simp only [Act.put, nA]
      refine tk (i := 7) (oi := ⟨some 17, .move (.tmp 0), 22, "law.go:139", #[], none⟩) (hy := by intro w hSw; (try dsimp only at hSw); obtain ⟨q0, q1, q2, q3⟩ := hSw; go_simp <;> with_reducible rfl) ?_
      try simp only [Act.put, nA]
      refine tk (i := 8) (oi := ⟨some 18, .move (.tmp 4), 3, "law.go:139", #[], none⟩) (hy := by intro w hSw; (try dsimp only at hSw); obtain ⟨q0, q1, q2, q3⟩ := hSw; go_simp <;> with_reducible rfl) ?_
      try simp only [Act.put, nA]
      refine tk (i := 9) (oi := ⟨some 19, .indexAddr 22 (.tmp 17) (.tmp 18), 0, "law.go:139", #[⟨7, .data⟩, ⟨8, .data⟩], none⟩) (hy := by intro w hSw; (try dsimp only at hSw); obtain ⟨q0, q1, q2, q3⟩ := hSw; go_simp <;> with_reducible rfl) ?_
      try simp only [Act.put, nA]
      refine tk (i := 10) (oi := ⟨some 20, .fieldAddr 24 (.tmp 19) 1, 0, "law.go:139", #[⟨9, .data⟩], none⟩) (hy := by intro w hSw; (try dsimp only at hSw); obtain ⟨q0, q1, q2, q3⟩ := hSw; go_simp <;> with_reducible rfl) ?_
      try simp only [Act.put, nA]
      refine tk (i := 11) (oi := ⟨some 21, .load 3 (.tmp 20), 3, "law.go:139", #[⟨10, .data⟩], none⟩) (hy := by intro w hSw; (try dsimp only at hSw); obtain ⟨q0, q1, q2, q3⟩ := hSw; go_simp <;> with_reducible rfl) ?_
      try simp only [Act.put, nA]
      refine tk (i := 12) (oi := ⟨some 22, .binOp .and 3 (.tmp 21) (.const (.int .i64 15)) 3, 3, "law.go:139", #[⟨11, .data⟩], none⟩) (hy := by intro w hSw; (try dsimp only at hSw); obtain ⟨q0, q1, q2, q3⟩ := hSw; go_simp <;> with_reducible rfl) ?_
      try simp only [Act.put, nA]
      refine tk (i := 13) (oi := ⟨some 23, .move (.tmp 0), 22, "law.go:139", #[], none⟩) (hy := by intro w hSw; (try dsimp only at hSw); obtain ⟨q0, q1, q2, q3⟩ := hSw; go_simp <;> with_reducible rfl) ?_
      try simp only [Act.put, nA]
      refine tk (i := 14) (oi := ⟨some 24, .move (.tmp 4), 3, "law.go:139", #[], none⟩) (hy := by intro w hSw; (try dsimp only at hSw); obtain ⟨q0, q1, q2, q3⟩ := hSw; go_simp <;> with_reducible rfl) ?_
      try simp only [Act.put, nA]
      refine tk (i := 15) (oi := ⟨some 25, .indexAddr 22 (.tmp 23) (.tmp 24), 0, "law.go:139", #[⟨13, .data⟩, ⟨14, .data⟩], none⟩) (hy := by intro w hSw; (try dsimp only at hSw); obtain ⟨q0, q1, q2, q3⟩ := hSw; go_simp <;> with_reducible rfl) ?_
      try simp only [Act.put, nA]
      refine tk (i := 16) (oi := ⟨some 26, .fieldAddr 24 (.tmp 25) 2, 0, "law.go:139", #[⟨15, .data⟩], none⟩) (hy := by intro w hSw; (try dsimp only at hSw); obtain ⟨q0, q1, q2, q3⟩ := hSw; go_simp <;> with_reducible rfl) ?_
      try simp only [Act.put, nA]
      refine tk (i := 17) (oi := ⟨some 27, .load 3 (.tmp 26), 3, "law.go:139", #[⟨16, .data⟩], none⟩) (hy := by intro w hSw; (try dsimp only at hSw); obtain ⟨q0, q1, q2, q3⟩ := hSw; go_simp <;> with_reducible rfl) ?_
      try simp only [Act.put, nA]
      refine tk (i := 18) (oi := ⟨some 28, .binOp .and 3 (.tmp 27) (.const (.int .i64 7)) 3, 3, "law.go:139", #[⟨17, .data⟩], none⟩) (hy := by intro w hSw; (try dsimp only at hSw); obtain ⟨q0, q1, q2, q3⟩ := hSw; go_simp <;> with_reducible rfl) ?_
      try simp only [Act.put, nA]
      refine tk (i := 19) (oi := ⟨some 29, .move (.tmp 0), 22, "law.go:139", #[], none⟩) (hy := by intro w hSw; (try dsimp only at hSw); obtain ⟨q0, q1, q2, q3⟩ := hSw; go_simp <;> with_reducible rfl) ?_
      try simp only [Act.put, nA]
      refine tk (i := 20) (oi := ⟨some 30, .move (.tmp 4), 3, "law.go:139", #[], none⟩) (hy := by intro w hSw; (try dsimp only at hSw); obtain ⟨q0, q1, q2, q3⟩ := hSw; go_simp <;> with_reducible rfl) ?_
      try simp only [Act.put, nA]
      refine tk (i := 21) (oi := ⟨some 31, .indexAddr 22 (.tmp 29) (.tmp 30), 0, "law.go:139", #[⟨19, .data⟩, ⟨20, .data⟩], none⟩) (hy := by intro w hSw; (try dsimp only at hSw); obtain ⟨q0, q1, q2, q3⟩ := hSw; go_simp <;> with_reducible rfl) ?_
      try simp only [Act.put, nA]
      refine tk (i := 22) (oi := ⟨some 32, .fieldAddr 24 (.tmp 31) 3, 0, "law.go:139", #[⟨21, .data⟩], none⟩) (hy := by intro w hSw; (try dsimp only at hSw); obtain ⟨q0, q1, q2, q3⟩ := hSw; go_simp <;> with_reducible rfl) ?_
      try simp only [Act.put, nA]
      refine tk (i := 23) (oi := ⟨some 33, .load 3 (.tmp 32), 3, "law.go:139", #[⟨22, .data⟩], none⟩) (hy := by intro w hSw; (try dsimp only at hSw); obtain ⟨q0, q1, q2, q3⟩ := hSw; go_simp <;> with_reducible rfl) ?_
      try simp only [Act.put, nA]
      refine wpAnyH_ready (rs := [6]) (by kernel_rfl) (by simp) ?_
      refine AllReadyH.cons (o := ⟨some 16, .call { callee := .value (.func 11), args := #[.tmp 15, .const (.int .i64 0), .const (.int .i64 5)], argTypes := #[3, 3, 3] }, 3, "law.go:139", #[⟨5, .data⟩], none⟩) rfl (fun K9 hK => ?_) AllReadyH.nil
      go_simp
      refine (within_c x 0 5 hxx.out.1 hxx.out.2 (by omega) (by omega) (by omega) _).mono ?_
      rintro e w6 ⟨rfl, rfl⟩
      go_wp2_with fail
      refine hK.out _ _ ?_ ?_
      · (try dsimp only); first | exact ⟨c0, c1, c2, c3⟩ | exact ⟨cell_up ((Below.refl _ _).drew) c0, cell_up ((Below.refl _ _).drew) c1, cell_up ((Below.refl _ _).drew) c2, cell_up ((Below.refl _ _).drew) c3⟩
      clear hK K9 hHeld; intro hHeld
      try simp only [Act.put, nA]
      refine tk (i := 24) (oi := ⟨some 34, .build 24 #[(0, .tmp 16), (1, .tmp 22), (2, .tmp 28), (3, .tmp 33)], 24, "law.go:139", #[⟨6, .data⟩, ⟨12, .data⟩, ⟨18, .data⟩, ⟨23, .data⟩], none⟩) (hy := by intro w hSw; (try dsimp only at hSw); obtain ⟨q0, q1, q2, q3⟩ := hSw; go_simp <;> with_reducible rfl) ?_
      try simp only [Act.put, nA]
      refine wpAnyH_ready (rs := [25]) (by kernel_rfl) (by simp) ?_
      refine AllReadyH.cons (o := ⟨some 35, .buildSlice 22 1 #[(0, .tmp 34)], 22, "law.go:139", #[⟨24, .data⟩], none⟩) rfl (fun K9 hK => ?_) AllReadyH.nil
      go_simp
      refine hK.out _ _ ?_ ?_
      · (try dsimp only); first | exact ⟨cell_up (((Below.refl _ _).drew).alloc (Nat.le_refl _) _) c0, cell_up (((Below.refl _ _).drew).alloc (Nat.le_refl _) _) c1, cell_up (((Below.refl _ _).drew).alloc (Nat.le_refl _) _) c2, cell_up (((Below.refl _ _).drew).alloc (Nat.le_refl _) _) c3⟩
      clear hK K9 hHeld; intro hHeld
      try simp only [Act.put, nA]
      refine wpAnyH_ready (rs := [26]) (by kernel_rfl) (by simp) ?_
      refine AllReadyH.cons (o := ⟨some 36, .call { callee := .builtin .append, args := #[.tmp 10, .tmp 35], argTypes := #[22, 22] }, 22, "law.go:139", #[⟨0, .data⟩, ⟨25, .data⟩, ⟨6, .chain⟩], none⟩) rfl (fun K9 hK => ?_) AllReadyH.nil
      refine step_any8 rfl (.tmp 10) (.tmp 35) 22 rfl 0 24 i1 (.agg #[.int .i64 0, .int .i64 0, .int .i64 0, .int .i64 0]) 4 32 Tryz.underlying22 hi1 hy0 hy1 hy2 rfl (by decide) (.slice va T.length vc) (.slice (some ⟨wr.drew.heap.size, 0, none⟩) 1 1) T.length 1 (quad8 T) (quad8 [(within x 0 5, bits .and .i64 y 15, bits .and .i64 z 7, u)]) rfl rfl hS2.out.own (rd_four _ _ _ _ _ _) rfl (by simp [Value.oneCell', quad8]) hmx.out hbx.out (Nat.zero_le _) ?_
      intro v9 w9 hown9 hg9 hat9
      have hF := Lib.hid (hS1.out.next ht.out hown9 hg9 hat9)
      refine hK.out _ _ ?_ ?_
      · (try dsimp only); exact ⟨hcg.out _ _ _ hg9 (cell_up ((Below.refl _ _).drew) c0), hcg.out _ _ _ hg9 (cell_up ((Below.refl _ _).drew) c1), hcg.out _ _ _ hg9 (cell_up ((Below.refl _ _).drew) c2), hcg.out _ _ _ hg9 (cell_up ((Below.refl _ _).drew) c3)⟩
      clear hK K9 hHeld; intro hHeld
      try simp only [Act.put, nA]
      refine tk (i := 27) (oi := ⟨some 3, .assign (.tmp 36), 22, "law.go:139", #[⟨26, .data⟩, ⟨26, .chain⟩, ⟨0, .phase⟩, ⟨1, .phase⟩, ⟨2, .phase⟩, ⟨3, .phase⟩, ⟨4, .phase⟩, ⟨5, .phase⟩, ⟨6, .phase⟩, ⟨7, .phase⟩, ⟨8, .phase⟩, ⟨9, .phase⟩, ⟨10, .phase⟩, ⟨11, .phase⟩, ⟨12, .phase⟩, ⟨13, .phase⟩, ⟨14, .phase⟩, ⟨15, .phase⟩, ⟨16, .phase⟩, ⟨17, .phase⟩, ⟨18, .phase⟩, ⟨19, .phase⟩, ⟨20, .phase⟩, ⟨21, .phase⟩, ⟨22, .phase⟩, ⟨23, .phase⟩, ⟨24, .phase⟩, ⟨25, .phase⟩, ⟨26, .phase⟩], none⟩) (hy := by intro w hSw; (try dsimp only at hSw); obtain ⟨q0, q1, q2, q3⟩ := hSw; go_simp <;> with_reducible rfl) ?_
      try simp only [Act.put, nA]
      refine wpAnyH_done (by kernel_rfl) ?_ _
      go_wp2
      go_roundw
      case rel => exact ⟨_, T ++ [(within x 0 5, bits .and .i64 y 15, bits .and .i64 z 7, u)], by simpa using hlT, rfl, by rw [List.length_append, List.length_singleton]; go_num, hF⟩
      case measure => simp [intOf]; omega
    · as_aux_lemma =>
      have d1 : decide ((T.length : Int) < (n : Int)) = false := by simp; omega
      obtain ⟨va, vc, e, hV⟩ := asks_own8 hS.out.own rfl hS.out.bd
      subst e
      have hTn : T.length * 32 ≤ 140737488351232 := by omega
      have hP1 := Lib.hid (play_y (cap := cap) (w := wr) (ad := ad) (n := n) (fun k hk => by
        obtain ⟨g, off, x, y, z, u, e, b0, b1, b2, b3, c0, c1, c2, c3⟩ := HA.out k hk
        exact ⟨g, off, x, y, z, u, e, b0, b1, b2, b3, cell_up hS.out.bel c0, cell_up hS.out.bel c1, cell_up hS.out.bel c2, cell_up hS.out.bel c3⟩) hn)
      have hP2 := Lib.hid (fun (w1 : World) (b1 : Below wr.heap.size wr w1) => play_y (cap := vc) (w := w1) (ad := va) (n := T.length) (fun k hk => by
        obtain ⟨g, off, x, y, z, u, e, b0, b1', b2, b3, c0, c1, c2, c3⟩ := hV k hk
        exact ⟨g, off, x, y, z, u, e, b0, b1', b2, b3, cell_up b1 c0, cell_up b1 c1, cell_up b1 c2, cell_up b1 c3⟩) hTn)
      have hbel := Lib.hid hS.out.bel
      clear hV hS HA HA0 hplay hn hTn
      go_wp2_with (first
        | (go_at_call 6; first
            | (with_reducible refine (hP1.out).mono ?_; rintro e w1 ⟨rfl, h1⟩; replace h1 := Lib.hid h1)
            | (with_reducible refine (hP2.out _ h1.out).mono ?_; rintro e w2 ⟨rfl, h2⟩; replace h2 := Lib.hid h2))
        | (go_at_call 10; refine (known8_c _).mono ?_; rintro e w4 ⟨rfl, h4⟩; replace h4 := Lib.hid h4))
      go_ret
      exact ⟨rfl, hbel.out.trans ((h1.out.trans ((h2.out.trans (h4.out.mono h2.out.size)).mono h1.out.size)).mono hbel.out.size)⟩
end Wd
end Go.Proofs.YteiejjmhmmkdhaaGreat
