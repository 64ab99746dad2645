/- Texts joined: QCls, QBind. -/
import Derived.Test.YteiejjmhmmkdhaaGreatJ10
import Derived.Deep.DeepCutAuto
/- The landed package's judgement of one class. -/
namespace Go.Proofs.YteiejjmhmmkdhaaGreat
open Go.RowKit
set_option linter.unusedVariables false
set_option maxRecDepth 20000
namespace Wd
def nameR (A : List ClassA) (nm : ByteArray) : Bool := textOk nm && !(A.any (fun x => decide (x.nm = nm)))
def supR (A : List ClassA) (s f : Int) : Bool := decide (0 ≤ f) && decide (f ≤ 62) && (decide (s = -1) || (decide (0 ≤ s) && decide (s < A.length) && decide ((chain A s).length < 8) && decide (superF A s ≤ f)))
theorem chain_deepQ {L : List ClassA} {k : Nat} (hD : Down L k) (hk : k ≤ L.length) : ∀ (f g : Nat) (s : Int), s < k → s < g → (chainR (L.take k) s f).length = min f (deep L g s)
  | 0, _, _, _, _ => by simp [chainR]
  | f + 1, g, s, h1, h2 => by
    by_cases h0 : s < 0
    · rw [chainR_neg _ h0, deep_neg _ h0]; simp
    · obtain ⟨j, rfl⟩ : ∃ j : Nat, s = j := ⟨s.toNat, by omega⟩
      obtain ⟨g', rfl⟩ : ∃ g', g = g' + 1 := ⟨g - 1, by omega⟩
      have hx : L[j]? = some (L[j]'(by omega)) := by simp
      generalize L[j]'(by omega) = x at hx
      have hy : (L.take k)[j]? = some x := by rw [List.getElem?_take, if_pos (by omega)]; exact hx
      obtain ⟨d1, d2⟩ := hD j x (by omega) hx
      rw [chainR_on hy, deep_on hx, List.length_cons, chain_deepQ hD hk f g' x.super (by omega) (by omega)]
      omega
theorem sup_eq {L : List ClassA} {k : Nat} {c : ClassA} (hD : Down L k) (hk : k ≤ L.length) : classOk L k c = supR (L.take k) c.super c.fields := by
  have hl : (L.take k).length = k := by rw [List.length_take]; omega
  unfold classOk supR
  rw [hl]
  by_cases h1 : c.super < -1
  · rw [decide_eq_false (p := -1 ≤ c.super) (by omega), decide_eq_false (p := c.super = -1) (by omega), decide_eq_false (p := 0 ≤ c.super) (by omega)]
    simp
  by_cases h2 : (k : Int) ≤ c.super
  · rw [decide_eq_false (p := c.super < k) (by omega), decide_eq_false (p := c.super = -1) (by omega)]
    simp
  rw [decide_eq_true (p := -1 ≤ c.super) (by omega), decide_eq_true (p := c.super < k) (by omega)]
  by_cases h3 : c.super = -1
  · rw [decide_eq_true h3, h3, deep_neg _ (by omega), decide_eq_true (p := (-1 : Int) < 0) (by omega)]
    simp
  · have hd := chain_deepQ hD hk 8 (k + 1) c.super (by omega) (by omega)
    have e1 : decide ((chain (L.take k) c.super).length < 8) = decide (deep L (k + 1) c.super + 1 ≤ 8) := by
      rw [decide_eq_decide]; unfold chain; omega
    have e2 : superF (L.take k) c.super = superF L c.super := by
      unfold superF
      rw [List.getElem?_take, if_pos (by omega)]
    rw [e1, e2, decide_eq_false h3, decide_eq_true (p := 0 ≤ c.super) (by omega), decide_eq_false (p := c.super < 0) (by omega)]
    simp [Bool.and_assoc]
theorem isroot_c (nm : ByteArray) (s f : Int) (bv : Value) (x : Int) (w : World) (b : Bool) (hb : b = (decide (s = -1) && decide (f = x))) :
    Calls Tryz.prog 92 #[.agg #[.string nm, .int .i64 s, .int .i64 f, bv], .int .i64 x] w fun e w' => e = .returned (.bool b) ∧ Below w.heap.size w w' := by
  have hB := Lib.hid ((Below.refl w.heap.size w).alloc (Nat.le_refl _) (.cells #[.string nm, .int .i64 s, .int .i64 f, bv] 72))
  by_cases h1 : s = -1
  · have h1' : (s == -1) = true := by simpa using h1
    by_cases h2 : f = x
    · have h2' : (f == x) = true := by simpa using h2
      rw [decide_eq_true h1, decide_eq_true h2] at hb
      subst hb
      clear h1 h2
      go_enter Tryz.func92, Tryz.ntmps92
      go_wp2
      go_ret
      exact ⟨rfl, hB.out⟩
    · have h2' : (f == x) = false := by simpa using h2
      rw [decide_eq_true h1, decide_eq_false h2] at hb
      subst hb
      clear h1 h2
      go_enter Tryz.func92, Tryz.ntmps92
      go_wp2
      go_ret
      exact ⟨rfl, hB.out⟩
  · have h1' : (s == -1) = false := by simpa using h1
    rw [decide_eq_false h1] at hb
    subst hb
    clear h1
    go_enter Tryz.func92, Tryz.ntmps92
    go_wp2
    go_ret
    exact ⟨rfl, hB.out⟩
theorem name_over {A : List ClassA} {nm : ByteArray} (h : nm.size < 1 ∨ 16 < nm.size) : nameR A nm = false := by
  unfold nameR textOk
  rcases h with h | h
  · rw [decide_eq_false (p := 1 ≤ nm.size) (by omega)]; rfl
  · rw [decide_eq_false (p := nm.size ≤ 16) (by omega)]; simp
theorem name_twice {A : List ClassA} {nm : ByteArray} {j : Nat} {x : ClassA} (h : A[j]? = some x) (e : x.nm = nm) : nameR A nm = false := by
  have : A.any (fun x => decide (x.nm = nm)) = true := List.any_eq_true.2 ⟨x, List.mem_of_getElem? h, by simpa using e⟩
  unfold nameR; rw [this]; simp
theorem name_once {A : List ClassA} {nm : ByteArray} (h1 : 1 ≤ nm.size) (h2 : nm.size ≤ 16) (h : ∀ x ∈ A, x.nm ≠ nm) : nameR A nm = true := by
  have : A.any (fun x => decide (x.nm = nm)) = false := by
    rw [Bool.eq_false_iff]
    intro ha
    obtain ⟨x, hx, e⟩ := List.any_eq_true.1 ha
    exact h x hx (by simpa using e)
  unfold nameR textOk
  rw [this, decide_eq_true h1, decide_eq_true h2]; rfl
set_option maxHeartbeats 8000000 in
theorem kname {w : World} {v : Value} {A : List ClassA} (h : ClV w v A) (nm : ByteArray) :
    Calls Tryz.prog 93 #[v, .string nm] w fun e w' => e = .returned (.bool (nameR A nm)) ∧ Below w.heap.size w w' := by
  obtain ⟨ad, cap, rfl, hcap, hmx⟩ := h.form
  obtain ⟨n, hn⟩ : ∃ n, n = A.length := ⟨_, rfl⟩
  rw [← hn] at h hcap ⊢
  replace h := Lib.hid h
  have hn' := Lib.hid hn
  have hnm : n ≤ 9223372036854775807 := by have : maxLen ≤ 9223372036854775807 := by decide
                                           omega
  clear hmx hn
  by_cases q0 : nm.size < 1
  · have e := Lib.hid (name_over (A := A) (Or.inl q0))
    have q0' : decide ((nm.size : Int) < 1) = true := by simp; omega
    go_enter Tryz.func93, Tryz.ntmps93
    go_wp2
    go_ret
    exact ⟨congrArg (fun b => Ending.returned (Value.bool b)) e.out.symm, Below.refl _ _⟩
  have q0' : decide ((nm.size : Int) < 1) = false := by simp; omega
  by_cases q1 : 16 < nm.size
  · have e := Lib.hid (name_over (A := A) (Or.inr q1))
    have q1' : decide ((nm.size : Int) > 16) = true := by simp; omega
    go_enter Tryz.func93, Tryz.ntmps93
    go_wp2
    go_ret
    exact ⟨congrArg (fun b => Ending.returned (Value.bool b)) e.out.symm, Below.refl _ _⟩
  have q1' : decide ((nm.size : Int) > 16) = false := by simp; omega
  have hsz := Lib.hid (show 1 ≤ nm.size ∧ nm.size ≤ 16 by omega)
  have hst : Hid (∀ x ∈ A.take 0, x.nm ≠ nm) := Lib.hid (by simp)
  go_enter Tryz.func93, Tryz.ntmps93
  go_wp2
  go_loopw [17] (fun i17 wr => ∃ (j : Nat), j ≤ n ∧ i17 = .int .i64 j ∧ Hid (∀ x ∈ A.take j, x.nm ≠ nm) ∧ Hid (Below w.heap.size w wr)) (fun i17 _ => n - (intOf i17).toNat)
  case atStart => exact ⟨0, by omega, rfl, hst, Lib.hid (Below.refl _ _)⟩
  case round =>
    obtain ⟨j, hj, rfl, hD, hB⟩ := hrel
    by_cases hlt : j < n
    · have hlt' : decide ((j : Int) < (n : Int)) = true := by simp; omega
      have p0 : (0 : Int) ≤ (j : Int) := by omega
      have p1 : (j : Int) < (n : Int) := by omega
      obtain ⟨⟨xn, xs, xf, xb⟩, hx⟩ : ∃ x, A[j]? = some x := ⟨A[j]'(by have := hn'.out; omega), by simp⟩
      obtain ⟨_, _, g', off', xv, rfl, d0, d1, d2, d3, xbv⟩ := (h.out.up hB.out).at hx
      obtain ⟨xa, xc, rfl, _⟩ := xbv.form
      simp only at d0 d1 d2 d3 xbv
      generalize xb.length = xm at *
      have hx' := Lib.hid hx
      clear hx xbv
      by_cases he : xn = nm
      · have e := Lib.hid (name_twice hx'.out he)
        have he' : (xn.toList == nm.toList) = true := bl_eq he
        clear he
        go_wp2
        go_ret
        exact ⟨congrArg (fun b => Ending.returned (Value.bool b)) e.out.symm, hB.out.alloc hB.out.size _⟩
      · have he' : (xn.toList == nm.toList) = false := bl_ne he
        have hD' : Hid (∀ x ∈ A.take (j + 1), x.nm ≠ nm) := Lib.hid (fun x hx => by
          rw [take_next hx'.out] at hx
          rcases List.mem_append.1 hx with hx | hx
          · exact hD.out x hx
          · rw [List.mem_singleton.1 hx]; exact he)
        go_wp2
        go_roundw
        case rel => exact ⟨j + 1, by omega, by go_num, hD', Lib.hid (hB.out.alloc hB.out.size _)⟩
        case measure => simp [intOf]; omega
    · have hlt' : decide ((j : Int) < (n : Int)) = false := by simp; omega
      have e := Lib.hid (name_once (A := A) hsz.out.1 hsz.out.2 (by have := hD.out; rw [show j = A.length by have := hn'.out; omega, List.take_length] at this; exact this))
      go_wp2
      go_ret
      exact ⟨congrArg (fun b => Ending.returned (Value.bool b)) e.out.symm, hB.out⟩
theorem sup_f {A : List ClassA} {s f : Int} (h : f < 0 ∨ 62 < f) : supR A s f = false := by
  unfold supR
  rcases h with h | h
  · rw [decide_eq_false (p := 0 ≤ f) (by omega)]; rfl
  · rw [decide_eq_false (p := f ≤ 62) (by omega)]; simp
theorem sup_n {A : List ClassA} {s f : Int} (h1 : 0 ≤ f) (h2 : f ≤ 62) (h : s = -1) : supR A s f = true := by
  unfold supR; rw [decide_eq_true h1, decide_eq_true h2, decide_eq_true h]; rfl
theorem sup_o {A : List ClassA} {s f : Int} (h : ¬ s = -1) (h' : s < 0 ∨ (A.length : Int) ≤ s) : supR A s f = false := by
  unfold supR
  rw [decide_eq_false h]
  rcases h' with h | h
  · rw [decide_eq_false (p := 0 ≤ s) (by omega)]; simp
  · rw [decide_eq_false (p := s < A.length) (by omega)]; simp
theorem sup_i {A : List ClassA} {s f : Int} (h1 : 0 ≤ f) (h2 : f ≤ 62) (h3 : 0 ≤ s) (h4 : s < A.length) : supR A s f = (decide ((chain A s).length < 8) && decide (superF A s ≤ f)) := by
  unfold supR; rw [decide_eq_true h1, decide_eq_true h2, decide_eq_true h3, decide_eq_true h4, decide_eq_false (p := s = -1) (by omega)]; rfl
set_option maxHeartbeats 16000000 in
theorem ksuper {w : World} {v : Value} {A : List ClassA} (h : ClV w v A) (nm : ByteArray) (s f : Int) (bv : Value) (hs : In64 s) (hf : In64 f) :
    Calls Tryz.prog 94 #[v, .agg #[.string nm, .int .i64 s, .int .i64 f, bv]] w fun e w' => e = .returned (.bool (supR A s f)) ∧ Below w.heap.size w w' := by
  obtain ⟨ad, cap, rfl, hcap, hmx⟩ := h.form
  obtain ⟨n, hn⟩ : ∃ n, n = A.length := ⟨_, rfl⟩
  rw [← hn] at h hcap ⊢
  replace h := Lib.hid h
  have hn' := Lib.hid hn
  have hB := Lib.hid ((Below.refl w.heap.size w).alloc (Nat.le_refl _) (.cells #[.string nm, .int .i64 s, .int .i64 f, bv] 72))
  obtain ⟨f0, f1⟩ := hf
  clear hmx hn
  by_cases q0 : f < 0
  · have e := Lib.hid (sup_f (A := A) (s := s) (Or.inl q0))
    have q0' : decide (f < 0) = true := by simpa using q0
    go_enter Tryz.func94, Tryz.ntmps94
    go_wp2
    go_ret
    exact ⟨congrArg (fun b => Ending.returned (Value.bool b)) e.out.symm, hB.out⟩
  have q0' : decide (f < 0) = false := by simpa using q0
  by_cases q1 : 62 < f
  · have e := Lib.hid (sup_f (A := A) (s := s) (Or.inr q1))
    have q1' : decide (f > 62) = true := by simpa using q1
    go_enter Tryz.func94, Tryz.ntmps94
    go_wp2
    go_ret
    exact ⟨congrArg (fun b => Ending.returned (Value.bool b)) e.out.symm, hB.out⟩
  have q1' : decide (f > 62) = false := by simpa using q1
  by_cases q2 : s = -1
  · have e := Lib.hid (sup_n (A := A) (f := f) (by omega) (by omega) q2)
    have q2' : (s == -1) = true := by simpa using q2
    clear q2
    go_enter Tryz.func94, Tryz.ntmps94
    go_wp2
    go_ret
    exact ⟨congrArg (fun b => Ending.returned (Value.bool b)) e.out.symm, hB.out⟩
  have q2' : (s == -1) = false := by simpa using q2
  by_cases q3 : s < 0 ∨ (n : Int) ≤ s
  · have e := Lib.hid (sup_o (A := A) (f := f) q2 (by have := hn'.out; omega))
    have PI := Lib.hid (isc_n ad n cap s q3)
    have c1' : Hid ((w.alloc (.cells #[.string nm, .int .i64 s, .int .i64 f, bv] 72)).cell? ⟨w.heap.size, 1, none⟩ = some (.int .i64 s)) := Lib.hid (by simp)
    have c2' : Hid ((w.alloc (.cells #[.string nm, .int .i64 s, .int .i64 f, bv] 72)).cell? ⟨w.heap.size, 2, none⟩ = some (.int .i64 f)) := Lib.hid (by simp)
    go_enter Tryz.func94, Tryz.ntmps94
    go_wp2
    refine wp_region_held_drew (S := (fun wr' => wr'.cell? ⟨w.heap.size, 1, none⟩ = some (.int .i64 s) ∧ wr'.cell? ⟨w.heap.size, 2, none⟩ = some (.int .i64 f))) (by kernel_rfl) ?_ (fun hHeld => ?_)
    · (try dsimp only); exact ⟨c1'.out, c2'.out⟩
    try simp only [Act.put, List.setIfInBounds_toArray, List.set_cons_zero, List.set_cons_succ]
    refine wpAnyH_take (i := 0) (oi := { dst := some 16, op := Op.move (Operand.tmp 0), type := 28, pos := "shape.go:83", after := #[], guard := none }) (v := ?_) rfl (by kernel_rfl) (by kernel_rfl) (by kernel_rfl) (fun _ _ _ h => h) (Or.inl ⟨by rfl, ?_⟩) (by assumption) ?_
    rotate_left 1
    · intro w hSw; (try dsimp only at hSw); go_simp <;> with_reducible rfl
    try simp only [Act.put, List.setIfInBounds_toArray, List.set_cons_zero, List.set_cons_succ]
    refine wpAnyH_take (i := 1) (oi := { dst := some 17, op := Op.fieldAddr 72 (Operand.tmp 3) 1, type := 0, pos := "shape.go:83", after := #[], guard := none }) (v := ?_) rfl (by kernel_rfl) (by kernel_rfl) (by kernel_rfl) (fun _ _ _ h => h) (Or.inl ⟨by rfl, ?_⟩) (by assumption) ?_
    rotate_left 1
    · intro w hSw; (try dsimp only at hSw); go_simp <;> with_reducible rfl
    try simp only [Act.put, List.setIfInBounds_toArray, List.set_cons_zero, List.set_cons_succ]
    refine wpAnyH_take (i := 2) (oi := { dst := some 18, op := Op.load 3 (Operand.tmp 17), type := 3, pos := "shape.go:83", after := #[{ on := 1, ground := Ground.data }], guard := none }) (v := ?_) rfl (by kernel_rfl) (by kernel_rfl) (by kernel_rfl) (fun _ _ _ h => h) (Or.inl ⟨by rfl, ?_⟩) (by assumption) ?_
    rotate_left 1
    · intro w hSw; (try dsimp only at hSw); go_simp <;> with_reducible rfl
    try simp only [Act.put, List.setIfInBounds_toArray, List.set_cons_zero, List.set_cons_succ]
    refine wpAnyH_ready (rs := [3]) (by kernel_rfl) (by simp) ?_
    refine AllReadyH.cons (o := { dst := some 19, op := Op.call { callee := Callee.value (Operand.func 108), args := #[Operand.tmp 16, Operand.tmp 18], argTypes := #[28, 3] }, type := 4, pos := "shape.go:83", after := #[{ on := 0, ground := Ground.data }, { on := 2, ground := Ground.data }], guard := none }) rfl (fun K9 hK => ?_) ?_
    · go_simp
      with_reducible refine (PI.out _).mono ?_
      rintro e1 y ⟨rfl, hy⟩
      subst hy
      go_wp2_with fail
      refine hK.out _ _ ?_ ?_
      · (try dsimp only); exact ⟨c1'.out, c2'.out⟩
      clear hK K9 hHeld; intro hHeld
      try simp only [Act.put, List.setIfInBounds_toArray, List.set_cons_zero, List.set_cons_succ]
      refine wpAnyH_take (i := 4) (oi := { dst := some 20, op := Op.move (Operand.tmp 19), type := 4, pos := "shape.go:83", after := #[{ on := 3, ground := Ground.data }, { on := 3, ground := Ground.chain }], guard := none }) (v := ?_) rfl (by kernel_rfl) (by kernel_rfl) (by kernel_rfl) (fun _ _ _ h => h) (Or.inl ⟨by rfl, ?_⟩) (by assumption) ?_
      rotate_left 1
      · intro w hSw; (try dsimp only at hSw); go_simp <;> with_reducible rfl
      try simp only [Act.put, List.setIfInBounds_toArray, List.set_cons_zero, List.set_cons_succ]
      refine wpAnyH_take (i := 5) (oi := { dst := some 21, op := Op.move (Operand.tmp 0), type := 28, pos := "shape.go:83", after := #[{ on := 4, ground := Ground.guard }], guard := some (4, true) }) (v := undef) rfl (by kernel_rfl) (by kernel_rfl) (by kernel_rfl) (fun _ _ _ h => h) (Or.inr ⟨by rfl, rfl⟩) (by assumption) ?_
      try simp only [Act.put, List.setIfInBounds_toArray, List.set_cons_zero, List.set_cons_succ]
      refine wpAnyH_take (i := 6) (oi := { dst := some 22, op := Op.fieldAddr 72 (Operand.tmp 3) 1, type := 0, pos := "shape.go:83", after := #[{ on := 4, ground := Ground.guard }], guard := some (4, true) }) (v := undef) rfl (by kernel_rfl) (by kernel_rfl) (by kernel_rfl) (fun _ _ _ h => h) (Or.inr ⟨by rfl, rfl⟩) (by assumption) ?_
      try simp only [Act.put, List.setIfInBounds_toArray, List.set_cons_zero, List.set_cons_succ]
      refine wpAnyH_take (i := 7) (oi := { dst := some 23, op := Op.load 3 (Operand.tmp 22), type := 3, pos := "shape.go:83", after := #[{ on := 6, ground := Ground.data }, { on := 4, ground := Ground.guard }], guard := some (4, true) }) (v := undef) rfl (by kernel_rfl) (by kernel_rfl) (by kernel_rfl) (fun _ _ _ h => h) (Or.inr ⟨by rfl, rfl⟩) (by assumption) ?_
      try simp only [Act.put, List.setIfInBounds_toArray, List.set_cons_zero, List.set_cons_succ]
      refine wpAnyH_take (i := 8) (oi := { dst := some 24, op := Op.call { callee := Callee.value (Operand.func 109), args := #[Operand.tmp 21, Operand.tmp 23], argTypes := #[28, 3] }, type := 3, pos := "shape.go:83", after := #[{ on := 5, ground := Ground.data }, { on := 7, ground := Ground.data }, { on := 4, ground := Ground.chain }, { on := 4, ground := Ground.guard }], guard := some (4, true) }) (v := undef) rfl (by kernel_rfl) (by kernel_rfl) (by kernel_rfl) (fun _ _ _ h => h) (Or.inr ⟨by rfl, rfl⟩) (by assumption) ?_
      try simp only [Act.put, List.setIfInBounds_toArray, List.set_cons_zero, List.set_cons_succ]
      refine wpAnyH_take (i := 9) (oi := { dst := some 25, op := Op.binOp BinOp.lss 3 (Operand.tmp 24) (Operand.const (Value.int IntKind.i64 8)) 3, type := 4, pos := "shape.go:83", after := #[{ on := 8, ground := Ground.data }, { on := 4, ground := Ground.guard }], guard := some (4, true) }) (v := undef) rfl (by kernel_rfl) (by kernel_rfl) (by kernel_rfl) (fun _ _ _ h => h) (Or.inr ⟨by rfl, rfl⟩) (by assumption) ?_
      try simp only [Act.put, List.setIfInBounds_toArray, List.set_cons_zero, List.set_cons_succ]
      refine wpAnyH_take (i := 10) (oi := { dst := some 26, op := Op.pick (Operand.tmp 20) (Operand.tmp 25) (Operand.const (Value.bool false)), type := 4, pos := "shape.go:83", after := #[{ on := 4, ground := Ground.data }, { on := 9, ground := Ground.data }], guard := none }) (v := ?_) rfl (by kernel_rfl) (by kernel_rfl) (by kernel_rfl) (fun _ _ _ h => h) (Or.inl ⟨by rfl, ?_⟩) (by assumption) ?_
      rotate_left 1
      · intro w hSw; (try dsimp only at hSw); go_simp <;> with_reducible rfl
      try simp only [Act.put, List.setIfInBounds_toArray, List.set_cons_zero, List.set_cons_succ]
      refine wpAnyH_take (i := 11) (oi := { dst := some 27, op := Op.move (Operand.tmp 26), type := 4, pos := "shape.go:83", after := #[{ on := 10, ground := Ground.data }, { on := 8, ground := Ground.chain }], guard := none }) (v := ?_) rfl (by kernel_rfl) (by kernel_rfl) (by kernel_rfl) (fun _ _ _ h => h) (Or.inl ⟨by rfl, ?_⟩) (by assumption) ?_
      rotate_left 1
      · intro w hSw; (try dsimp only at hSw); go_simp <;> with_reducible rfl
      try simp only [Act.put, List.setIfInBounds_toArray, List.set_cons_zero, List.set_cons_succ]
      refine wpAnyH_take (i := 12) (oi := { dst := some 28, op := Op.fieldAddr 72 (Operand.tmp 3) 2, type := 0, pos := "shape.go:83", after := #[{ on := 11, ground := Ground.guard }], guard := some (11, true) }) (v := undef) rfl (by kernel_rfl) (by kernel_rfl) (by kernel_rfl) (fun _ _ _ h => h) (Or.inr ⟨by rfl, rfl⟩) (by assumption) ?_
      try simp only [Act.put, List.setIfInBounds_toArray, List.set_cons_zero, List.set_cons_succ]
      refine wpAnyH_take (i := 13) (oi := { dst := some 29, op := Op.load 3 (Operand.tmp 28), type := 3, pos := "shape.go:83", after := #[{ on := 12, ground := Ground.data }, { on := 11, ground := Ground.guard }], guard := some (11, true) }) (v := undef) rfl (by kernel_rfl) (by kernel_rfl) (by kernel_rfl) (fun _ _ _ h => h) (Or.inr ⟨by rfl, rfl⟩) (by assumption) ?_
      try simp only [Act.put, List.setIfInBounds_toArray, List.set_cons_zero, List.set_cons_succ]
      refine wpAnyH_take (i := 14) (oi := { dst := some 30, op := Op.move (Operand.tmp 0), type := 28, pos := "shape.go:83", after := #[{ on := 11, ground := Ground.guard }], guard := some (11, true) }) (v := undef) rfl (by kernel_rfl) (by kernel_rfl) (by kernel_rfl) (fun _ _ _ h => h) (Or.inr ⟨by rfl, rfl⟩) (by assumption) ?_
      try simp only [Act.put, List.setIfInBounds_toArray, List.set_cons_zero, List.set_cons_succ]
      refine wpAnyH_take (i := 15) (oi := { dst := some 31, op := Op.fieldAddr 72 (Operand.tmp 3) 1, type := 0, pos := "shape.go:83", after := #[{ on := 11, ground := Ground.guard }], guard := some (11, true) }) (v := undef) rfl (by kernel_rfl) (by kernel_rfl) (by kernel_rfl) (fun _ _ _ h => h) (Or.inr ⟨by rfl, rfl⟩) (by assumption) ?_
      try simp only [Act.put, List.setIfInBounds_toArray, List.set_cons_zero, List.set_cons_succ]
      refine wpAnyH_take (i := 16) (oi := { dst := some 32, op := Op.load 3 (Operand.tmp 31), type := 3, pos := "shape.go:83", after := #[{ on := 15, ground := Ground.data }, { on := 11, ground := Ground.guard }], guard := some (11, true) }) (v := undef) rfl (by kernel_rfl) (by kernel_rfl) (by kernel_rfl) (fun _ _ _ h => h) (Or.inr ⟨by rfl, rfl⟩) (by assumption) ?_
      try simp only [Act.put, List.setIfInBounds_toArray, List.set_cons_zero, List.set_cons_succ]
      refine wpAnyH_take (i := 17) (oi := { dst := some 33, op := Op.indexAddr 28 (Operand.tmp 30) (Operand.tmp 32), type := 0, pos := "shape.go:83", after := #[{ on := 14, ground := Ground.data }, { on := 16, ground := Ground.data }, { on := 11, ground := Ground.guard }], guard := some (11, true) }) (v := undef) rfl (by kernel_rfl) (by kernel_rfl) (by kernel_rfl) (fun _ _ _ h => h) (Or.inr ⟨by rfl, rfl⟩) (by assumption) ?_
      try simp only [Act.put, List.setIfInBounds_toArray, List.set_cons_zero, List.set_cons_succ]
      refine wpAnyH_take (i := 18) (oi := { dst := some 34, op := Op.fieldAddr 72 (Operand.tmp 33) 2, type := 0, pos := "shape.go:83", after := #[{ on := 17, ground := Ground.data }, { on := 11, ground := Ground.guard }], guard := some (11, true) }) (v := undef) rfl (by kernel_rfl) (by kernel_rfl) (by kernel_rfl) (fun _ _ _ h => h) (Or.inr ⟨by rfl, rfl⟩) (by assumption) ?_
      try simp only [Act.put, List.setIfInBounds_toArray, List.set_cons_zero, List.set_cons_succ]
      refine wpAnyH_take (i := 19) (oi := { dst := some 35, op := Op.load 3 (Operand.tmp 34), type := 3, pos := "shape.go:83", after := #[{ on := 18, ground := Ground.data }, { on := 11, ground := Ground.guard }], guard := some (11, true) }) (v := undef) rfl (by kernel_rfl) (by kernel_rfl) (by kernel_rfl) (fun _ _ _ h => h) (Or.inr ⟨by rfl, rfl⟩) (by assumption) ?_
      try simp only [Act.put, List.setIfInBounds_toArray, List.set_cons_zero, List.set_cons_succ]
      refine wpAnyH_take (i := 20) (oi := { dst := some 36, op := Op.binOp BinOp.geq 3 (Operand.tmp 29) (Operand.tmp 35) 3, type := 4, pos := "shape.go:83", after := #[{ on := 13, ground := Ground.data }, { on := 19, ground := Ground.data }, { on := 11, ground := Ground.guard }], guard := some (11, true) }) (v := undef) rfl (by kernel_rfl) (by kernel_rfl) (by kernel_rfl) (fun _ _ _ h => h) (Or.inr ⟨by rfl, rfl⟩) (by assumption) ?_
      try simp only [Act.put, List.setIfInBounds_toArray, List.set_cons_zero, List.set_cons_succ]
      refine wpAnyH_take (i := 21) (oi := { dst := some 37, op := Op.pick (Operand.tmp 27) (Operand.tmp 36) (Operand.const (Value.bool false)), type := 4, pos := "shape.go:83", after := #[{ on := 11, ground := Ground.data }, { on := 20, ground := Ground.data }], guard := none }) (v := ?_) rfl (by kernel_rfl) (by kernel_rfl) (by kernel_rfl) (fun _ _ _ h => h) (Or.inl ⟨by rfl, ?_⟩) (by assumption) ?_
      rotate_left 1
      · intro w hSw; (try dsimp only at hSw); go_simp <;> with_reducible rfl
      try simp only [Act.put, List.setIfInBounds_toArray, List.set_cons_zero, List.set_cons_succ]
      refine wpAnyH_take (i := 22) (oi := { dst := some 4, op := Op.assign (Operand.tmp 37), type := 4, pos := "shape.go:83", after := #[{ on := 21, ground := Ground.data }, { on := 11, ground := Ground.chain }, { on := 0, ground := Ground.phase }, { on := 1, ground := Ground.phase }, { on := 2, ground := Ground.phase }, { on := 3, ground := Ground.phase }, { on := 4, ground := Ground.phase }, { on := 5, ground := Ground.phase }, { on := 6, ground := Ground.phase }, { on := 7, ground := Ground.phase }, { on := 8, ground := Ground.phase }, { on := 9, ground := Ground.phase }, { on := 10, ground := Ground.phase }, { on := 11, ground := Ground.phase }, { on := 12, ground := Ground.phase }, { on := 13, ground := Ground.phase }, { on := 14, ground := Ground.phase }, { on := 15, ground := Ground.phase }, { on := 16, ground := Ground.phase }, { on := 17, ground := Ground.phase }, { on := 18, ground := Ground.phase }, { on := 19, ground := Ground.phase }, { on := 20, ground := Ground.phase }, { on := 21, ground := Ground.phase }], guard := none }) (v := ?_) rfl (by kernel_rfl) (by kernel_rfl) (by kernel_rfl) (fun _ _ _ h => h) (Or.inl ⟨by rfl, ?_⟩) (by assumption) ?_
      rotate_left 1
      · intro w hSw; (try dsimp only at hSw); go_simp <;> with_reducible rfl
      try simp only [Act.put, List.setIfInBounds_toArray, List.set_cons_zero, List.set_cons_succ]
      refine wpAnyH_done (by kernel_rfl) ?_ _
      go_wp2_with fail
      go_ret
      exact ⟨congrArg (fun b => Ending.returned (Value.bool b)) e.out.symm, hB.out.drew⟩
    exact AllReadyH.nil
  have PI := Lib.hid (isc_y ad n cap s (by omega) (by omega))
  obtain ⟨k, rfl⟩ : ∃ k : Nat, s = k := ⟨s.toNat, by omega⟩
  obtain ⟨⟨xn, xs, xf, xb⟩, hx⟩ : ∃ x, A[k]? = some x := ⟨A[k]'(by have := hn'.out; omega), by simp⟩
  have he := sup_i (A := A) (s := k) (f := f) (by omega) (by omega) (by omega) (by have := hn'.out; omega)
  have hsf : superF A (k : Int) = xf := by unfold superF; rw [Int.toNat_natCast, hx]
  rw [hsf] at he
  clear hsf
  have p0 : (0 : Int) ≤ (k : Int) := by omega
  have p1 : (k : Int) < (n : Int) := by omega
  have h1 := Lib.hid (h.out.up hB.out)
  obtain ⟨_, _, g', off', xv, rfl, d0, d1, d2, d3, xbv⟩ := h1.out.at hx
  simp only at d2
  have d2' := Lib.hid d2
  have c1 : (w.alloc (.cells #[.string nm, .int .i64 (k : Int), .int .i64 f, bv] 72)).cell? ⟨w.heap.size, 1, none⟩ = some (.int .i64 (k : Int)) := by simp
  have c2 : (w.alloc (.cells #[.string nm, .int .i64 (k : Int), .int .i64 f, bv] 72)).cell? ⟨w.heap.size, 2, none⟩ = some (.int .i64 f) := by simp
  have c1' := Lib.hid c1
  have c2' := Lib.hid c2
  clear d0 d1 d3 xbv hx c1 c2 d2
  have hlen : (chain A (k : Int)).length ≤ 8 := chain_len _ _
  have PD := Lib.hid (fun w' (b : Below (w.alloc (.cells #[.string nm, .int .i64 (k : Int), .int .i64 f, bv] 72)).heap.size (w.alloc (.cells #[.string nm, .int .i64 (k : Int), .int .i64 f, bv] 72)) w') => kdepth (h1.out.up b) (k : Int) hs)
  obtain ⟨d, hd⟩ : ∃ d, d = (chain A (k : Int)).length := ⟨_, rfl⟩
  rw [← hd] at PD he hlen
  clear hd
  by_cases q4 : d < 8
  · have q4' : decide ((d : Int) < 8) = true := by simp; omega
    by_cases q5 : xf ≤ f
    · have e := Lib.hid (he.trans (by simp [q4, q5] : _ = true))
      have q5' : decide (f ≥ xf) = true := by simpa using q5
      clear he
      go_enter Tryz.func94, Tryz.ntmps94
      go_wp2
      refine wp_region_held_drew (S := (fun wr' => wr'.cell? ⟨w.heap.size, 1, none⟩ = some (.int .i64 (k : Int)) ∧ wr'.cell? ⟨w.heap.size, 2, none⟩ = some (.int .i64 f) ∧ wr'.cell? ⟨g', off' + k * 4 + 2, none⟩ = some (.int .i64 xf))) (by kernel_rfl) ?_ (fun hHeld => ?_)
      · (try dsimp only); exact ⟨c1'.out, c2'.out, d2'.out⟩
      try simp only [Act.put, List.setIfInBounds_toArray, List.set_cons_zero, List.set_cons_succ]
      refine wpAnyH_take (i := 0) (oi := { dst := some 16, op := Op.move (Operand.tmp 0), type := 28, pos := "shape.go:83", after := #[], guard := none }) (v := ?_) rfl (by kernel_rfl) (by kernel_rfl) (by kernel_rfl) (fun _ _ _ h => h) (Or.inl ⟨by rfl, ?_⟩) (by assumption) ?_
      rotate_left 1
      · intro w hSw; (try dsimp only at hSw); go_simp <;> with_reducible rfl
      try simp only [Act.put, List.setIfInBounds_toArray, List.set_cons_zero, List.set_cons_succ]
      refine wpAnyH_take (i := 1) (oi := { dst := some 17, op := Op.fieldAddr 72 (Operand.tmp 3) 1, type := 0, pos := "shape.go:83", after := #[], guard := none }) (v := ?_) rfl (by kernel_rfl) (by kernel_rfl) (by kernel_rfl) (fun _ _ _ h => h) (Or.inl ⟨by rfl, ?_⟩) (by assumption) ?_
      rotate_left 1
      · intro w hSw; (try dsimp only at hSw); go_simp <;> with_reducible rfl
      try simp only [Act.put, List.setIfInBounds_toArray, List.set_cons_zero, List.set_cons_succ]
      refine wpAnyH_take (i := 2) (oi := { dst := some 18, op := Op.load 3 (Operand.tmp 17), type := 3, pos := "shape.go:83", after := #[{ on := 1, ground := Ground.data }], guard := none }) (v := ?_) rfl (by kernel_rfl) (by kernel_rfl) (by kernel_rfl) (fun _ _ _ h => h) (Or.inl ⟨by rfl, ?_⟩) (by assumption) ?_
      rotate_left 1
      · intro w hSw; (try dsimp only at hSw); go_simp <;> with_reducible rfl
      try simp only [Act.put, List.setIfInBounds_toArray, List.set_cons_zero, List.set_cons_succ]
      refine wpAnyH_ready (rs := [3]) (by kernel_rfl) (by simp) ?_
      refine AllReadyH.cons (o := { dst := some 19, op := Op.call { callee := Callee.value (Operand.func 108), args := #[Operand.tmp 16, Operand.tmp 18], argTypes := #[28, 3] }, type := 4, pos := "shape.go:83", after := #[{ on := 0, ground := Ground.data }, { on := 2, ground := Ground.data }], guard := none }) rfl (fun K9 hK => ?_) ?_
      · go_simp
        with_reducible refine (PI.out _).mono ?_
        rintro e1 y ⟨rfl, hy⟩
        subst hy
        go_wp2_with fail
        refine hK.out _ _ ?_ ?_
        · (try dsimp only); exact ⟨c1'.out, c2'.out, d2'.out⟩
        clear hK K9 hHeld; intro hHeld
        try simp only [Act.put, List.setIfInBounds_toArray, List.set_cons_zero, List.set_cons_succ]
        refine wpAnyH_take (i := 4) (oi := { dst := some 20, op := Op.move (Operand.tmp 19), type := 4, pos := "shape.go:83", after := #[{ on := 3, ground := Ground.data }, { on := 3, ground := Ground.chain }], guard := none }) (v := ?_) rfl (by kernel_rfl) (by kernel_rfl) (by kernel_rfl) (fun _ _ _ h => h) (Or.inl ⟨by rfl, ?_⟩) (by assumption) ?_
        rotate_left 1
        · intro w hSw; (try dsimp only at hSw); go_simp <;> with_reducible rfl
        try simp only [Act.put, List.setIfInBounds_toArray, List.set_cons_zero, List.set_cons_succ]
        refine wpAnyH_take (i := 5) (oi := { dst := some 21, op := Op.move (Operand.tmp 0), type := 28, pos := "shape.go:83", after := #[{ on := 4, ground := Ground.guard }], guard := some (4, true) }) (v := ?_) rfl (by kernel_rfl) (by kernel_rfl) (by kernel_rfl) (fun _ _ _ h => h) (Or.inl ⟨by rfl, ?_⟩) (by assumption) ?_
        rotate_left 1
        · intro w hSw; (try dsimp only at hSw); go_simp <;> with_reducible rfl
        try simp only [Act.put, List.setIfInBounds_toArray, List.set_cons_zero, List.set_cons_succ]
        refine wpAnyH_take (i := 6) (oi := { dst := some 22, op := Op.fieldAddr 72 (Operand.tmp 3) 1, type := 0, pos := "shape.go:83", after := #[{ on := 4, ground := Ground.guard }], guard := some (4, true) }) (v := ?_) rfl (by kernel_rfl) (by kernel_rfl) (by kernel_rfl) (fun _ _ _ h => h) (Or.inl ⟨by rfl, ?_⟩) (by assumption) ?_
        rotate_left 1
        · intro w hSw; (try dsimp only at hSw); go_simp <;> with_reducible rfl
        try simp only [Act.put, List.setIfInBounds_toArray, List.set_cons_zero, List.set_cons_succ]
        refine wpAnyH_take (i := 7) (oi := { dst := some 23, op := Op.load 3 (Operand.tmp 22), type := 3, pos := "shape.go:83", after := #[{ on := 6, ground := Ground.data }, { on := 4, ground := Ground.guard }], guard := some (4, true) }) (v := ?_) rfl (by kernel_rfl) (by kernel_rfl) (by kernel_rfl) (fun _ _ _ h => h) (Or.inl ⟨by rfl, ?_⟩) (by assumption) ?_
        rotate_left 1
        · intro w hSw; (try dsimp only at hSw); go_simp <;> with_reducible rfl
        try simp only [Act.put, List.setIfInBounds_toArray, List.set_cons_zero, List.set_cons_succ]
        refine wpAnyH_ready (rs := [8]) (by kernel_rfl) (by simp) ?_
        refine AllReadyH.cons (o := { dst := some 24, op := Op.call { callee := Callee.value (Operand.func 109), args := #[Operand.tmp 21, Operand.tmp 23], argTypes := #[28, 3] }, type := 3, pos := "shape.go:83", after := #[{ on := 5, ground := Ground.data }, { on := 7, ground := Ground.data }, { on := 4, ground := Ground.chain }, { on := 4, ground := Ground.guard }], guard := some (4, true) }) rfl (fun K9 hK => ?_) ?_
        · go_simp
          with_reducible refine (PD.out _ (Below.refl _ _).drew).mono ?_
          rintro e1 y2 ⟨rfl, hw2⟩
          have hq : Below (w.alloc (.cells #[.string nm, .int .i64 (k : Int), .int .i64 f, bv] 72)).heap.size (w.alloc (.cells #[.string nm, .int .i64 (k : Int), .int .i64 f, bv] 72)) y2 := ((Below.refl _ _).drew).trans hw2
          have hB2 := Lib.hid (hB.out.trans (hq.mono hB.out.size))
          have hk := And.intro (cell_up hq c1'.out) (And.intro (cell_up hq c2'.out) (cell_up hq d2'.out))
          clear hw2 hq
          go_wp2_with fail
          refine hK.out _ _ ?_ ?_
          · (try dsimp only); exact hk
          clear hK K9 hHeld; intro hHeld
          try simp only [Act.put, List.setIfInBounds_toArray, List.set_cons_zero, List.set_cons_succ]
          refine wpAnyH_take (i := 9) (oi := { dst := some 25, op := Op.binOp BinOp.lss 3 (Operand.tmp 24) (Operand.const (Value.int IntKind.i64 8)) 3, type := 4, pos := "shape.go:83", after := #[{ on := 8, ground := Ground.data }, { on := 4, ground := Ground.guard }], guard := some (4, true) }) (v := ?_) rfl (by kernel_rfl) (by kernel_rfl) (by kernel_rfl) (fun _ _ _ h => h) (Or.inl ⟨by rfl, ?_⟩) (by assumption) ?_
          rotate_left 1
          · intro w hSw; (try dsimp only at hSw); go_simp <;> with_reducible rfl
          try simp only [Act.put, List.setIfInBounds_toArray, List.set_cons_zero, List.set_cons_succ]
          refine wpAnyH_take (i := 10) (oi := { dst := some 26, op := Op.pick (Operand.tmp 20) (Operand.tmp 25) (Operand.const (Value.bool false)), type := 4, pos := "shape.go:83", after := #[{ on := 4, ground := Ground.data }, { on := 9, ground := Ground.data }], guard := none }) (v := ?_) rfl (by kernel_rfl) (by kernel_rfl) (by kernel_rfl) (fun _ _ _ h => h) (Or.inl ⟨by rfl, ?_⟩) (by assumption) ?_
          rotate_left 1
          · intro w hSw; (try dsimp only at hSw); go_simp <;> with_reducible rfl
          try simp only [Act.put, List.setIfInBounds_toArray, List.set_cons_zero, List.set_cons_succ]
          refine wpAnyH_take (i := 11) (oi := { dst := some 27, op := Op.move (Operand.tmp 26), type := 4, pos := "shape.go:83", after := #[{ on := 10, ground := Ground.data }, { on := 8, ground := Ground.chain }], guard := none }) (v := ?_) rfl (by kernel_rfl) (by kernel_rfl) (by kernel_rfl) (fun _ _ _ h => h) (Or.inl ⟨by rfl, ?_⟩) (by assumption) ?_
          rotate_left 1
          · intro w hSw; (try dsimp only at hSw); go_simp <;> with_reducible rfl
          try simp only [Act.put, List.setIfInBounds_toArray, List.set_cons_zero, List.set_cons_succ]
          refine wpAnyH_take (i := 12) (oi := { dst := some 28, op := Op.fieldAddr 72 (Operand.tmp 3) 2, type := 0, pos := "shape.go:83", after := #[{ on := 11, ground := Ground.guard }], guard := some (11, true) }) (v := ?_) rfl (by kernel_rfl) (by kernel_rfl) (by kernel_rfl) (fun _ _ _ h => h) (Or.inl ⟨by rfl, ?_⟩) (by assumption) ?_
          rotate_left 1
          · intro w hSw; (try dsimp only at hSw); go_simp <;> with_reducible rfl
          try simp only [Act.put, List.setIfInBounds_toArray, List.set_cons_zero, List.set_cons_succ]
          refine wpAnyH_take (i := 13) (oi := { dst := some 29, op := Op.load 3 (Operand.tmp 28), type := 3, pos := "shape.go:83", after := #[{ on := 12, ground := Ground.data }, { on := 11, ground := Ground.guard }], guard := some (11, true) }) (v := ?_) rfl (by kernel_rfl) (by kernel_rfl) (by kernel_rfl) (fun _ _ _ h => h) (Or.inl ⟨by rfl, ?_⟩) (by assumption) ?_
          rotate_left 1
          · intro w hSw; (try dsimp only at hSw); go_simp <;> with_reducible rfl
          try simp only [Act.put, List.setIfInBounds_toArray, List.set_cons_zero, List.set_cons_succ]
          refine wpAnyH_take (i := 14) (oi := { dst := some 30, op := Op.move (Operand.tmp 0), type := 28, pos := "shape.go:83", after := #[{ on := 11, ground := Ground.guard }], guard := some (11, true) }) (v := ?_) rfl (by kernel_rfl) (by kernel_rfl) (by kernel_rfl) (fun _ _ _ h => h) (Or.inl ⟨by rfl, ?_⟩) (by assumption) ?_
          rotate_left 1
          · intro w hSw; (try dsimp only at hSw); go_simp <;> with_reducible rfl
          try simp only [Act.put, List.setIfInBounds_toArray, List.set_cons_zero, List.set_cons_succ]
          refine wpAnyH_take (i := 15) (oi := { dst := some 31, op := Op.fieldAddr 72 (Operand.tmp 3) 1, type := 0, pos := "shape.go:83", after := #[{ on := 11, ground := Ground.guard }], guard := some (11, true) }) (v := ?_) rfl (by kernel_rfl) (by kernel_rfl) (by kernel_rfl) (fun _ _ _ h => h) (Or.inl ⟨by rfl, ?_⟩) (by assumption) ?_
          rotate_left 1
          · intro w hSw; (try dsimp only at hSw); go_simp <;> with_reducible rfl
          try simp only [Act.put, List.setIfInBounds_toArray, List.set_cons_zero, List.set_cons_succ]
          refine wpAnyH_take (i := 16) (oi := { dst := some 32, op := Op.load 3 (Operand.tmp 31), type := 3, pos := "shape.go:83", after := #[{ on := 15, ground := Ground.data }, { on := 11, ground := Ground.guard }], guard := some (11, true) }) (v := ?_) rfl (by kernel_rfl) (by kernel_rfl) (by kernel_rfl) (fun _ _ _ h => h) (Or.inl ⟨by rfl, ?_⟩) (by assumption) ?_
          rotate_left 1
          · intro w hSw; (try dsimp only at hSw); go_simp <;> with_reducible rfl
          try simp only [Act.put, List.setIfInBounds_toArray, List.set_cons_zero, List.set_cons_succ]
          refine wpAnyH_take (i := 17) (oi := { dst := some 33, op := Op.indexAddr 28 (Operand.tmp 30) (Operand.tmp 32), type := 0, pos := "shape.go:83", after := #[{ on := 14, ground := Ground.data }, { on := 16, ground := Ground.data }, { on := 11, ground := Ground.guard }], guard := some (11, true) }) (v := ?_) rfl (by kernel_rfl) (by kernel_rfl) (by kernel_rfl) (fun _ _ _ h => h) (Or.inl ⟨by rfl, ?_⟩) (by assumption) ?_
          rotate_left 1
          · intro w hSw; (try dsimp only at hSw); go_simp <;> with_reducible rfl
          try simp only [Act.put, List.setIfInBounds_toArray, List.set_cons_zero, List.set_cons_succ]
          refine wpAnyH_take (i := 18) (oi := { dst := some 34, op := Op.fieldAddr 72 (Operand.tmp 33) 2, type := 0, pos := "shape.go:83", after := #[{ on := 17, ground := Ground.data }, { on := 11, ground := Ground.guard }], guard := some (11, true) }) (v := ?_) rfl (by kernel_rfl) (by kernel_rfl) (by kernel_rfl) (fun _ _ _ h => h) (Or.inl ⟨by rfl, ?_⟩) (by assumption) ?_
          rotate_left 1
          · intro w hSw; (try dsimp only at hSw); go_simp <;> with_reducible rfl
          try simp only [Act.put, List.setIfInBounds_toArray, List.set_cons_zero, List.set_cons_succ]
          refine wpAnyH_take (i := 19) (oi := { dst := some 35, op := Op.load 3 (Operand.tmp 34), type := 3, pos := "shape.go:83", after := #[{ on := 18, ground := Ground.data }, { on := 11, ground := Ground.guard }], guard := some (11, true) }) (v := ?_) rfl (by kernel_rfl) (by kernel_rfl) (by kernel_rfl) (fun _ _ _ h => h) (Or.inl ⟨by rfl, ?_⟩) (by assumption) ?_
          rotate_left 1
          · intro w hSw; (try dsimp only at hSw); go_simp <;> with_reducible rfl
          try simp only [Act.put, List.setIfInBounds_toArray, List.set_cons_zero, List.set_cons_succ]
          refine wpAnyH_take (i := 20) (oi := { dst := some 36, op := Op.binOp BinOp.geq 3 (Operand.tmp 29) (Operand.tmp 35) 3, type := 4, pos := "shape.go:83", after := #[{ on := 13, ground := Ground.data }, { on := 19, ground := Ground.data }, { on := 11, ground := Ground.guard }], guard := some (11, true) }) (v := ?_) rfl (by kernel_rfl) (by kernel_rfl) (by kernel_rfl) (fun _ _ _ h => h) (Or.inl ⟨by rfl, ?_⟩) (by assumption) ?_
          rotate_left 1
          · intro w hSw; (try dsimp only at hSw); go_simp <;> with_reducible rfl
          try simp only [Act.put, List.setIfInBounds_toArray, List.set_cons_zero, List.set_cons_succ]
          refine wpAnyH_take (i := 21) (oi := { dst := some 37, op := Op.pick (Operand.tmp 27) (Operand.tmp 36) (Operand.const (Value.bool false)), type := 4, pos := "shape.go:83", after := #[{ on := 11, ground := Ground.data }, { on := 20, ground := Ground.data }], guard := none }) (v := ?_) rfl (by kernel_rfl) (by kernel_rfl) (by kernel_rfl) (fun _ _ _ h => h) (Or.inl ⟨by rfl, ?_⟩) (by assumption) ?_
          rotate_left 1
          · intro w hSw; (try dsimp only at hSw); go_simp <;> with_reducible rfl
          try simp only [Act.put, List.setIfInBounds_toArray, List.set_cons_zero, List.set_cons_succ]
          refine wpAnyH_take (i := 22) (oi := { dst := some 4, op := Op.assign (Operand.tmp 37), type := 4, pos := "shape.go:83", after := #[{ on := 21, ground := Ground.data }, { on := 11, ground := Ground.chain }, { on := 0, ground := Ground.phase }, { on := 1, ground := Ground.phase }, { on := 2, ground := Ground.phase }, { on := 3, ground := Ground.phase }, { on := 4, ground := Ground.phase }, { on := 5, ground := Ground.phase }, { on := 6, ground := Ground.phase }, { on := 7, ground := Ground.phase }, { on := 8, ground := Ground.phase }, { on := 9, ground := Ground.phase }, { on := 10, ground := Ground.phase }, { on := 11, ground := Ground.phase }, { on := 12, ground := Ground.phase }, { on := 13, ground := Ground.phase }, { on := 14, ground := Ground.phase }, { on := 15, ground := Ground.phase }, { on := 16, ground := Ground.phase }, { on := 17, ground := Ground.phase }, { on := 18, ground := Ground.phase }, { on := 19, ground := Ground.phase }, { on := 20, ground := Ground.phase }, { on := 21, ground := Ground.phase }], guard := none }) (v := ?_) rfl (by kernel_rfl) (by kernel_rfl) (by kernel_rfl) (fun _ _ _ h => h) (Or.inl ⟨by rfl, ?_⟩) (by assumption) ?_
          rotate_left 1
          · intro w hSw; (try dsimp only at hSw); go_simp <;> with_reducible rfl
          try simp only [Act.put, List.setIfInBounds_toArray, List.set_cons_zero, List.set_cons_succ]
          refine wpAnyH_done (by kernel_rfl) ?_ _
          go_wp2_with fail
          go_ret
          exact ⟨congrArg (fun b => Ending.returned (Value.bool b)) e.out.symm, hB2.out⟩
        exact AllReadyH.nil
      exact AllReadyH.nil
    · have e := Lib.hid (he.trans (by simp [q4, q5] : _ = false))
      have q5' : decide (f ≥ xf) = false := by simpa using q5
      clear he
      go_enter Tryz.func94, Tryz.ntmps94
      go_wp2
      refine wp_region_held_drew (S := (fun wr' => wr'.cell? ⟨w.heap.size, 1, none⟩ = some (.int .i64 (k : Int)) ∧ wr'.cell? ⟨w.heap.size, 2, none⟩ = some (.int .i64 f) ∧ wr'.cell? ⟨g', off' + k * 4 + 2, none⟩ = some (.int .i64 xf))) (by kernel_rfl) ?_ (fun hHeld => ?_)
      · (try dsimp only); exact ⟨c1'.out, c2'.out, d2'.out⟩
      try simp only [Act.put, List.setIfInBounds_toArray, List.set_cons_zero, List.set_cons_succ]
      refine wpAnyH_take (i := 0) (oi := { dst := some 16, op := Op.move (Operand.tmp 0), type := 28, pos := "shape.go:83", after := #[], guard := none }) (v := ?_) rfl (by kernel_rfl) (by kernel_rfl) (by kernel_rfl) (fun _ _ _ h => h) (Or.inl ⟨by rfl, ?_⟩) (by assumption) ?_
      rotate_left 1
      · intro w hSw; (try dsimp only at hSw); go_simp <;> with_reducible rfl
      try simp only [Act.put, List.setIfInBounds_toArray, List.set_cons_zero, List.set_cons_succ]
      refine wpAnyH_take (i := 1) (oi := { dst := some 17, op := Op.fieldAddr 72 (Operand.tmp 3) 1, type := 0, pos := "shape.go:83", after := #[], guard := none }) (v := ?_) rfl (by kernel_rfl) (by kernel_rfl) (by kernel_rfl) (fun _ _ _ h => h) (Or.inl ⟨by rfl, ?_⟩) (by assumption) ?_
      rotate_left 1
      · intro w hSw; (try dsimp only at hSw); go_simp <;> with_reducible rfl
      try simp only [Act.put, List.setIfInBounds_toArray, List.set_cons_zero, List.set_cons_succ]
      refine wpAnyH_take (i := 2) (oi := { dst := some 18, op := Op.load 3 (Operand.tmp 17), type := 3, pos := "shape.go:83", after := #[{ on := 1, ground := Ground.data }], guard := none }) (v := ?_) rfl (by kernel_rfl) (by kernel_rfl) (by kernel_rfl) (fun _ _ _ h => h) (Or.inl ⟨by rfl, ?_⟩) (by assumption) ?_
      rotate_left 1
      · intro w hSw; (try dsimp only at hSw); go_simp <;> with_reducible rfl
      try simp only [Act.put, List.setIfInBounds_toArray, List.set_cons_zero, List.set_cons_succ]
      refine wpAnyH_ready (rs := [3]) (by kernel_rfl) (by simp) ?_
      refine AllReadyH.cons (o := { dst := some 19, op := Op.call { callee := Callee.value (Operand.func 108), args := #[Operand.tmp 16, Operand.tmp 18], argTypes := #[28, 3] }, type := 4, pos := "shape.go:83", after := #[{ on := 0, ground := Ground.data }, { on := 2, ground := Ground.data }], guard := none }) rfl (fun K9 hK => ?_) ?_
      · go_simp
        with_reducible refine (PI.out _).mono ?_
        rintro e1 y ⟨rfl, hy⟩
        subst hy
        go_wp2_with fail
        refine hK.out _ _ ?_ ?_
        · (try dsimp only); exact ⟨c1'.out, c2'.out, d2'.out⟩
        clear hK K9 hHeld; intro hHeld
        try simp only [Act.put, List.setIfInBounds_toArray, List.set_cons_zero, List.set_cons_succ]
        refine wpAnyH_take (i := 4) (oi := { dst := some 20, op := Op.move (Operand.tmp 19), type := 4, pos := "shape.go:83", after := #[{ on := 3, ground := Ground.data }, { on := 3, ground := Ground.chain }], guard := none }) (v := ?_) rfl (by kernel_rfl) (by kernel_rfl) (by kernel_rfl) (fun _ _ _ h => h) (Or.inl ⟨by rfl, ?_⟩) (by assumption) ?_
        rotate_left 1
        · intro w hSw; (try dsimp only at hSw); go_simp <;> with_reducible rfl
        try simp only [Act.put, List.setIfInBounds_toArray, List.set_cons_zero, List.set_cons_succ]
        refine wpAnyH_take (i := 5) (oi := { dst := some 21, op := Op.move (Operand.tmp 0), type := 28, pos := "shape.go:83", after := #[{ on := 4, ground := Ground.guard }], guard := some (4, true) }) (v := ?_) rfl (by kernel_rfl) (by kernel_rfl) (by kernel_rfl) (fun _ _ _ h => h) (Or.inl ⟨by rfl, ?_⟩) (by assumption) ?_
        rotate_left 1
        · intro w hSw; (try dsimp only at hSw); go_simp <;> with_reducible rfl
        try simp only [Act.put, List.setIfInBounds_toArray, List.set_cons_zero, List.set_cons_succ]
        refine wpAnyH_take (i := 6) (oi := { dst := some 22, op := Op.fieldAddr 72 (Operand.tmp 3) 1, type := 0, pos := "shape.go:83", after := #[{ on := 4, ground := Ground.guard }], guard := some (4, true) }) (v := ?_) rfl (by kernel_rfl) (by kernel_rfl) (by kernel_rfl) (fun _ _ _ h => h) (Or.inl ⟨by rfl, ?_⟩) (by assumption) ?_
        rotate_left 1
        · intro w hSw; (try dsimp only at hSw); go_simp <;> with_reducible rfl
        try simp only [Act.put, List.setIfInBounds_toArray, List.set_cons_zero, List.set_cons_succ]
        refine wpAnyH_take (i := 7) (oi := { dst := some 23, op := Op.load 3 (Operand.tmp 22), type := 3, pos := "shape.go:83", after := #[{ on := 6, ground := Ground.data }, { on := 4, ground := Ground.guard }], guard := some (4, true) }) (v := ?_) rfl (by kernel_rfl) (by kernel_rfl) (by kernel_rfl) (fun _ _ _ h => h) (Or.inl ⟨by rfl, ?_⟩) (by assumption) ?_
        rotate_left 1
        · intro w hSw; (try dsimp only at hSw); go_simp <;> with_reducible rfl
        try simp only [Act.put, List.setIfInBounds_toArray, List.set_cons_zero, List.set_cons_succ]
        refine wpAnyH_ready (rs := [8]) (by kernel_rfl) (by simp) ?_
        refine AllReadyH.cons (o := { dst := some 24, op := Op.call { callee := Callee.value (Operand.func 109), args := #[Operand.tmp 21, Operand.tmp 23], argTypes := #[28, 3] }, type := 3, pos := "shape.go:83", after := #[{ on := 5, ground := Ground.data }, { on := 7, ground := Ground.data }, { on := 4, ground := Ground.chain }, { on := 4, ground := Ground.guard }], guard := some (4, true) }) rfl (fun K9 hK => ?_) ?_
        · go_simp
          with_reducible refine (PD.out _ (Below.refl _ _).drew).mono ?_
          rintro e1 y2 ⟨rfl, hw2⟩
          have hq : Below (w.alloc (.cells #[.string nm, .int .i64 (k : Int), .int .i64 f, bv] 72)).heap.size (w.alloc (.cells #[.string nm, .int .i64 (k : Int), .int .i64 f, bv] 72)) y2 := ((Below.refl _ _).drew).trans hw2
          have hB2 := Lib.hid (hB.out.trans (hq.mono hB.out.size))
          have hk := And.intro (cell_up hq c1'.out) (And.intro (cell_up hq c2'.out) (cell_up hq d2'.out))
          clear hw2 hq
          go_wp2_with fail
          refine hK.out _ _ ?_ ?_
          · (try dsimp only); exact hk
          clear hK K9 hHeld; intro hHeld
          try simp only [Act.put, List.setIfInBounds_toArray, List.set_cons_zero, List.set_cons_succ]
          refine wpAnyH_take (i := 9) (oi := { dst := some 25, op := Op.binOp BinOp.lss 3 (Operand.tmp 24) (Operand.const (Value.int IntKind.i64 8)) 3, type := 4, pos := "shape.go:83", after := #[{ on := 8, ground := Ground.data }, { on := 4, ground := Ground.guard }], guard := some (4, true) }) (v := ?_) rfl (by kernel_rfl) (by kernel_rfl) (by kernel_rfl) (fun _ _ _ h => h) (Or.inl ⟨by rfl, ?_⟩) (by assumption) ?_
          rotate_left 1
          · intro w hSw; (try dsimp only at hSw); go_simp <;> with_reducible rfl
          try simp only [Act.put, List.setIfInBounds_toArray, List.set_cons_zero, List.set_cons_succ]
          refine wpAnyH_take (i := 10) (oi := { dst := some 26, op := Op.pick (Operand.tmp 20) (Operand.tmp 25) (Operand.const (Value.bool false)), type := 4, pos := "shape.go:83", after := #[{ on := 4, ground := Ground.data }, { on := 9, ground := Ground.data }], guard := none }) (v := ?_) rfl (by kernel_rfl) (by kernel_rfl) (by kernel_rfl) (fun _ _ _ h => h) (Or.inl ⟨by rfl, ?_⟩) (by assumption) ?_
          rotate_left 1
          · intro w hSw; (try dsimp only at hSw); go_simp <;> with_reducible rfl
          try simp only [Act.put, List.setIfInBounds_toArray, List.set_cons_zero, List.set_cons_succ]
          refine wpAnyH_take (i := 11) (oi := { dst := some 27, op := Op.move (Operand.tmp 26), type := 4, pos := "shape.go:83", after := #[{ on := 10, ground := Ground.data }, { on := 8, ground := Ground.chain }], guard := none }) (v := ?_) rfl (by kernel_rfl) (by kernel_rfl) (by kernel_rfl) (fun _ _ _ h => h) (Or.inl ⟨by rfl, ?_⟩) (by assumption) ?_
          rotate_left 1
          · intro w hSw; (try dsimp only at hSw); go_simp <;> with_reducible rfl
          try simp only [Act.put, List.setIfInBounds_toArray, List.set_cons_zero, List.set_cons_succ]
          refine wpAnyH_take (i := 12) (oi := { dst := some 28, op := Op.fieldAddr 72 (Operand.tmp 3) 2, type := 0, pos := "shape.go:83", after := #[{ on := 11, ground := Ground.guard }], guard := some (11, true) }) (v := ?_) rfl (by kernel_rfl) (by kernel_rfl) (by kernel_rfl) (fun _ _ _ h => h) (Or.inl ⟨by rfl, ?_⟩) (by assumption) ?_
          rotate_left 1
          · intro w hSw; (try dsimp only at hSw); go_simp <;> with_reducible rfl
          try simp only [Act.put, List.setIfInBounds_toArray, List.set_cons_zero, List.set_cons_succ]
          refine wpAnyH_take (i := 13) (oi := { dst := some 29, op := Op.load 3 (Operand.tmp 28), type := 3, pos := "shape.go:83", after := #[{ on := 12, ground := Ground.data }, { on := 11, ground := Ground.guard }], guard := some (11, true) }) (v := ?_) rfl (by kernel_rfl) (by kernel_rfl) (by kernel_rfl) (fun _ _ _ h => h) (Or.inl ⟨by rfl, ?_⟩) (by assumption) ?_
          rotate_left 1
          · intro w hSw; (try dsimp only at hSw); go_simp <;> with_reducible rfl
          try simp only [Act.put, List.setIfInBounds_toArray, List.set_cons_zero, List.set_cons_succ]
          refine wpAnyH_take (i := 14) (oi := { dst := some 30, op := Op.move (Operand.tmp 0), type := 28, pos := "shape.go:83", after := #[{ on := 11, ground := Ground.guard }], guard := some (11, true) }) (v := ?_) rfl (by kernel_rfl) (by kernel_rfl) (by kernel_rfl) (fun _ _ _ h => h) (Or.inl ⟨by rfl, ?_⟩) (by assumption) ?_
          rotate_left 1
          · intro w hSw; (try dsimp only at hSw); go_simp <;> with_reducible rfl
          try simp only [Act.put, List.setIfInBounds_toArray, List.set_cons_zero, List.set_cons_succ]
          refine wpAnyH_take (i := 15) (oi := { dst := some 31, op := Op.fieldAddr 72 (Operand.tmp 3) 1, type := 0, pos := "shape.go:83", after := #[{ on := 11, ground := Ground.guard }], guard := some (11, true) }) (v := ?_) rfl (by kernel_rfl) (by kernel_rfl) (by kernel_rfl) (fun _ _ _ h => h) (Or.inl ⟨by rfl, ?_⟩) (by assumption) ?_
          rotate_left 1
          · intro w hSw; (try dsimp only at hSw); go_simp <;> with_reducible rfl
          try simp only [Act.put, List.setIfInBounds_toArray, List.set_cons_zero, List.set_cons_succ]
          refine wpAnyH_take (i := 16) (oi := { dst := some 32, op := Op.load 3 (Operand.tmp 31), type := 3, pos := "shape.go:83", after := #[{ on := 15, ground := Ground.data }, { on := 11, ground := Ground.guard }], guard := some (11, true) }) (v := ?_) rfl (by kernel_rfl) (by kernel_rfl) (by kernel_rfl) (fun _ _ _ h => h) (Or.inl ⟨by rfl, ?_⟩) (by assumption) ?_
          rotate_left 1
          · intro w hSw; (try dsimp only at hSw); go_simp <;> with_reducible rfl
          try simp only [Act.put, List.setIfInBounds_toArray, List.set_cons_zero, List.set_cons_succ]
          refine wpAnyH_take (i := 17) (oi := { dst := some 33, op := Op.indexAddr 28 (Operand.tmp 30) (Operand.tmp 32), type := 0, pos := "shape.go:83", after := #[{ on := 14, ground := Ground.data }, { on := 16, ground := Ground.data }, { on := 11, ground := Ground.guard }], guard := some (11, true) }) (v := ?_) rfl (by kernel_rfl) (by kernel_rfl) (by kernel_rfl) (fun _ _ _ h => h) (Or.inl ⟨by rfl, ?_⟩) (by assumption) ?_
          rotate_left 1
          · intro w hSw; (try dsimp only at hSw); go_simp <;> with_reducible rfl
          try simp only [Act.put, List.setIfInBounds_toArray, List.set_cons_zero, List.set_cons_succ]
          refine wpAnyH_take (i := 18) (oi := { dst := some 34, op := Op.fieldAddr 72 (Operand.tmp 33) 2, type := 0, pos := "shape.go:83", after := #[{ on := 17, ground := Ground.data }, { on := 11, ground := Ground.guard }], guard := some (11, true) }) (v := ?_) rfl (by kernel_rfl) (by kernel_rfl) (by kernel_rfl) (fun _ _ _ h => h) (Or.inl ⟨by rfl, ?_⟩) (by assumption) ?_
          rotate_left 1
          · intro w hSw; (try dsimp only at hSw); go_simp <;> with_reducible rfl
          try simp only [Act.put, List.setIfInBounds_toArray, List.set_cons_zero, List.set_cons_succ]
          refine wpAnyH_take (i := 19) (oi := { dst := some 35, op := Op.load 3 (Operand.tmp 34), type := 3, pos := "shape.go:83", after := #[{ on := 18, ground := Ground.data }, { on := 11, ground := Ground.guard }], guard := some (11, true) }) (v := ?_) rfl (by kernel_rfl) (by kernel_rfl) (by kernel_rfl) (fun _ _ _ h => h) (Or.inl ⟨by rfl, ?_⟩) (by assumption) ?_
          rotate_left 1
          · intro w hSw; (try dsimp only at hSw); go_simp <;> with_reducible rfl
          try simp only [Act.put, List.setIfInBounds_toArray, List.set_cons_zero, List.set_cons_succ]
          refine wpAnyH_take (i := 20) (oi := { dst := some 36, op := Op.binOp BinOp.geq 3 (Operand.tmp 29) (Operand.tmp 35) 3, type := 4, pos := "shape.go:83", after := #[{ on := 13, ground := Ground.data }, { on := 19, ground := Ground.data }, { on := 11, ground := Ground.guard }], guard := some (11, true) }) (v := ?_) rfl (by kernel_rfl) (by kernel_rfl) (by kernel_rfl) (fun _ _ _ h => h) (Or.inl ⟨by rfl, ?_⟩) (by assumption) ?_
          rotate_left 1
          · intro w hSw; (try dsimp only at hSw); go_simp <;> with_reducible rfl
          try simp only [Act.put, List.setIfInBounds_toArray, List.set_cons_zero, List.set_cons_succ]
          refine wpAnyH_take (i := 21) (oi := { dst := some 37, op := Op.pick (Operand.tmp 27) (Operand.tmp 36) (Operand.const (Value.bool false)), type := 4, pos := "shape.go:83", after := #[{ on := 11, ground := Ground.data }, { on := 20, ground := Ground.data }], guard := none }) (v := ?_) rfl (by kernel_rfl) (by kernel_rfl) (by kernel_rfl) (fun _ _ _ h => h) (Or.inl ⟨by rfl, ?_⟩) (by assumption) ?_
          rotate_left 1
          · intro w hSw; (try dsimp only at hSw); go_simp <;> with_reducible rfl
          try simp only [Act.put, List.setIfInBounds_toArray, List.set_cons_zero, List.set_cons_succ]
          refine wpAnyH_take (i := 22) (oi := { dst := some 4, op := Op.assign (Operand.tmp 37), type := 4, pos := "shape.go:83", after := #[{ on := 21, ground := Ground.data }, { on := 11, ground := Ground.chain }, { on := 0, ground := Ground.phase }, { on := 1, ground := Ground.phase }, { on := 2, ground := Ground.phase }, { on := 3, ground := Ground.phase }, { on := 4, ground := Ground.phase }, { on := 5, ground := Ground.phase }, { on := 6, ground := Ground.phase }, { on := 7, ground := Ground.phase }, { on := 8, ground := Ground.phase }, { on := 9, ground := Ground.phase }, { on := 10, ground := Ground.phase }, { on := 11, ground := Ground.phase }, { on := 12, ground := Ground.phase }, { on := 13, ground := Ground.phase }, { on := 14, ground := Ground.phase }, { on := 15, ground := Ground.phase }, { on := 16, ground := Ground.phase }, { on := 17, ground := Ground.phase }, { on := 18, ground := Ground.phase }, { on := 19, ground := Ground.phase }, { on := 20, ground := Ground.phase }, { on := 21, ground := Ground.phase }], guard := none }) (v := ?_) rfl (by kernel_rfl) (by kernel_rfl) (by kernel_rfl) (fun _ _ _ h => h) (Or.inl ⟨by rfl, ?_⟩) (by assumption) ?_
          rotate_left 1
          · intro w hSw; (try dsimp only at hSw); go_simp <;> with_reducible rfl
          try simp only [Act.put, List.setIfInBounds_toArray, List.set_cons_zero, List.set_cons_succ]
          refine wpAnyH_done (by kernel_rfl) ?_ _
          go_wp2_with fail
          go_ret
          exact ⟨congrArg (fun b => Ending.returned (Value.bool b)) e.out.symm, hB2.out⟩
        exact AllReadyH.nil
      exact AllReadyH.nil
  · have q4' : decide ((d : Int) < 8) = false := by simp; omega
    have e := Lib.hid (he.trans (by simp [q4] : _ = false))
    clear he
    go_enter Tryz.func94, Tryz.ntmps94
    go_wp2
    refine wp_region_held_drew (S := (fun wr' => wr'.cell? ⟨w.heap.size, 1, none⟩ = some (.int .i64 (k : Int)) ∧ wr'.cell? ⟨w.heap.size, 2, none⟩ = some (.int .i64 f) ∧ wr'.cell? ⟨g', off' + k * 4 + 2, none⟩ = some (.int .i64 xf))) (by kernel_rfl) ?_ (fun hHeld => ?_)
    · (try dsimp only); exact ⟨c1'.out, c2'.out, d2'.out⟩
    try simp only [Act.put, List.setIfInBounds_toArray, List.set_cons_zero, List.set_cons_succ]
    refine wpAnyH_take (i := 0) (oi := { dst := some 16, op := Op.move (Operand.tmp 0), type := 28, pos := "shape.go:83", after := #[], guard := none }) (v := ?_) rfl (by kernel_rfl) (by kernel_rfl) (by kernel_rfl) (fun _ _ _ h => h) (Or.inl ⟨by rfl, ?_⟩) (by assumption) ?_
    rotate_left 1
    · intro w hSw; (try dsimp only at hSw); go_simp <;> with_reducible rfl
    try simp only [Act.put, List.setIfInBounds_toArray, List.set_cons_zero, List.set_cons_succ]
    refine wpAnyH_take (i := 1) (oi := { dst := some 17, op := Op.fieldAddr 72 (Operand.tmp 3) 1, type := 0, pos := "shape.go:83", after := #[], guard := none }) (v := ?_) rfl (by kernel_rfl) (by kernel_rfl) (by kernel_rfl) (fun _ _ _ h => h) (Or.inl ⟨by rfl, ?_⟩) (by assumption) ?_
    rotate_left 1
    · intro w hSw; (try dsimp only at hSw); go_simp <;> with_reducible rfl
    try simp only [Act.put, List.setIfInBounds_toArray, List.set_cons_zero, List.set_cons_succ]
    refine wpAnyH_take (i := 2) (oi := { dst := some 18, op := Op.load 3 (Operand.tmp 17), type := 3, pos := "shape.go:83", after := #[{ on := 1, ground := Ground.data }], guard := none }) (v := ?_) rfl (by kernel_rfl) (by kernel_rfl) (by kernel_rfl) (fun _ _ _ h => h) (Or.inl ⟨by rfl, ?_⟩) (by assumption) ?_
    rotate_left 1
    · intro w hSw; (try dsimp only at hSw); go_simp <;> with_reducible rfl
    try simp only [Act.put, List.setIfInBounds_toArray, List.set_cons_zero, List.set_cons_succ]
    refine wpAnyH_ready (rs := [3]) (by kernel_rfl) (by simp) ?_
    refine AllReadyH.cons (o := { dst := some 19, op := Op.call { callee := Callee.value (Operand.func 108), args := #[Operand.tmp 16, Operand.tmp 18], argTypes := #[28, 3] }, type := 4, pos := "shape.go:83", after := #[{ on := 0, ground := Ground.data }, { on := 2, ground := Ground.data }], guard := none }) rfl (fun K9 hK => ?_) ?_
    · go_simp
      with_reducible refine (PI.out _).mono ?_
      rintro e1 y ⟨rfl, hy⟩
      subst hy
      go_wp2_with fail
      refine hK.out _ _ ?_ ?_
      · (try dsimp only); exact ⟨c1'.out, c2'.out, d2'.out⟩
      clear hK K9 hHeld; intro hHeld
      try simp only [Act.put, List.setIfInBounds_toArray, List.set_cons_zero, List.set_cons_succ]
      refine wpAnyH_take (i := 4) (oi := { dst := some 20, op := Op.move (Operand.tmp 19), type := 4, pos := "shape.go:83", after := #[{ on := 3, ground := Ground.data }, { on := 3, ground := Ground.chain }], guard := none }) (v := ?_) rfl (by kernel_rfl) (by kernel_rfl) (by kernel_rfl) (fun _ _ _ h => h) (Or.inl ⟨by rfl, ?_⟩) (by assumption) ?_
      rotate_left 1
      · intro w hSw; (try dsimp only at hSw); go_simp <;> with_reducible rfl
      try simp only [Act.put, List.setIfInBounds_toArray, List.set_cons_zero, List.set_cons_succ]
      refine wpAnyH_take (i := 5) (oi := { dst := some 21, op := Op.move (Operand.tmp 0), type := 28, pos := "shape.go:83", after := #[{ on := 4, ground := Ground.guard }], guard := some (4, true) }) (v := ?_) rfl (by kernel_rfl) (by kernel_rfl) (by kernel_rfl) (fun _ _ _ h => h) (Or.inl ⟨by rfl, ?_⟩) (by assumption) ?_
      rotate_left 1
      · intro w hSw; (try dsimp only at hSw); go_simp <;> with_reducible rfl
      try simp only [Act.put, List.setIfInBounds_toArray, List.set_cons_zero, List.set_cons_succ]
      refine wpAnyH_take (i := 6) (oi := { dst := some 22, op := Op.fieldAddr 72 (Operand.tmp 3) 1, type := 0, pos := "shape.go:83", after := #[{ on := 4, ground := Ground.guard }], guard := some (4, true) }) (v := ?_) rfl (by kernel_rfl) (by kernel_rfl) (by kernel_rfl) (fun _ _ _ h => h) (Or.inl ⟨by rfl, ?_⟩) (by assumption) ?_
      rotate_left 1
      · intro w hSw; (try dsimp only at hSw); go_simp <;> with_reducible rfl
      try simp only [Act.put, List.setIfInBounds_toArray, List.set_cons_zero, List.set_cons_succ]
      refine wpAnyH_take (i := 7) (oi := { dst := some 23, op := Op.load 3 (Operand.tmp 22), type := 3, pos := "shape.go:83", after := #[{ on := 6, ground := Ground.data }, { on := 4, ground := Ground.guard }], guard := some (4, true) }) (v := ?_) rfl (by kernel_rfl) (by kernel_rfl) (by kernel_rfl) (fun _ _ _ h => h) (Or.inl ⟨by rfl, ?_⟩) (by assumption) ?_
      rotate_left 1
      · intro w hSw; (try dsimp only at hSw); go_simp <;> with_reducible rfl
      try simp only [Act.put, List.setIfInBounds_toArray, List.set_cons_zero, List.set_cons_succ]
      refine wpAnyH_ready (rs := [8]) (by kernel_rfl) (by simp) ?_
      refine AllReadyH.cons (o := { dst := some 24, op := Op.call { callee := Callee.value (Operand.func 109), args := #[Operand.tmp 21, Operand.tmp 23], argTypes := #[28, 3] }, type := 3, pos := "shape.go:83", after := #[{ on := 5, ground := Ground.data }, { on := 7, ground := Ground.data }, { on := 4, ground := Ground.chain }, { on := 4, ground := Ground.guard }], guard := some (4, true) }) rfl (fun K9 hK => ?_) ?_
      · go_simp
        with_reducible refine (PD.out _ (Below.refl _ _).drew).mono ?_
        rintro e1 y2 ⟨rfl, hw2⟩
        have hq : Below (w.alloc (.cells #[.string nm, .int .i64 (k : Int), .int .i64 f, bv] 72)).heap.size (w.alloc (.cells #[.string nm, .int .i64 (k : Int), .int .i64 f, bv] 72)) y2 := ((Below.refl _ _).drew).trans hw2
        have hB2 := Lib.hid (hB.out.trans (hq.mono hB.out.size))
        have hk := And.intro (cell_up hq c1'.out) (And.intro (cell_up hq c2'.out) (cell_up hq d2'.out))
        clear hw2 hq
        go_wp2_with fail
        refine hK.out _ _ ?_ ?_
        · (try dsimp only); exact hk
        clear hK K9 hHeld; intro hHeld
        try simp only [Act.put, List.setIfInBounds_toArray, List.set_cons_zero, List.set_cons_succ]
        refine wpAnyH_take (i := 9) (oi := { dst := some 25, op := Op.binOp BinOp.lss 3 (Operand.tmp 24) (Operand.const (Value.int IntKind.i64 8)) 3, type := 4, pos := "shape.go:83", after := #[{ on := 8, ground := Ground.data }, { on := 4, ground := Ground.guard }], guard := some (4, true) }) (v := ?_) rfl (by kernel_rfl) (by kernel_rfl) (by kernel_rfl) (fun _ _ _ h => h) (Or.inl ⟨by rfl, ?_⟩) (by assumption) ?_
        rotate_left 1
        · intro w hSw; (try dsimp only at hSw); go_simp <;> with_reducible rfl
        try simp only [Act.put, List.setIfInBounds_toArray, List.set_cons_zero, List.set_cons_succ]
        refine wpAnyH_take (i := 10) (oi := { dst := some 26, op := Op.pick (Operand.tmp 20) (Operand.tmp 25) (Operand.const (Value.bool false)), type := 4, pos := "shape.go:83", after := #[{ on := 4, ground := Ground.data }, { on := 9, ground := Ground.data }], guard := none }) (v := ?_) rfl (by kernel_rfl) (by kernel_rfl) (by kernel_rfl) (fun _ _ _ h => h) (Or.inl ⟨by rfl, ?_⟩) (by assumption) ?_
        rotate_left 1
        · intro w hSw; (try dsimp only at hSw); go_simp <;> with_reducible rfl
        try simp only [Act.put, List.setIfInBounds_toArray, List.set_cons_zero, List.set_cons_succ]
        refine wpAnyH_take (i := 11) (oi := { dst := some 27, op := Op.move (Operand.tmp 26), type := 4, pos := "shape.go:83", after := #[{ on := 10, ground := Ground.data }, { on := 8, ground := Ground.chain }], guard := none }) (v := ?_) rfl (by kernel_rfl) (by kernel_rfl) (by kernel_rfl) (fun _ _ _ h => h) (Or.inl ⟨by rfl, ?_⟩) (by assumption) ?_
        rotate_left 1
        · intro w hSw; (try dsimp only at hSw); go_simp <;> with_reducible rfl
        try simp only [Act.put, List.setIfInBounds_toArray, List.set_cons_zero, List.set_cons_succ]
        refine wpAnyH_take (i := 12) (oi := { dst := some 28, op := Op.fieldAddr 72 (Operand.tmp 3) 2, type := 0, pos := "shape.go:83", after := #[{ on := 11, ground := Ground.guard }], guard := some (11, true) }) (v := undef) rfl (by kernel_rfl) (by kernel_rfl) (by kernel_rfl) (fun _ _ _ h => h) (Or.inr ⟨by rfl, rfl⟩) (by assumption) ?_
        try simp only [Act.put, List.setIfInBounds_toArray, List.set_cons_zero, List.set_cons_succ]
        refine wpAnyH_take (i := 13) (oi := { dst := some 29, op := Op.load 3 (Operand.tmp 28), type := 3, pos := "shape.go:83", after := #[{ on := 12, ground := Ground.data }, { on := 11, ground := Ground.guard }], guard := some (11, true) }) (v := undef) rfl (by kernel_rfl) (by kernel_rfl) (by kernel_rfl) (fun _ _ _ h => h) (Or.inr ⟨by rfl, rfl⟩) (by assumption) ?_
        try simp only [Act.put, List.setIfInBounds_toArray, List.set_cons_zero, List.set_cons_succ]
        refine wpAnyH_take (i := 14) (oi := { dst := some 30, op := Op.move (Operand.tmp 0), type := 28, pos := "shape.go:83", after := #[{ on := 11, ground := Ground.guard }], guard := some (11, true) }) (v := undef) rfl (by kernel_rfl) (by kernel_rfl) (by kernel_rfl) (fun _ _ _ h => h) (Or.inr ⟨by rfl, rfl⟩) (by assumption) ?_
        try simp only [Act.put, List.setIfInBounds_toArray, List.set_cons_zero, List.set_cons_succ]
        refine wpAnyH_take (i := 15) (oi := { dst := some 31, op := Op.fieldAddr 72 (Operand.tmp 3) 1, type := 0, pos := "shape.go:83", after := #[{ on := 11, ground := Ground.guard }], guard := some (11, true) }) (v := undef) rfl (by kernel_rfl) (by kernel_rfl) (by kernel_rfl) (fun _ _ _ h => h) (Or.inr ⟨by rfl, rfl⟩) (by assumption) ?_
        try simp only [Act.put, List.setIfInBounds_toArray, List.set_cons_zero, List.set_cons_succ]
        refine wpAnyH_take (i := 16) (oi := { dst := some 32, op := Op.load 3 (Operand.tmp 31), type := 3, pos := "shape.go:83", after := #[{ on := 15, ground := Ground.data }, { on := 11, ground := Ground.guard }], guard := some (11, true) }) (v := undef) rfl (by kernel_rfl) (by kernel_rfl) (by kernel_rfl) (fun _ _ _ h => h) (Or.inr ⟨by rfl, rfl⟩) (by assumption) ?_
        try simp only [Act.put, List.setIfInBounds_toArray, List.set_cons_zero, List.set_cons_succ]
        refine wpAnyH_take (i := 17) (oi := { dst := some 33, op := Op.indexAddr 28 (Operand.tmp 30) (Operand.tmp 32), type := 0, pos := "shape.go:83", after := #[{ on := 14, ground := Ground.data }, { on := 16, ground := Ground.data }, { on := 11, ground := Ground.guard }], guard := some (11, true) }) (v := undef) rfl (by kernel_rfl) (by kernel_rfl) (by kernel_rfl) (fun _ _ _ h => h) (Or.inr ⟨by rfl, rfl⟩) (by assumption) ?_
        try simp only [Act.put, List.setIfInBounds_toArray, List.set_cons_zero, List.set_cons_succ]
        refine wpAnyH_take (i := 18) (oi := { dst := some 34, op := Op.fieldAddr 72 (Operand.tmp 33) 2, type := 0, pos := "shape.go:83", after := #[{ on := 17, ground := Ground.data }, { on := 11, ground := Ground.guard }], guard := some (11, true) }) (v := undef) rfl (by kernel_rfl) (by kernel_rfl) (by kernel_rfl) (fun _ _ _ h => h) (Or.inr ⟨by rfl, rfl⟩) (by assumption) ?_
        try simp only [Act.put, List.setIfInBounds_toArray, List.set_cons_zero, List.set_cons_succ]
        refine wpAnyH_take (i := 19) (oi := { dst := some 35, op := Op.load 3 (Operand.tmp 34), type := 3, pos := "shape.go:83", after := #[{ on := 18, ground := Ground.data }, { on := 11, ground := Ground.guard }], guard := some (11, true) }) (v := undef) rfl (by kernel_rfl) (by kernel_rfl) (by kernel_rfl) (fun _ _ _ h => h) (Or.inr ⟨by rfl, rfl⟩) (by assumption) ?_
        try simp only [Act.put, List.setIfInBounds_toArray, List.set_cons_zero, List.set_cons_succ]
        refine wpAnyH_take (i := 20) (oi := { dst := some 36, op := Op.binOp BinOp.geq 3 (Operand.tmp 29) (Operand.tmp 35) 3, type := 4, pos := "shape.go:83", after := #[{ on := 13, ground := Ground.data }, { on := 19, ground := Ground.data }, { on := 11, ground := Ground.guard }], guard := some (11, true) }) (v := undef) rfl (by kernel_rfl) (by kernel_rfl) (by kernel_rfl) (fun _ _ _ h => h) (Or.inr ⟨by rfl, rfl⟩) (by assumption) ?_
        try simp only [Act.put, List.setIfInBounds_toArray, List.set_cons_zero, List.set_cons_succ]
        refine wpAnyH_take (i := 21) (oi := { dst := some 37, op := Op.pick (Operand.tmp 27) (Operand.tmp 36) (Operand.const (Value.bool false)), type := 4, pos := "shape.go:83", after := #[{ on := 11, ground := Ground.data }, { on := 20, ground := Ground.data }], guard := none }) (v := ?_) rfl (by kernel_rfl) (by kernel_rfl) (by kernel_rfl) (fun _ _ _ h => h) (Or.inl ⟨by rfl, ?_⟩) (by assumption) ?_
        rotate_left 1
        · intro w hSw; (try dsimp only at hSw); go_simp <;> with_reducible rfl
        try simp only [Act.put, List.setIfInBounds_toArray, List.set_cons_zero, List.set_cons_succ]
        refine wpAnyH_take (i := 22) (oi := { dst := some 4, op := Op.assign (Operand.tmp 37), type := 4, pos := "shape.go:83", after := #[{ on := 21, ground := Ground.data }, { on := 11, ground := Ground.chain }, { on := 0, ground := Ground.phase }, { on := 1, ground := Ground.phase }, { on := 2, ground := Ground.phase }, { on := 3, ground := Ground.phase }, { on := 4, ground := Ground.phase }, { on := 5, ground := Ground.phase }, { on := 6, ground := Ground.phase }, { on := 7, ground := Ground.phase }, { on := 8, ground := Ground.phase }, { on := 9, ground := Ground.phase }, { on := 10, ground := Ground.phase }, { on := 11, ground := Ground.phase }, { on := 12, ground := Ground.phase }, { on := 13, ground := Ground.phase }, { on := 14, ground := Ground.phase }, { on := 15, ground := Ground.phase }, { on := 16, ground := Ground.phase }, { on := 17, ground := Ground.phase }, { on := 18, ground := Ground.phase }, { on := 19, ground := Ground.phase }, { on := 20, ground := Ground.phase }, { on := 21, ground := Ground.phase }], guard := none }) (v := ?_) rfl (by kernel_rfl) (by kernel_rfl) (by kernel_rfl) (fun _ _ _ h => h) (Or.inl ⟨by rfl, ?_⟩) (by assumption) ?_
        rotate_left 1
        · intro w hSw; (try dsimp only at hSw); go_simp <;> with_reducible rfl
        try simp only [Act.put, List.setIfInBounds_toArray, List.set_cons_zero, List.set_cons_succ]
        refine wpAnyH_done (by kernel_rfl) ?_ _
        go_wp2_with fail
        go_ret
        exact ⟨congrArg (fun b => Ending.returned (Value.bool b)) e.out.symm, hB2.out⟩
      exact AllReadyH.nil
    exact AllReadyH.nil
end Wd
end Go.Proofs.YteiejjmhmmkdhaaGreat

/- The landed package's judgement of binds. -/
namespace Go.Proofs.YteiejjmhmmkdhaaGreat
open Go.RowKit
set_option linter.unusedVariables false
set_option maxRecDepth 20000
namespace Wd
theorem any_at {B : List (Int × Int)} {j : Nat} {x : Int × Int} {s : Int} (h : B[j]? = some x) (e : x.1 = s) : B.any (fun x => decide (x.1 = s)) = true := by
  rw [List.any_eq_true]
  exact ⟨x, List.mem_of_getElem? h, by simpa using e⟩
theorem any_not {B : List (Int × Int)} {s : Int} (h : ∀ x ∈ B, x.1 ≠ s) : B.any (fun x => decide (x.1 = s)) = false := by
  rw [Bool.eq_false_iff]
  intro ha
  obtain ⟨x, hx, e⟩ := List.any_eq_true.1 ha
  exact h x hx (by simpa using e)
set_option maxHeartbeats 4000000 in
theorem kbindsname {w : World} {v : Value} {B : List (Int × Int)} (h : PrV w v B) (s : Int) (hs : In64 s) :
    Calls Tryz.prog 110 #[v, .int .i64 s] w fun e w' => e = .returned (.bool (B.any (fun x => decide (x.1 = s)))) ∧ Below w.heap.size w w' := by
  obtain ⟨ad, cap, rfl, hcap, hmx⟩ := h.form
  obtain ⟨n, hn⟩ : ∃ n, n = B.length := ⟨_, rfl⟩
  rw [← hn] at h hcap ⊢
  replace h := Lib.hid h
  have hn' := Lib.hid hn
  have hnm : n ≤ 9223372036854775807 := by have : maxLen ≤ 9223372036854775807 := by decide
                                           omega
  have hst : Hid (∀ x ∈ B.take 0, x.1 ≠ s) := Lib.hid (by simp)
  clear hmx hn
  go_enter Tryz.func110, Tryz.ntmps110
  go_wp2
  go_loopw [9] (fun i9 wr => ∃ (j : Nat), j ≤ n ∧ i9 = .int .i64 j ∧ Hid (∀ x ∈ B.take j, x.1 ≠ s) ∧ Hid (Below w.heap.size w wr)) (fun i9 _ => n - (intOf i9).toNat)
  case atStart => exact ⟨0, by omega, rfl, hst, Lib.hid (Below.refl _ _)⟩
  case round =>
    obtain ⟨j, hj, rfl, hD, hB⟩ := hrel
    by_cases hlt : j < n
    · have hlt' : decide ((j : Int) < (n : Int)) = true := by simp; omega
      have p0 : (0 : Int) ≤ (j : Int) := by omega
      have p1 : (j : Int) < (n : Int) := by omega
      obtain ⟨⟨xs, xm⟩, hx⟩ : ∃ x, B[j]? = some x := ⟨B[j]'(by have := hn'.out; omega), by simp⟩
      obtain ⟨⟨x0, x1⟩, ⟨y0, y1⟩, g', off', rfl, d0, d1⟩ := (h.out.up hB.out).at hx
      have hx' := Lib.hid hx
      clear hx
      simp only at x0 x1 y0 y1 d0 d1
      by_cases he : xs = s
      · have e := Lib.hid (any_at hx'.out he)
        have he' : (xs == s) = true := by simpa using he
        go_wp2
        go_ret
        exact ⟨congrArg (fun b => Ending.returned (Value.bool b)) e.out.symm, hB.out.alloc hB.out.size _⟩
      · have he' : (xs == s) = false := by simpa using he
        have hD' : Hid (∀ x ∈ B.take (j + 1), x.1 ≠ s) := Lib.hid (fun x hx => by
          rw [List.take_add_one, hx'.out] at hx
          rcases List.mem_append.1 hx with hx | hx
          · exact hD.out x hx
          · have e : x = (xs, xm) := by simpa using hx
            rw [e]; exact he)
        go_wp2
        go_roundw
        case rel => exact ⟨j + 1, by omega, by go_num, hD', Lib.hid (hB.out.alloc hB.out.size _)⟩
        case measure => simp [intOf]; omega
    · have hlt' : decide ((j : Int) < (n : Int)) = false := by simp; omega
      have e := Lib.hid (any_not (B := B) (s := s) (by have := hD.out; rw [show j = B.length by have := hn'.out; omega, List.take_length] at this; exact this))
      go_wp2
      go_ret
      exact ⟨congrArg (fun b => Ending.returned (Value.bool b)) e.out.symm, hB.out⟩
theorem binds_over {B : List (Int × Int)} {names methods : Int} (h : 16 < B.length) : bindsOk B names methods = false := by
  unfold bindsOk; rw [decide_eq_false (p := B.length ≤ 16) (by omega)]; simp
theorem take_any {B : List (Int × Int)} {k : Nat} {s : Int} (h : (B.take k).any (fun x => decide (x.1 = s)) = true) : ∃ j x, j < k ∧ B[j]? = some x ∧ x.1 = s := by
  obtain ⟨x, hx, e⟩ := List.any_eq_true.1 h
  obtain ⟨j, hj⟩ := List.getElem?_of_mem hx
  rw [List.getElem?_take] at hj
  by_cases hk : j < k
  · rw [if_pos hk] at hj
    exact ⟨j, x, hk, hj, by simpa using e⟩
  · rw [if_neg hk] at hj; cases hj
theorem take_none {B : List (Int × Int)} {s : Int} (h : B.any (fun x => decide (x.1 = s)) = false) : ∀ x ∈ B, x.1 ≠ s := by
  intro x hx e
  have : B.any (fun x => decide (x.1 = s)) = true := List.any_eq_true.2 ⟨x, hx, by simpa using e⟩
  rw [h] at this; cases this
set_option maxHeartbeats 16000000 in
theorem kbinds {w : World} {v : Value} {B : List (Int × Int)} (h : PrV w v B) (names methods : Int) (hn : In64 names) (hm : In64 methods) :
    Calls Tryz.prog 95 #[v, .int .i64 names, .int .i64 methods] w fun e w' => e = .returned (.bool (bindsOk B names methods)) ∧ Below w.heap.size w w' := by
  obtain ⟨ad, cap, rfl, hcap, hmx⟩ := h.form
  obtain ⟨n, hn⟩ : ∃ n, n = B.length := ⟨_, rfl⟩
  rw [← hn] at h hcap ⊢
  replace h := Lib.hid h
  have hn' := Lib.hid hn
  by_cases h16 : 16 < n
  · have e := Lib.hid (binds_over (names := names) (methods := methods) (by omega : 16 < B.length))
    have h16' : decide ((n : Int) > 16) = true := by simp; omega
    clear hn
    go_enter Tryz.func95, Tryz.ntmps95
    go_wp2
    go_ret
    exact ⟨congrArg (fun b => Ending.returned (Value.bool b)) e.out.symm, Below.refl _ _⟩
  have h16' : decide ((n : Int) > 16) = false := by simp; omega
  have hst : Hid (BdR B names methods 0) := Lib.hid (BdR.start B names methods)
  clear hmx hn
  go_enter Tryz.func95, Tryz.ntmps95
  go_wp2
  go_loopw [14] (fun i14 wr => ∃ (k : Nat), k ≤ n ∧ i14 = .int .i64 k ∧ Hid (BdR B names methods k) ∧ Hid (Below w.heap.size w wr)) (fun i14 _ => n - (intOf i14).toNat)
  case atStart => exact ⟨0, by omega, rfl, hst, Lib.hid (Below.refl _ _)⟩
  case round =>
    obtain ⟨k, hk, rfl, hR, hB⟩ := hrel
    by_cases hlt : k < n
    · have hlt' : decide ((k : Int) < (n : Int)) = true := by simp; omega
      have p0 : (0 : Int) ≤ (k : Int) := by omega
      have p1 : (k : Int) < (n : Int) := by omega
      have p2 : (k : Int) ≤ (cap : Int) := by omega
      obtain ⟨b, hb⟩ : ∃ b, B[k]? = some b := ⟨B[k]'(by have := hn'.out; omega), by simp⟩
      obtain ⟨⟨s0, s1⟩, ⟨m0, m1⟩, g, off, rfl, c0, c1⟩ := (h.out.up hB.out).at hb
      have hb' := Lib.hid hb
      clear hb
      obtain ⟨bs, bm⟩ := b
      simp only at s0 s1 m0 m1 c0 c1
      have hs0 := hB.out.size
      have hB' := Lib.hid (hB.out.alloc hs0 (.cells #[.int .i64 bs, .int .i64 bm] 78))
      by_cases q0 : bs < 0
      · have e := Lib.hid (bind_bad hb'.out (bindOk_not (Or.inl q0) : bindOk names methods (bs, bm) = false))
        have q0' : decide (bs < 0) = true := by simpa using q0
        go_wp2
        go_big_quiet (fail)
        go_wp2
        go_ret
        exact ⟨congrArg (fun b => Ending.returned (Value.bool b)) e.out.symm, hB'.out.trans ((drewK _ _).mono hB'.out.size)⟩
      have q0' : decide (bs < 0) = false := by simpa using q0
      by_cases q1 : names ≤ bs
      · have e := Lib.hid (bind_bad hb'.out (bindOk_not (Or.inr (Or.inl q1)) : bindOk names methods (bs, bm) = false))
        have q1' : decide (bs ≥ names) = true := by simpa using q1
        go_wp2
        go_big_quiet (fail)
        go_wp2
        go_ret
        exact ⟨congrArg (fun b => Ending.returned (Value.bool b)) e.out.symm, hB'.out.trans ((drewK _ _).mono hB'.out.size)⟩
      have q1' : decide (bs ≥ names) = false := by simpa using q1
      by_cases q2 : bm < 0
      · have e := Lib.hid (bind_bad hb'.out (bindOk_not (Or.inr (Or.inr (Or.inl q2))) : bindOk names methods (bs, bm) = false))
        have q2' : decide (bm < 0) = true := by simpa using q2
        go_wp2
        go_big_quiet (fail)
        go_wp2
        go_ret
        exact ⟨congrArg (fun b => Ending.returned (Value.bool b)) e.out.symm, hB'.out.trans ((drewK _ _).mono hB'.out.size)⟩
      have q2' : decide (bm < 0) = false := by simpa using q2
      by_cases q3 : methods ≤ bm
      · have e := Lib.hid (bind_bad hb'.out (bindOk_not (Or.inr (Or.inr (Or.inr q3))) : bindOk names methods (bs, bm) = false))
        have q3' : decide (bm ≥ methods) = true := by simpa using q3
        go_wp2
        go_big_quiet (fail)
        go_wp2
        go_ret
        exact ⟨congrArg (fun b => Ending.returned (Value.bool b)) e.out.symm, hB'.out.trans ((drewK _ _).mono hB'.out.size)⟩
      have q3' : decide (bm ≥ methods) = false := by simpa using q3
      have hok := Lib.hid (bindOk_of (b := (bs, bm)) (by omega) (by omega) (by omega) (by omega) : bindOk names methods (bs, bm) = true)
      have h' := Lib.hid ((h.out.up hB'.out).take k (by have := hn'.out; omega))
      have hs64 : Hid (In64 bs) := Lib.hid ⟨s0, s1⟩
      clear hs0
      cases ha : (B.take k).any (fun x => decide (x.1 = bs)) with
      | true =>
        obtain ⟨j, x, hj, hx, ex⟩ := take_any ha
        have e := Lib.hid (bind_twice (names := names) (methods := methods) hb'.out hx hj ex)
        have ha' := Lib.hid ha
        clear hx ex ha
        go_wp2
        go_region_with (first | (go_at_call 110; (with_reducible refine (kbindsname (h'.out.up ((Below.refl _ _).drew)) bs hs64.out).mono ?_); rintro e1 w2 ⟨he1, hw2⟩; rw [ha'.out] at he1; subst he1; have hq : Below (wr.alloc (.cells #[.int .i64 bs, .int .i64 bm] 78)).heap.size (wr.alloc (.cells #[.int .i64 bs, .int .i64 bm] 78)) w2 := ((Below.refl _ _).drew).trans hw2; have hB2 := Lib.hid (hB'.out.trans (hq.mono hB'.out.size)); clear hw2 hq))
        go_wp2
        go_ret
        exact ⟨congrArg (fun b => Ending.returned (Value.bool b)) e.out.symm, hB2.out⟩
      | false =>
        have hR' := Lib.hid (hR.out.step hb'.out hok.out (take_none ha))
        have ha' := Lib.hid ha
        clear ha
        go_wp2
        go_region_with (first | (go_at_call 110; (with_reducible refine (kbindsname (h'.out.up ((Below.refl _ _).drew)) bs hs64.out).mono ?_); rintro e1 w2 ⟨he1, hw2⟩; rw [ha'.out] at he1; subst he1; have hq : Below (wr.alloc (.cells #[.int .i64 bs, .int .i64 bm] 78)).heap.size (wr.alloc (.cells #[.int .i64 bs, .int .i64 bm] 78)) w2 := ((Below.refl _ _).drew).trans hw2; have hB2 := Lib.hid (hB'.out.trans (hq.mono hB'.out.size)); clear hw2 hq))
        go_wp2
        go_roundw
        case rel => exact ⟨k + 1, by omega, by go_num, hR', hB2⟩
        case measure => simp [intOf]; omega
    · have hlt' : decide ((k : Int) < (n : Int)) = false := by simp; omega
      have hR' : BdR B names methods B.length := by have := hR.out; rw [show k = B.length by have := hn'.out; omega] at this; exact this
      have e := hR'.last
      rw [decide_eq_true (show B.length ≤ 16 by have := hn'.out; omega)] at e
      replace e := Lib.hid e
      clear hR'
      go_wp2
      go_ret
      exact ⟨congrArg (fun b => Ending.returned (Value.bool b)) e.out.symm, hB.out⟩
end Wd
end Go.Proofs.YteiejjmhmmkdhaaGreat
