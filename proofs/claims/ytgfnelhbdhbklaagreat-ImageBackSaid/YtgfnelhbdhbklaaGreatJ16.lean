/- Texts joined: QCls, QBind, QR, DB, DP. -/
import Derived.Test.YtgfnelhbdhbklaaGreatJ1
import Derived.Test.YtgfnelhbdhbklaaGreatJ15
import Derived.Deep.DeepCutAuto
/- The landed package's judgement of one class. -/
namespace Go.Proofs.YtgfnelhbdhbklaaGreat
open Go.RowKit
set_option linter.unusedVariables false
set_option maxRecDepth 20000
namespace Wd
def nameR (A : List ClassA) (nm : ByteArray) : Bool := textOk nm && !(A.any (fun x => decide (x.nm = nm)))
def supR (A : List ClassA) (s f : Int) : Bool := decide (0 ≤ f) && decide (f ≤ 62) && (decide (s = -1) || (decide (0 ≤ s) && decide (s < A.length) && decide ((chain A s).length < 8) && decide (superF A s ≤ f)))
theorem chain_deepQ {L : List ClassA} {k : Nat} (hD : Down L k) (hk : k ≤ L.length) : ∀ (f g : Nat) (s : Int), s < k → s < g → (chainR (L.take k) s f).length = min f (deep L g s)
  | 0, _, _, _, _ => by simp [chainR]
  | f + 1, g, s, h1, h2 => by
    by_cases h0 : s < 0
    · rw [chainR_neg _ h0, deep_neg _ h0]; simp
    · obtain ⟨j, rfl⟩ : ∃ j : Nat, s = j := ⟨s.toNat, by omega⟩
      obtain ⟨g', rfl⟩ : ∃ g', g = g' + 1 := ⟨g - 1, by omega⟩
      have hx : L[j]? = some (L[j]'(by omega)) := by simp
      generalize L[j]'(by omega) = x at hx
      have hy : (L.take k)[j]? = some x := by rw [List.getElem?_take, if_pos (by omega)]; exact hx
      obtain ⟨d1, d2⟩ := hD j x (by omega) hx
      rw [chainR_on hy, deep_on hx, List.length_cons, chain_deepQ hD hk f g' x.super (by omega) (by omega)]
      omega
theorem sup_eq {L : List ClassA} {k : Nat} {c : ClassA} (hD : Down L k) (hk : k ≤ L.length) : classOk L k c = supR (L.take k) c.super c.fields := by
  have hl : (L.take k).length = k := by rw [List.length_take]; omega
  unfold classOk supR
  rw [hl]
  by_cases h1 : c.super < -1
  · rw [decide_eq_false (p := -1 ≤ c.super) (by omega), decide_eq_false (p := c.super = -1) (by omega), decide_eq_false (p := 0 ≤ c.super) (by omega)]
    simp
  by_cases h2 : (k : Int) ≤ c.super
  · rw [decide_eq_false (p := c.super < k) (by omega), decide_eq_false (p := c.super = -1) (by omega)]
    simp
  rw [decide_eq_true (p := -1 ≤ c.super) (by omega), decide_eq_true (p := c.super < k) (by omega)]
  by_cases h3 : c.super = -1
  · rw [decide_eq_true h3, h3, deep_neg _ (by omega), decide_eq_true (p := (-1 : Int) < 0) (by omega)]
    simp
  · have hd := chain_deepQ hD hk 8 (k + 1) c.super (by omega) (by omega)
    have e1 : decide ((chain (L.take k) c.super).length < 8) = decide (deep L (k + 1) c.super + 1 ≤ 8) := by
      rw [decide_eq_decide]; unfold chain; omega
    have e2 : superF (L.take k) c.super = superF L c.super := by
      unfold superF
      rw [List.getElem?_take, if_pos (by omega)]
    rw [e1, e2, decide_eq_false h3, decide_eq_true (p := 0 ≤ c.super) (by omega), decide_eq_false (p := c.super < 0) (by omega)]
    simp [Bool.and_assoc]
theorem isroot_c (nm : ByteArray) (s f : Int) (bv : Value) (x : Int) (w : World) (b : Bool) (hb : b = (decide (s = -1) && decide (f = x))) :
    Calls Tryz.prog 106 #[.agg #[.string nm, .int .i64 s, .int .i64 f, bv], .int .i64 x] w fun e w' => e = .returned (.bool b) ∧ Below w.heap.size w w' := by
  have hB := Lib.hid ((Below.refl w.heap.size w).alloc (Nat.le_refl _) (.cells #[.string nm, .int .i64 s, .int .i64 f, bv] 60))
  by_cases h1 : s = -1
  · have h1' : (s == -1) = true := by simpa using h1
    by_cases h2 : f = x
    · have h2' : (f == x) = true := by simpa using h2
      rw [decide_eq_true h1, decide_eq_true h2] at hb
      subst hb
      clear h1 h2
      go_enter Tryz.func106, Tryz.ntmps106
      go_wp2
      go_ret
      exact ⟨rfl, hB.out⟩
    · have h2' : (f == x) = false := by simpa using h2
      rw [decide_eq_true h1, decide_eq_false h2] at hb
      subst hb
      clear h1 h2
      go_enter Tryz.func106, Tryz.ntmps106
      go_wp2
      go_ret
      exact ⟨rfl, hB.out⟩
  · have h1' : (s == -1) = false := by simpa using h1
    rw [decide_eq_false h1] at hb
    subst hb
    clear h1
    go_enter Tryz.func106, Tryz.ntmps106
    go_wp2
    go_ret
    exact ⟨rfl, hB.out⟩
theorem name_over {A : List ClassA} {nm : ByteArray} (h : nm.size < 1 ∨ 16 < nm.size) : nameR A nm = false := by
  unfold nameR textOk
  rcases h with h | h
  · rw [decide_eq_false (p := 1 ≤ nm.size) (by omega)]; rfl
  · rw [decide_eq_false (p := nm.size ≤ 16) (by omega)]; simp
theorem name_twice {A : List ClassA} {nm : ByteArray} {j : Nat} {x : ClassA} (h : A[j]? = some x) (e : x.nm = nm) : nameR A nm = false := by
  have : A.any (fun x => decide (x.nm = nm)) = true := List.any_eq_true.2 ⟨x, List.mem_of_getElem? h, by simpa using e⟩
  unfold nameR; rw [this]; simp
theorem name_once {A : List ClassA} {nm : ByteArray} (h1 : 1 ≤ nm.size) (h2 : nm.size ≤ 16) (h : ∀ x ∈ A, x.nm ≠ nm) : nameR A nm = true := by
  have : A.any (fun x => decide (x.nm = nm)) = false := by
    rw [Bool.eq_false_iff]
    intro ha
    obtain ⟨x, hx, e⟩ := List.any_eq_true.1 ha
    exact h x hx (by simpa using e)
  unfold nameR textOk
  rw [this, decide_eq_true h1, decide_eq_true h2]; rfl
set_option maxHeartbeats 8000000 in
theorem kname {w : World} {v : Value} {A : List ClassA} (h : ClV w v A) (nm : ByteArray) :
    Calls Tryz.prog 107 #[v, .string nm] w fun e w' => e = .returned (.bool (nameR A nm)) ∧ Below w.heap.size w w' := by
  obtain ⟨ad, cap, rfl, hcap, hmx⟩ := h.form
  obtain ⟨n, hn⟩ : ∃ n, n = A.length := ⟨_, rfl⟩
  rw [← hn] at h hcap ⊢
  replace h := Lib.hid h
  have hn' := Lib.hid hn
  have hnm : n ≤ 9223372036854775807 := by have : maxLen ≤ 9223372036854775807 := by decide
                                           omega
  clear hmx hn
  by_cases q0 : nm.size < 1
  · have e := Lib.hid (name_over (A := A) (Or.inl q0))
    have q0' : decide ((nm.size : Int) < 1) = true := by simp; omega
    go_enter Tryz.func107, Tryz.ntmps107
    go_wp2
    go_ret
    exact ⟨congrArg (fun b => Ending.returned (Value.bool b)) e.out.symm, Below.refl _ _⟩
  have q0' : decide ((nm.size : Int) < 1) = false := by simp; omega
  by_cases q1 : 16 < nm.size
  · have e := Lib.hid (name_over (A := A) (Or.inr q1))
    have q1' : decide ((nm.size : Int) > 16) = true := by simp; omega
    go_enter Tryz.func107, Tryz.ntmps107
    go_wp2
    go_ret
    exact ⟨congrArg (fun b => Ending.returned (Value.bool b)) e.out.symm, Below.refl _ _⟩
  have q1' : decide ((nm.size : Int) > 16) = false := by simp; omega
  have hsz := Lib.hid (show 1 ≤ nm.size ∧ nm.size ≤ 16 by omega)
  have hst : Hid (∀ x ∈ A.take 0, x.nm ≠ nm) := Lib.hid (by simp)
  go_enter Tryz.func107, Tryz.ntmps107
  go_wp2
  go_loopw [17] (fun i17 wr => ∃ (j : Nat), j ≤ n ∧ i17 = .int .i64 j ∧ Hid (∀ x ∈ A.take j, x.nm ≠ nm) ∧ Hid (Below w.heap.size w wr)) (fun i17 _ => n - (intOf i17).toNat)
  case atStart => exact ⟨0, by omega, rfl, hst, Lib.hid (Below.refl _ _)⟩
  case round =>
    obtain ⟨j, hj, rfl, hD, hB⟩ := hrel
    by_cases hlt : j < n
    · have hlt' : decide ((j : Int) < (n : Int)) = true := by simp; omega
      have p0 : (0 : Int) ≤ (j : Int) := by omega
      have p1 : (j : Int) < (n : Int) := by omega
      obtain ⟨⟨xn, xs, xf, xb⟩, hx⟩ : ∃ x, A[j]? = some x := ⟨A[j]'(by have := hn'.out; omega), by simp⟩
      obtain ⟨_, _, g', off', xv, rfl, d0, d1, d2, d3, xbv⟩ := (h.out.up hB.out).at hx
      obtain ⟨xa, xc, rfl, _⟩ := xbv.form
      simp only at d0 d1 d2 d3 xbv
      generalize xb.length = xm at *
      have hx' := Lib.hid hx
      clear hx xbv
      by_cases he : xn = nm
      · have e := Lib.hid (name_twice hx'.out he)
        have he' : (xn.toList == nm.toList) = true := bl_eq he
        clear he
        go_wp2
        go_ret
        exact ⟨congrArg (fun b => Ending.returned (Value.bool b)) e.out.symm, hB.out.alloc hB.out.size _⟩
      · have he' : (xn.toList == nm.toList) = false := bl_ne he
        have hD' : Hid (∀ x ∈ A.take (j + 1), x.nm ≠ nm) := Lib.hid (fun x hx => by
          rw [take_next hx'.out] at hx
          rcases List.mem_append.1 hx with hx | hx
          · exact hD.out x hx
          · rw [List.mem_singleton.1 hx]; exact he)
        go_wp2
        go_roundw
        case rel => exact ⟨j + 1, by omega, by go_num, hD', Lib.hid (hB.out.alloc hB.out.size _)⟩
        case measure => simp [intOf]; omega
    · have hlt' : decide ((j : Int) < (n : Int)) = false := by simp; omega
      have e := Lib.hid (name_once (A := A) hsz.out.1 hsz.out.2 (by have := hD.out; rw [show j = A.length by have := hn'.out; omega, List.take_length] at this; exact this))
      go_wp2
      go_ret
      exact ⟨congrArg (fun b => Ending.returned (Value.bool b)) e.out.symm, hB.out⟩
theorem sup_f {A : List ClassA} {s f : Int} (h : f < 0 ∨ 62 < f) : supR A s f = false := by
  unfold supR
  rcases h with h | h
  · rw [decide_eq_false (p := 0 ≤ f) (by omega)]; rfl
  · rw [decide_eq_false (p := f ≤ 62) (by omega)]; simp
theorem sup_n {A : List ClassA} {s f : Int} (h1 : 0 ≤ f) (h2 : f ≤ 62) (h : s = -1) : supR A s f = true := by
  unfold supR; rw [decide_eq_true h1, decide_eq_true h2, decide_eq_true h]; rfl
theorem sup_o {A : List ClassA} {s f : Int} (h : ¬ s = -1) (h' : s < 0 ∨ (A.length : Int) ≤ s) : supR A s f = false := by
  unfold supR
  rw [decide_eq_false h]
  rcases h' with h | h
  · rw [decide_eq_false (p := 0 ≤ s) (by omega)]; simp
  · rw [decide_eq_false (p := s < A.length) (by omega)]; simp
theorem sup_i {A : List ClassA} {s f : Int} (h1 : 0 ≤ f) (h2 : f ≤ 62) (h3 : 0 ≤ s) (h4 : s < A.length) : supR A s f = (decide ((chain A s).length < 8) && decide (superF A s ≤ f)) := by
  unfold supR; rw [decide_eq_true h1, decide_eq_true h2, decide_eq_true h3, decide_eq_true h4, decide_eq_false (p := s = -1) (by omega)]; rfl
set_option maxHeartbeats 16000000 in
theorem ksuper {w : World} {v : Value} {A : List ClassA} (h : ClV w v A) (nm : ByteArray) (s f : Int) (bv : Value) (hs : In64 s) (hf : In64 f) :
    Calls Tryz.prog 108 #[v, .agg #[.string nm, .int .i64 s, .int .i64 f, bv]] w fun e w' => e = .returned (.bool (supR A s f)) ∧ Below w.heap.size w w' := by
  obtain ⟨ad, cap, rfl, hcap, hmx⟩ := h.form
  obtain ⟨n, hn⟩ : ∃ n, n = A.length := ⟨_, rfl⟩
  rw [← hn] at h hcap ⊢
  replace h := Lib.hid h
  have hn' := Lib.hid hn
  have hB := Lib.hid ((Below.refl w.heap.size w).alloc (Nat.le_refl _) (.cells #[.string nm, .int .i64 s, .int .i64 f, bv] 60))
  obtain ⟨f0, f1⟩ := hf
  clear hmx hn
  by_cases q0 : f < 0
  · have e := Lib.hid (sup_f (A := A) (s := s) (Or.inl q0))
    have q0' : decide (f < 0) = true := by simpa using q0
    go_enter Tryz.func108, Tryz.ntmps108
    go_wp2
    go_ret
    exact ⟨congrArg (fun b => Ending.returned (Value.bool b)) e.out.symm, hB.out⟩
  have q0' : decide (f < 0) = false := by simpa using q0
  by_cases q1 : 62 < f
  · have e := Lib.hid (sup_f (A := A) (s := s) (Or.inr q1))
    have q1' : decide (f > 62) = true := by simpa using q1
    go_enter Tryz.func108, Tryz.ntmps108
    go_wp2
    go_ret
    exact ⟨congrArg (fun b => Ending.returned (Value.bool b)) e.out.symm, hB.out⟩
  have q1' : decide (f > 62) = false := by simpa using q1
  by_cases q2 : s = -1
  · have e := Lib.hid (sup_n (A := A) (f := f) (by omega) (by omega) q2)
    have q2' : (s == -1) = true := by simpa using q2
    clear q2
    go_enter Tryz.func108, Tryz.ntmps108
    go_wp2
    go_ret
    exact ⟨congrArg (fun b => Ending.returned (Value.bool b)) e.out.symm, hB.out⟩
  have q2' : (s == -1) = false := by simpa using q2
  by_cases q3 : s < 0 ∨ (n : Int) ≤ s
  · have e := Lib.hid (sup_o (A := A) (f := f) q2 (by have := hn'.out; omega))
    have PI := Lib.hid (isc_n ad n cap s q3)
    have c1' : Hid ((w.alloc (.cells #[.string nm, .int .i64 s, .int .i64 f, bv] 60)).cell? ⟨w.heap.size, 1, none⟩ = some (.int .i64 s)) := Lib.hid (by simp)
    have c2' : Hid ((w.alloc (.cells #[.string nm, .int .i64 s, .int .i64 f, bv] 60)).cell? ⟨w.heap.size, 2, none⟩ = some (.int .i64 f)) := Lib.hid (by simp)
    go_enter Tryz.func108, Tryz.ntmps108
    go_wp2
    refine wp_region_held_drew (S := (fun wr' => wr'.cell? ⟨w.heap.size, 1, none⟩ = some (.int .i64 s) ∧ wr'.cell? ⟨w.heap.size, 2, none⟩ = some (.int .i64 f))) (by kernel_rfl) ?_ (fun hHeld => ?_)
    · (try dsimp only); exact ⟨c1'.out, c2'.out⟩
    try simp only [Act.put, List.setIfInBounds_toArray, List.set_cons_zero, List.set_cons_succ]
    refine wpAnyH_take (i := 0) (oi := { dst := some 16, op := Op.move (Operand.tmp 0), type := 23, pos := "shape.go:83", after := #[], guard := none }) (v := ?_) rfl (by kernel_rfl) (by kernel_rfl) (by kernel_rfl) (fun _ _ _ h => h) (Or.inl ⟨by rfl, ?_⟩) (by assumption) ?_
    rotate_left 1
    · intro w hSw; (try dsimp only at hSw); go_simp <;> with_reducible rfl
    try simp only [Act.put, List.setIfInBounds_toArray, List.set_cons_zero, List.set_cons_succ]
    refine wpAnyH_take (i := 1) (oi := { dst := some 17, op := Op.fieldAddr 60 (Operand.tmp 3) 1, type := 0, pos := "shape.go:83", after := #[], guard := none }) (v := ?_) rfl (by kernel_rfl) (by kernel_rfl) (by kernel_rfl) (fun _ _ _ h => h) (Or.inl ⟨by rfl, ?_⟩) (by assumption) ?_
    rotate_left 1
    · intro w hSw; (try dsimp only at hSw); go_simp <;> with_reducible rfl
    try simp only [Act.put, List.setIfInBounds_toArray, List.set_cons_zero, List.set_cons_succ]
    refine wpAnyH_take (i := 2) (oi := { dst := some 18, op := Op.load 3 (Operand.tmp 17), type := 3, pos := "shape.go:83", after := #[{ on := 1, ground := Ground.data }], guard := none }) (v := ?_) rfl (by kernel_rfl) (by kernel_rfl) (by kernel_rfl) (fun _ _ _ h => h) (Or.inl ⟨by rfl, ?_⟩) (by assumption) ?_
    rotate_left 1
    · intro w hSw; (try dsimp only at hSw); go_simp <;> with_reducible rfl
    try simp only [Act.put, List.setIfInBounds_toArray, List.set_cons_zero, List.set_cons_succ]
    refine wpAnyH_ready (rs := [3]) (by kernel_rfl) (by simp) ?_
    refine AllReadyH.cons (o := { dst := some 19, op := Op.call { callee := Callee.value (Operand.func 121), args := #[Operand.tmp 16, Operand.tmp 18], argTypes := #[23, 3] }, type := 4, pos := "shape.go:83", after := #[{ on := 0, ground := Ground.data }, { on := 2, ground := Ground.data }], guard := none }) rfl (fun K9 hK => ?_) ?_
    · go_simp
      with_reducible refine (PI.out _).mono ?_
      rintro e1 y ⟨rfl, hy⟩
      subst hy
      go_wp2_with fail
      refine hK.out _ _ ?_ ?_
      · (try dsimp only); exact ⟨c1'.out, c2'.out⟩
      clear hK K9 hHeld; intro hHeld
      try simp only [Act.put, List.setIfInBounds_toArray, List.set_cons_zero, List.set_cons_succ]
      refine wpAnyH_take (i := 4) (oi := { dst := some 20, op := Op.move (Operand.tmp 19), type := 4, pos := "shape.go:83", after := #[{ on := 3, ground := Ground.data }, { on := 3, ground := Ground.chain }], guard := none }) (v := ?_) rfl (by kernel_rfl) (by kernel_rfl) (by kernel_rfl) (fun _ _ _ h => h) (Or.inl ⟨by rfl, ?_⟩) (by assumption) ?_
      rotate_left 1
      · intro w hSw; (try dsimp only at hSw); go_simp <;> with_reducible rfl
      try simp only [Act.put, List.setIfInBounds_toArray, List.set_cons_zero, List.set_cons_succ]
      refine wpAnyH_take (i := 5) (oi := { dst := some 21, op := Op.move (Operand.tmp 0), type := 23, pos := "shape.go:83", after := #[{ on := 4, ground := Ground.guard }], guard := some (4, true) }) (v := undef) rfl (by kernel_rfl) (by kernel_rfl) (by kernel_rfl) (fun _ _ _ h => h) (Or.inr ⟨by rfl, rfl⟩) (by assumption) ?_
      try simp only [Act.put, List.setIfInBounds_toArray, List.set_cons_zero, List.set_cons_succ]
      refine wpAnyH_take (i := 6) (oi := { dst := some 22, op := Op.fieldAddr 60 (Operand.tmp 3) 1, type := 0, pos := "shape.go:83", after := #[{ on := 4, ground := Ground.guard }], guard := some (4, true) }) (v := undef) rfl (by kernel_rfl) (by kernel_rfl) (by kernel_rfl) (fun _ _ _ h => h) (Or.inr ⟨by rfl, rfl⟩) (by assumption) ?_
      try simp only [Act.put, List.setIfInBounds_toArray, List.set_cons_zero, List.set_cons_succ]
      refine wpAnyH_take (i := 7) (oi := { dst := some 23, op := Op.load 3 (Operand.tmp 22), type := 3, pos := "shape.go:83", after := #[{ on := 6, ground := Ground.data }, { on := 4, ground := Ground.guard }], guard := some (4, true) }) (v := undef) rfl (by kernel_rfl) (by kernel_rfl) (by kernel_rfl) (fun _ _ _ h => h) (Or.inr ⟨by rfl, rfl⟩) (by assumption) ?_
      try simp only [Act.put, List.setIfInBounds_toArray, List.set_cons_zero, List.set_cons_succ]
      refine wpAnyH_take (i := 8) (oi := { dst := some 24, op := Op.call { callee := Callee.value (Operand.func 122), args := #[Operand.tmp 21, Operand.tmp 23], argTypes := #[23, 3] }, type := 3, pos := "shape.go:83", after := #[{ on := 5, ground := Ground.data }, { on := 7, ground := Ground.data }, { on := 4, ground := Ground.chain }, { on := 4, ground := Ground.guard }], guard := some (4, true) }) (v := undef) rfl (by kernel_rfl) (by kernel_rfl) (by kernel_rfl) (fun _ _ _ h => h) (Or.inr ⟨by rfl, rfl⟩) (by assumption) ?_
      try simp only [Act.put, List.setIfInBounds_toArray, List.set_cons_zero, List.set_cons_succ]
      refine wpAnyH_take (i := 9) (oi := { dst := some 25, op := Op.binOp BinOp.lss 3 (Operand.tmp 24) (Operand.const (Value.int IntKind.i64 8)) 3, type := 4, pos := "shape.go:83", after := #[{ on := 8, ground := Ground.data }, { on := 4, ground := Ground.guard }], guard := some (4, true) }) (v := undef) rfl (by kernel_rfl) (by kernel_rfl) (by kernel_rfl) (fun _ _ _ h => h) (Or.inr ⟨by rfl, rfl⟩) (by assumption) ?_
      try simp only [Act.put, List.setIfInBounds_toArray, List.set_cons_zero, List.set_cons_succ]
      refine wpAnyH_take (i := 10) (oi := { dst := some 26, op := Op.pick (Operand.tmp 20) (Operand.tmp 25) (Operand.const (Value.bool false)), type := 4, pos := "shape.go:83", after := #[{ on := 4, ground := Ground.data }, { on := 9, ground := Ground.data }], guard := none }) (v := ?_) rfl (by kernel_rfl) (by kernel_rfl) (by kernel_rfl) (fun _ _ _ h => h) (Or.inl ⟨by rfl, ?_⟩) (by assumption) ?_
      rotate_left 1
      · intro w hSw; (try dsimp only at hSw); go_simp <;> with_reducible rfl
      try simp only [Act.put, List.setIfInBounds_toArray, List.set_cons_zero, List.set_cons_succ]
      refine wpAnyH_take (i := 11) (oi := { dst := some 27, op := Op.move (Operand.tmp 26), type := 4, pos := "shape.go:83", after := #[{ on := 10, ground := Ground.data }, { on := 8, ground := Ground.chain }], guard := none }) (v := ?_) rfl (by kernel_rfl) (by kernel_rfl) (by kernel_rfl) (fun _ _ _ h => h) (Or.inl ⟨by rfl, ?_⟩) (by assumption) ?_
      rotate_left 1
      · intro w hSw; (try dsimp only at hSw); go_simp <;> with_reducible rfl
      try simp only [Act.put, List.setIfInBounds_toArray, List.set_cons_zero, List.set_cons_succ]
      refine wpAnyH_take (i := 12) (oi := { dst := some 28, op := Op.fieldAddr 60 (Operand.tmp 3) 2, type := 0, pos := "shape.go:83", after := #[{ on := 11, ground := Ground.guard }], guard := some (11, true) }) (v := undef) rfl (by kernel_rfl) (by kernel_rfl) (by kernel_rfl) (fun _ _ _ h => h) (Or.inr ⟨by rfl, rfl⟩) (by assumption) ?_
      try simp only [Act.put, List.setIfInBounds_toArray, List.set_cons_zero, List.set_cons_succ]
      refine wpAnyH_take (i := 13) (oi := { dst := some 29, op := Op.load 3 (Operand.tmp 28), type := 3, pos := "shape.go:83", after := #[{ on := 12, ground := Ground.data }, { on := 11, ground := Ground.guard }], guard := some (11, true) }) (v := undef) rfl (by kernel_rfl) (by kernel_rfl) (by kernel_rfl) (fun _ _ _ h => h) (Or.inr ⟨by rfl, rfl⟩) (by assumption) ?_
      try simp only [Act.put, List.setIfInBounds_toArray, List.set_cons_zero, List.set_cons_succ]
      refine wpAnyH_take (i := 14) (oi := { dst := some 30, op := Op.move (Operand.tmp 0), type := 23, pos := "shape.go:83", after := #[{ on := 11, ground := Ground.guard }], guard := some (11, true) }) (v := undef) rfl (by kernel_rfl) (by kernel_rfl) (by kernel_rfl) (fun _ _ _ h => h) (Or.inr ⟨by rfl, rfl⟩) (by assumption) ?_
      try simp only [Act.put, List.setIfInBounds_toArray, List.set_cons_zero, List.set_cons_succ]
      refine wpAnyH_take (i := 15) (oi := { dst := some 31, op := Op.fieldAddr 60 (Operand.tmp 3) 1, type := 0, pos := "shape.go:83", after := #[{ on := 11, ground := Ground.guard }], guard := some (11, true) }) (v := undef) rfl (by kernel_rfl) (by kernel_rfl) (by kernel_rfl) (fun _ _ _ h => h) (Or.inr ⟨by rfl, rfl⟩) (by assumption) ?_
      try simp only [Act.put, List.setIfInBounds_toArray, List.set_cons_zero, List.set_cons_succ]
      refine wpAnyH_take (i := 16) (oi := { dst := some 32, op := Op.load 3 (Operand.tmp 31), type := 3, pos := "shape.go:83", after := #[{ on := 15, ground := Ground.data }, { on := 11, ground := Ground.guard }], guard := some (11, true) }) (v := undef) rfl (by kernel_rfl) (by kernel_rfl) (by kernel_rfl) (fun _ _ _ h => h) (Or.inr ⟨by rfl, rfl⟩) (by assumption) ?_
      try simp only [Act.put, List.setIfInBounds_toArray, List.set_cons_zero, List.set_cons_succ]
      refine wpAnyH_take (i := 17) (oi := { dst := some 33, op := Op.indexAddr 23 (Operand.tmp 30) (Operand.tmp 32), type := 0, pos := "shape.go:83", after := #[{ on := 14, ground := Ground.data }, { on := 16, ground := Ground.data }, { on := 11, ground := Ground.guard }], guard := some (11, true) }) (v := undef) rfl (by kernel_rfl) (by kernel_rfl) (by kernel_rfl) (fun _ _ _ h => h) (Or.inr ⟨by rfl, rfl⟩) (by assumption) ?_
      try simp only [Act.put, List.setIfInBounds_toArray, List.set_cons_zero, List.set_cons_succ]
      refine wpAnyH_take (i := 18) (oi := { dst := some 34, op := Op.fieldAddr 60 (Operand.tmp 33) 2, type := 0, pos := "shape.go:83", after := #[{ on := 17, ground := Ground.data }, { on := 11, ground := Ground.guard }], guard := some (11, true) }) (v := undef) rfl (by kernel_rfl) (by kernel_rfl) (by kernel_rfl) (fun _ _ _ h => h) (Or.inr ⟨by rfl, rfl⟩) (by assumption) ?_
      try simp only [Act.put, List.setIfInBounds_toArray, List.set_cons_zero, List.set_cons_succ]
      refine wpAnyH_take (i := 19) (oi := { dst := some 35, op := Op.load 3 (Operand.tmp 34), type := 3, pos := "shape.go:83", after := #[{ on := 18, ground := Ground.data }, { on := 11, ground := Ground.guard }], guard := some (11, true) }) (v := undef) rfl (by kernel_rfl) (by kernel_rfl) (by kernel_rfl) (fun _ _ _ h => h) (Or.inr ⟨by rfl, rfl⟩) (by assumption) ?_
      try simp only [Act.put, List.setIfInBounds_toArray, List.set_cons_zero, List.set_cons_succ]
      refine wpAnyH_take (i := 20) (oi := { dst := some 36, op := Op.binOp BinOp.geq 3 (Operand.tmp 29) (Operand.tmp 35) 3, type := 4, pos := "shape.go:83", after := #[{ on := 13, ground := Ground.data }, { on := 19, ground := Ground.data }, { on := 11, ground := Ground.guard }], guard := some (11, true) }) (v := undef) rfl (by kernel_rfl) (by kernel_rfl) (by kernel_rfl) (fun _ _ _ h => h) (Or.inr ⟨by rfl, rfl⟩) (by assumption) ?_
      try simp only [Act.put, List.setIfInBounds_toArray, List.set_cons_zero, List.set_cons_succ]
      refine wpAnyH_take (i := 21) (oi := { dst := some 37, op := Op.pick (Operand.tmp 27) (Operand.tmp 36) (Operand.const (Value.bool false)), type := 4, pos := "shape.go:83", after := #[{ on := 11, ground := Ground.data }, { on := 20, ground := Ground.data }], guard := none }) (v := ?_) rfl (by kernel_rfl) (by kernel_rfl) (by kernel_rfl) (fun _ _ _ h => h) (Or.inl ⟨by rfl, ?_⟩) (by assumption) ?_
      rotate_left 1
      · intro w hSw; (try dsimp only at hSw); go_simp <;> with_reducible rfl
      try simp only [Act.put, List.setIfInBounds_toArray, List.set_cons_zero, List.set_cons_succ]
      refine wpAnyH_take (i := 22) (oi := { dst := some 4, op := Op.assign (Operand.tmp 37), type := 4, pos := "shape.go:83", after := #[{ on := 21, ground := Ground.data }, { on := 11, ground := Ground.chain }, { on := 0, ground := Ground.phase }, { on := 1, ground := Ground.phase }, { on := 2, ground := Ground.phase }, { on := 3, ground := Ground.phase }, { on := 4, ground := Ground.phase }, { on := 5, ground := Ground.phase }, { on := 6, ground := Ground.phase }, { on := 7, ground := Ground.phase }, { on := 8, ground := Ground.phase }, { on := 9, ground := Ground.phase }, { on := 10, ground := Ground.phase }, { on := 11, ground := Ground.phase }, { on := 12, ground := Ground.phase }, { on := 13, ground := Ground.phase }, { on := 14, ground := Ground.phase }, { on := 15, ground := Ground.phase }, { on := 16, ground := Ground.phase }, { on := 17, ground := Ground.phase }, { on := 18, ground := Ground.phase }, { on := 19, ground := Ground.phase }, { on := 20, ground := Ground.phase }, { on := 21, ground := Ground.phase }], guard := none }) (v := ?_) rfl (by kernel_rfl) (by kernel_rfl) (by kernel_rfl) (fun _ _ _ h => h) (Or.inl ⟨by rfl, ?_⟩) (by assumption) ?_
      rotate_left 1
      · intro w hSw; (try dsimp only at hSw); go_simp <;> with_reducible rfl
      try simp only [Act.put, List.setIfInBounds_toArray, List.set_cons_zero, List.set_cons_succ]
      refine wpAnyH_done (by kernel_rfl) ?_ _
      go_wp2_with fail
      go_ret
      exact ⟨congrArg (fun b => Ending.returned (Value.bool b)) e.out.symm, hB.out.drew⟩
    exact AllReadyH.nil
  have PI := Lib.hid (isc_y ad n cap s (by omega) (by omega))
  obtain ⟨k, rfl⟩ : ∃ k : Nat, s = k := ⟨s.toNat, by omega⟩
  obtain ⟨⟨xn, xs, xf, xb⟩, hx⟩ : ∃ x, A[k]? = some x := ⟨A[k]'(by have := hn'.out; omega), by simp⟩
  have he := sup_i (A := A) (s := k) (f := f) (by omega) (by omega) (by omega) (by have := hn'.out; omega)
  have hsf : superF A (k : Int) = xf := by unfold superF; rw [Int.toNat_natCast, hx]
  rw [hsf] at he
  clear hsf
  have p0 : (0 : Int) ≤ (k : Int) := by omega
  have p1 : (k : Int) < (n : Int) := by omega
  have h1 := Lib.hid (h.out.up hB.out)
  obtain ⟨_, _, g', off', xv, rfl, d0, d1, d2, d3, xbv⟩ := h1.out.at hx
  simp only at d2
  have d2' := Lib.hid d2
  have c1 : (w.alloc (.cells #[.string nm, .int .i64 (k : Int), .int .i64 f, bv] 60)).cell? ⟨w.heap.size, 1, none⟩ = some (.int .i64 (k : Int)) := by simp
  have c2 : (w.alloc (.cells #[.string nm, .int .i64 (k : Int), .int .i64 f, bv] 60)).cell? ⟨w.heap.size, 2, none⟩ = some (.int .i64 f) := by simp
  have c1' := Lib.hid c1
  have c2' := Lib.hid c2
  clear d0 d1 d3 xbv hx c1 c2 d2
  have hlen : (chain A (k : Int)).length ≤ 8 := chain_len _ _
  have PD := Lib.hid (fun w' (b : Below (w.alloc (.cells #[.string nm, .int .i64 (k : Int), .int .i64 f, bv] 60)).heap.size (w.alloc (.cells #[.string nm, .int .i64 (k : Int), .int .i64 f, bv] 60)) w') => kdepth (h1.out.up b) (k : Int) hs)
  obtain ⟨d, hd⟩ : ∃ d, d = (chain A (k : Int)).length := ⟨_, rfl⟩
  rw [← hd] at PD he hlen
  clear hd
  by_cases q4 : d < 8
  · have q4' : decide ((d : Int) < 8) = true := by simp; omega
    by_cases q5 : xf ≤ f
    · have e := Lib.hid (he.trans (by simp [q4, q5] : _ = true))
      have q5' : decide (f ≥ xf) = true := by simpa using q5
      clear he
      go_enter Tryz.func108, Tryz.ntmps108
      go_wp2
      refine wp_region_held_drew (S := (fun wr' => wr'.cell? ⟨w.heap.size, 1, none⟩ = some (.int .i64 (k : Int)) ∧ wr'.cell? ⟨w.heap.size, 2, none⟩ = some (.int .i64 f) ∧ wr'.cell? ⟨g', off' + k * 4 + 2, none⟩ = some (.int .i64 xf))) (by kernel_rfl) ?_ (fun hHeld => ?_)
      · (try dsimp only); exact ⟨c1'.out, c2'.out, d2'.out⟩
      try simp only [Act.put, List.setIfInBounds_toArray, List.set_cons_zero, List.set_cons_succ]
      refine wpAnyH_take (i := 0) (oi := { dst := some 16, op := Op.move (Operand.tmp 0), type := 23, pos := "shape.go:83", after := #[], guard := none }) (v := ?_) rfl (by kernel_rfl) (by kernel_rfl) (by kernel_rfl) (fun _ _ _ h => h) (Or.inl ⟨by rfl, ?_⟩) (by assumption) ?_
      rotate_left 1
      · intro w hSw; (try dsimp only at hSw); go_simp <;> with_reducible rfl
      try simp only [Act.put, List.setIfInBounds_toArray, List.set_cons_zero, List.set_cons_succ]
      refine wpAnyH_take (i := 1) (oi := { dst := some 17, op := Op.fieldAddr 60 (Operand.tmp 3) 1, type := 0, pos := "shape.go:83", after := #[], guard := none }) (v := ?_) rfl (by kernel_rfl) (by kernel_rfl) (by kernel_rfl) (fun _ _ _ h => h) (Or.inl ⟨by rfl, ?_⟩) (by assumption) ?_
      rotate_left 1
      · intro w hSw; (try dsimp only at hSw); go_simp <;> with_reducible rfl
      try simp only [Act.put, List.setIfInBounds_toArray, List.set_cons_zero, List.set_cons_succ]
      refine wpAnyH_take (i := 2) (oi := { dst := some 18, op := Op.load 3 (Operand.tmp 17), type := 3, pos := "shape.go:83", after := #[{ on := 1, ground := Ground.data }], guard := none }) (v := ?_) rfl (by kernel_rfl) (by kernel_rfl) (by kernel_rfl) (fun _ _ _ h => h) (Or.inl ⟨by rfl, ?_⟩) (by assumption) ?_
      rotate_left 1
      · intro w hSw; (try dsimp only at hSw); go_simp <;> with_reducible rfl
      try simp only [Act.put, List.setIfInBounds_toArray, List.set_cons_zero, List.set_cons_succ]
      refine wpAnyH_ready (rs := [3]) (by kernel_rfl) (by simp) ?_
      refine AllReadyH.cons (o := { dst := some 19, op := Op.call { callee := Callee.value (Operand.func 121), args := #[Operand.tmp 16, Operand.tmp 18], argTypes := #[23, 3] }, type := 4, pos := "shape.go:83", after := #[{ on := 0, ground := Ground.data }, { on := 2, ground := Ground.data }], guard := none }) rfl (fun K9 hK => ?_) ?_
      · go_simp
        with_reducible refine (PI.out _).mono ?_
        rintro e1 y ⟨rfl, hy⟩
        subst hy
        go_wp2_with fail
        refine hK.out _ _ ?_ ?_
        · (try dsimp only); exact ⟨c1'.out, c2'.out, d2'.out⟩
        clear hK K9 hHeld; intro hHeld
        try simp only [Act.put, List.setIfInBounds_toArray, List.set_cons_zero, List.set_cons_succ]
        refine wpAnyH_take (i := 4) (oi := { dst := some 20, op := Op.move (Operand.tmp 19), type := 4, pos := "shape.go:83", after := #[{ on := 3, ground := Ground.data }, { on := 3, ground := Ground.chain }], guard := none }) (v := ?_) rfl (by kernel_rfl) (by kernel_rfl) (by kernel_rfl) (fun _ _ _ h => h) (Or.inl ⟨by rfl, ?_⟩) (by assumption) ?_
        rotate_left 1
        · intro w hSw; (try dsimp only at hSw); go_simp <;> with_reducible rfl
        try simp only [Act.put, List.setIfInBounds_toArray, List.set_cons_zero, List.set_cons_succ]
        refine wpAnyH_take (i := 5) (oi := { dst := some 21, op := Op.move (Operand.tmp 0), type := 23, pos := "shape.go:83", after := #[{ on := 4, ground := Ground.guard }], guard := some (4, true) }) (v := ?_) rfl (by kernel_rfl) (by kernel_rfl) (by kernel_rfl) (fun _ _ _ h => h) (Or.inl ⟨by rfl, ?_⟩) (by assumption) ?_
        rotate_left 1
        · intro w hSw; (try dsimp only at hSw); go_simp <;> with_reducible rfl
        try simp only [Act.put, List.setIfInBounds_toArray, List.set_cons_zero, List.set_cons_succ]
        refine wpAnyH_take (i := 6) (oi := { dst := some 22, op := Op.fieldAddr 60 (Operand.tmp 3) 1, type := 0, pos := "shape.go:83", after := #[{ on := 4, ground := Ground.guard }], guard := some (4, true) }) (v := ?_) rfl (by kernel_rfl) (by kernel_rfl) (by kernel_rfl) (fun _ _ _ h => h) (Or.inl ⟨by rfl, ?_⟩) (by assumption) ?_
        rotate_left 1
        · intro w hSw; (try dsimp only at hSw); go_simp <;> with_reducible rfl
        try simp only [Act.put, List.setIfInBounds_toArray, List.set_cons_zero, List.set_cons_succ]
        refine wpAnyH_take (i := 7) (oi := { dst := some 23, op := Op.load 3 (Operand.tmp 22), type := 3, pos := "shape.go:83", after := #[{ on := 6, ground := Ground.data }, { on := 4, ground := Ground.guard }], guard := some (4, true) }) (v := ?_) rfl (by kernel_rfl) (by kernel_rfl) (by kernel_rfl) (fun _ _ _ h => h) (Or.inl ⟨by rfl, ?_⟩) (by assumption) ?_
        rotate_left 1
        · intro w hSw; (try dsimp only at hSw); go_simp <;> with_reducible rfl
        try simp only [Act.put, List.setIfInBounds_toArray, List.set_cons_zero, List.set_cons_succ]
        refine wpAnyH_ready (rs := [8]) (by kernel_rfl) (by simp) ?_
        refine AllReadyH.cons (o := { dst := some 24, op := Op.call { callee := Callee.value (Operand.func 122), args := #[Operand.tmp 21, Operand.tmp 23], argTypes := #[23, 3] }, type := 3, pos := "shape.go:83", after := #[{ on := 5, ground := Ground.data }, { on := 7, ground := Ground.data }, { on := 4, ground := Ground.chain }, { on := 4, ground := Ground.guard }], guard := some (4, true) }) rfl (fun K9 hK => ?_) ?_
        · go_simp
          with_reducible refine (PD.out _ (Below.refl _ _).drew).mono ?_
          rintro e1 y2 ⟨rfl, hw2⟩
          have hq : Below (w.alloc (.cells #[.string nm, .int .i64 (k : Int), .int .i64 f, bv] 60)).heap.size (w.alloc (.cells #[.string nm, .int .i64 (k : Int), .int .i64 f, bv] 60)) y2 := ((Below.refl _ _).drew).trans hw2
          have hB2 := Lib.hid (hB.out.trans (hq.mono hB.out.size))
          have hk := And.intro (cell_up hq c1'.out) (And.intro (cell_up hq c2'.out) (cell_up hq d2'.out))
          clear hw2 hq
          go_wp2_with fail
          refine hK.out _ _ ?_ ?_
          · (try dsimp only); exact hk
          clear hK K9 hHeld; intro hHeld
          try simp only [Act.put, List.setIfInBounds_toArray, List.set_cons_zero, List.set_cons_succ]
          refine wpAnyH_take (i := 9) (oi := { dst := some 25, op := Op.binOp BinOp.lss 3 (Operand.tmp 24) (Operand.const (Value.int IntKind.i64 8)) 3, type := 4, pos := "shape.go:83", after := #[{ on := 8, ground := Ground.data }, { on := 4, ground := Ground.guard }], guard := some (4, true) }) (v := ?_) rfl (by kernel_rfl) (by kernel_rfl) (by kernel_rfl) (fun _ _ _ h => h) (Or.inl ⟨by rfl, ?_⟩) (by assumption) ?_
          rotate_left 1
          · intro w hSw; (try dsimp only at hSw); go_simp <;> with_reducible rfl
          try simp only [Act.put, List.setIfInBounds_toArray, List.set_cons_zero, List.set_cons_succ]
          refine wpAnyH_take (i := 10) (oi := { dst := some 26, op := Op.pick (Operand.tmp 20) (Operand.tmp 25) (Operand.const (Value.bool false)), type := 4, pos := "shape.go:83", after := #[{ on := 4, ground := Ground.data }, { on := 9, ground := Ground.data }], guard := none }) (v := ?_) rfl (by kernel_rfl) (by kernel_rfl) (by kernel_rfl) (fun _ _ _ h => h) (Or.inl ⟨by rfl, ?_⟩) (by assumption) ?_
          rotate_left 1
          · intro w hSw; (try dsimp only at hSw); go_simp <;> with_reducible rfl
          try simp only [Act.put, List.setIfInBounds_toArray, List.set_cons_zero, List.set_cons_succ]
          refine wpAnyH_take (i := 11) (oi := { dst := some 27, op := Op.move (Operand.tmp 26), type := 4, pos := "shape.go:83", after := #[{ on := 10, ground := Ground.data }, { on := 8, ground := Ground.chain }], guard := none }) (v := ?_) rfl (by kernel_rfl) (by kernel_rfl) (by kernel_rfl) (fun _ _ _ h => h) (Or.inl ⟨by rfl, ?_⟩) (by assumption) ?_
          rotate_left 1
          · intro w hSw; (try dsimp only at hSw); go_simp <;> with_reducible rfl
          try simp only [Act.put, List.setIfInBounds_toArray, List.set_cons_zero, List.set_cons_succ]
          refine wpAnyH_take (i := 12) (oi := { dst := some 28, op := Op.fieldAddr 60 (Operand.tmp 3) 2, type := 0, pos := "shape.go:83", after := #[{ on := 11, ground := Ground.guard }], guard := some (11, true) }) (v := ?_) rfl (by kernel_rfl) (by kernel_rfl) (by kernel_rfl) (fun _ _ _ h => h) (Or.inl ⟨by rfl, ?_⟩) (by assumption) ?_
          rotate_left 1
          · intro w hSw; (try dsimp only at hSw); go_simp <;> with_reducible rfl
          try simp only [Act.put, List.setIfInBounds_toArray, List.set_cons_zero, List.set_cons_succ]
          refine wpAnyH_take (i := 13) (oi := { dst := some 29, op := Op.load 3 (Operand.tmp 28), type := 3, pos := "shape.go:83", after := #[{ on := 12, ground := Ground.data }, { on := 11, ground := Ground.guard }], guard := some (11, true) }) (v := ?_) rfl (by kernel_rfl) (by kernel_rfl) (by kernel_rfl) (fun _ _ _ h => h) (Or.inl ⟨by rfl, ?_⟩) (by assumption) ?_
          rotate_left 1
          · intro w hSw; (try dsimp only at hSw); go_simp <;> with_reducible rfl
          try simp only [Act.put, List.setIfInBounds_toArray, List.set_cons_zero, List.set_cons_succ]
          refine wpAnyH_take (i := 14) (oi := { dst := some 30, op := Op.move (Operand.tmp 0), type := 23, pos := "shape.go:83", after := #[{ on := 11, ground := Ground.guard }], guard := some (11, true) }) (v := ?_) rfl (by kernel_rfl) (by kernel_rfl) (by kernel_rfl) (fun _ _ _ h => h) (Or.inl ⟨by rfl, ?_⟩) (by assumption) ?_
          rotate_left 1
          · intro w hSw; (try dsimp only at hSw); go_simp <;> with_reducible rfl
          try simp only [Act.put, List.setIfInBounds_toArray, List.set_cons_zero, List.set_cons_succ]
          refine wpAnyH_take (i := 15) (oi := { dst := some 31, op := Op.fieldAddr 60 (Operand.tmp 3) 1, type := 0, pos := "shape.go:83", after := #[{ on := 11, ground := Ground.guard }], guard := some (11, true) }) (v := ?_) rfl (by kernel_rfl) (by kernel_rfl) (by kernel_rfl) (fun _ _ _ h => h) (Or.inl ⟨by rfl, ?_⟩) (by assumption) ?_
          rotate_left 1
          · intro w hSw; (try dsimp only at hSw); go_simp <;> with_reducible rfl
          try simp only [Act.put, List.setIfInBounds_toArray, List.set_cons_zero, List.set_cons_succ]
          refine wpAnyH_take (i := 16) (oi := { dst := some 32, op := Op.load 3 (Operand.tmp 31), type := 3, pos := "shape.go:83", after := #[{ on := 15, ground := Ground.data }, { on := 11, ground := Ground.guard }], guard := some (11, true) }) (v := ?_) rfl (by kernel_rfl) (by kernel_rfl) (by kernel_rfl) (fun _ _ _ h => h) (Or.inl ⟨by rfl, ?_⟩) (by assumption) ?_
          rotate_left 1
          · intro w hSw; (try dsimp only at hSw); go_simp <;> with_reducible rfl
          try simp only [Act.put, List.setIfInBounds_toArray, List.set_cons_zero, List.set_cons_succ]
          refine wpAnyH_take (i := 17) (oi := { dst := some 33, op := Op.indexAddr 23 (Operand.tmp 30) (Operand.tmp 32), type := 0, pos := "shape.go:83", after := #[{ on := 14, ground := Ground.data }, { on := 16, ground := Ground.data }, { on := 11, ground := Ground.guard }], guard := some (11, true) }) (v := ?_) rfl (by kernel_rfl) (by kernel_rfl) (by kernel_rfl) (fun _ _ _ h => h) (Or.inl ⟨by rfl, ?_⟩) (by assumption) ?_
          rotate_left 1
          · intro w hSw; (try dsimp only at hSw); go_simp <;> with_reducible rfl
          try simp only [Act.put, List.setIfInBounds_toArray, List.set_cons_zero, List.set_cons_succ]
          refine wpAnyH_take (i := 18) (oi := { dst := some 34, op := Op.fieldAddr 60 (Operand.tmp 33) 2, type := 0, pos := "shape.go:83", after := #[{ on := 17, ground := Ground.data }, { on := 11, ground := Ground.guard }], guard := some (11, true) }) (v := ?_) rfl (by kernel_rfl) (by kernel_rfl) (by kernel_rfl) (fun _ _ _ h => h) (Or.inl ⟨by rfl, ?_⟩) (by assumption) ?_
          rotate_left 1
          · intro w hSw; (try dsimp only at hSw); go_simp <;> with_reducible rfl
          try simp only [Act.put, List.setIfInBounds_toArray, List.set_cons_zero, List.set_cons_succ]
          refine wpAnyH_take (i := 19) (oi := { dst := some 35, op := Op.load 3 (Operand.tmp 34), type := 3, pos := "shape.go:83", after := #[{ on := 18, ground := Ground.data }, { on := 11, ground := Ground.guard }], guard := some (11, true) }) (v := ?_) rfl (by kernel_rfl) (by kernel_rfl) (by kernel_rfl) (fun _ _ _ h => h) (Or.inl ⟨by rfl, ?_⟩) (by assumption) ?_
          rotate_left 1
          · intro w hSw; (try dsimp only at hSw); go_simp <;> with_reducible rfl
          try simp only [Act.put, List.setIfInBounds_toArray, List.set_cons_zero, List.set_cons_succ]
          refine wpAnyH_take (i := 20) (oi := { dst := some 36, op := Op.binOp BinOp.geq 3 (Operand.tmp 29) (Operand.tmp 35) 3, type := 4, pos := "shape.go:83", after := #[{ on := 13, ground := Ground.data }, { on := 19, ground := Ground.data }, { on := 11, ground := Ground.guard }], guard := some (11, true) }) (v := ?_) rfl (by kernel_rfl) (by kernel_rfl) (by kernel_rfl) (fun _ _ _ h => h) (Or.inl ⟨by rfl, ?_⟩) (by assumption) ?_
          rotate_left 1
          · intro w hSw; (try dsimp only at hSw); go_simp <;> with_reducible rfl
          try simp only [Act.put, List.setIfInBounds_toArray, List.set_cons_zero, List.set_cons_succ]
          refine wpAnyH_take (i := 21) (oi := { dst := some 37, op := Op.pick (Operand.tmp 27) (Operand.tmp 36) (Operand.const (Value.bool false)), type := 4, pos := "shape.go:83", after := #[{ on := 11, ground := Ground.data }, { on := 20, ground := Ground.data }], guard := none }) (v := ?_) rfl (by kernel_rfl) (by kernel_rfl) (by kernel_rfl) (fun _ _ _ h => h) (Or.inl ⟨by rfl, ?_⟩) (by assumption) ?_
          rotate_left 1
          · intro w hSw; (try dsimp only at hSw); go_simp <;> with_reducible rfl
          try simp only [Act.put, List.setIfInBounds_toArray, List.set_cons_zero, List.set_cons_succ]
          refine wpAnyH_take (i := 22) (oi := { dst := some 4, op := Op.assign (Operand.tmp 37), type := 4, pos := "shape.go:83", after := #[{ on := 21, ground := Ground.data }, { on := 11, ground := Ground.chain }, { on := 0, ground := Ground.phase }, { on := 1, ground := Ground.phase }, { on := 2, ground := Ground.phase }, { on := 3, ground := Ground.phase }, { on := 4, ground := Ground.phase }, { on := 5, ground := Ground.phase }, { on := 6, ground := Ground.phase }, { on := 7, ground := Ground.phase }, { on := 8, ground := Ground.phase }, { on := 9, ground := Ground.phase }, { on := 10, ground := Ground.phase }, { on := 11, ground := Ground.phase }, { on := 12, ground := Ground.phase }, { on := 13, ground := Ground.phase }, { on := 14, ground := Ground.phase }, { on := 15, ground := Ground.phase }, { on := 16, ground := Ground.phase }, { on := 17, ground := Ground.phase }, { on := 18, ground := Ground.phase }, { on := 19, ground := Ground.phase }, { on := 20, ground := Ground.phase }, { on := 21, ground := Ground.phase }], guard := none }) (v := ?_) rfl (by kernel_rfl) (by kernel_rfl) (by kernel_rfl) (fun _ _ _ h => h) (Or.inl ⟨by rfl, ?_⟩) (by assumption) ?_
          rotate_left 1
          · intro w hSw; (try dsimp only at hSw); go_simp <;> with_reducible rfl
          try simp only [Act.put, List.setIfInBounds_toArray, List.set_cons_zero, List.set_cons_succ]
          refine wpAnyH_done (by kernel_rfl) ?_ _
          go_wp2_with fail
          go_ret
          exact ⟨congrArg (fun b => Ending.returned (Value.bool b)) e.out.symm, hB2.out⟩
        exact AllReadyH.nil
      exact AllReadyH.nil
    · have e := Lib.hid (he.trans (by simp [q4, q5] : _ = false))
      have q5' : decide (f ≥ xf) = false := by simpa using q5
      clear he
      go_enter Tryz.func108, Tryz.ntmps108
      go_wp2
      refine wp_region_held_drew (S := (fun wr' => wr'.cell? ⟨w.heap.size, 1, none⟩ = some (.int .i64 (k : Int)) ∧ wr'.cell? ⟨w.heap.size, 2, none⟩ = some (.int .i64 f) ∧ wr'.cell? ⟨g', off' + k * 4 + 2, none⟩ = some (.int .i64 xf))) (by kernel_rfl) ?_ (fun hHeld => ?_)
      · (try dsimp only); exact ⟨c1'.out, c2'.out, d2'.out⟩
      try simp only [Act.put, List.setIfInBounds_toArray, List.set_cons_zero, List.set_cons_succ]
      refine wpAnyH_take (i := 0) (oi := { dst := some 16, op := Op.move (Operand.tmp 0), type := 23, pos := "shape.go:83", after := #[], guard := none }) (v := ?_) rfl (by kernel_rfl) (by kernel_rfl) (by kernel_rfl) (fun _ _ _ h => h) (Or.inl ⟨by rfl, ?_⟩) (by assumption) ?_
      rotate_left 1
      · intro w hSw; (try dsimp only at hSw); go_simp <;> with_reducible rfl
      try simp only [Act.put, List.setIfInBounds_toArray, List.set_cons_zero, List.set_cons_succ]
      refine wpAnyH_take (i := 1) (oi := { dst := some 17, op := Op.fieldAddr 60 (Operand.tmp 3) 1, type := 0, pos := "shape.go:83", after := #[], guard := none }) (v := ?_) rfl (by kernel_rfl) (by kernel_rfl) (by kernel_rfl) (fun _ _ _ h => h) (Or.inl ⟨by rfl, ?_⟩) (by assumption) ?_
      rotate_left 1
      · intro w hSw; (try dsimp only at hSw); go_simp <;> with_reducible rfl
      try simp only [Act.put, List.setIfInBounds_toArray, List.set_cons_zero, List.set_cons_succ]
      refine wpAnyH_take (i := 2) (oi := { dst := some 18, op := Op.load 3 (Operand.tmp 17), type := 3, pos := "shape.go:83", after := #[{ on := 1, ground := Ground.data }], guard := none }) (v := ?_) rfl (by kernel_rfl) (by kernel_rfl) (by kernel_rfl) (fun _ _ _ h => h) (Or.inl ⟨by rfl, ?_⟩) (by assumption) ?_
      rotate_left 1
      · intro w hSw; (try dsimp only at hSw); go_simp <;> with_reducible rfl
      try simp only [Act.put, List.setIfInBounds_toArray, List.set_cons_zero, List.set_cons_succ]
      refine wpAnyH_ready (rs := [3]) (by kernel_rfl) (by simp) ?_
      refine AllReadyH.cons (o := { dst := some 19, op := Op.call { callee := Callee.value (Operand.func 121), args := #[Operand.tmp 16, Operand.tmp 18], argTypes := #[23, 3] }, type := 4, pos := "shape.go:83", after := #[{ on := 0, ground := Ground.data }, { on := 2, ground := Ground.data }], guard := none }) rfl (fun K9 hK => ?_) ?_
      · go_simp
        with_reducible refine (PI.out _).mono ?_
        rintro e1 y ⟨rfl, hy⟩
        subst hy
        go_wp2_with fail
        refine hK.out _ _ ?_ ?_
        · (try dsimp only); exact ⟨c1'.out, c2'.out, d2'.out⟩
        clear hK K9 hHeld; intro hHeld
        try simp only [Act.put, List.setIfInBounds_toArray, List.set_cons_zero, List.set_cons_succ]
        refine wpAnyH_take (i := 4) (oi := { dst := some 20, op := Op.move (Operand.tmp 19), type := 4, pos := "shape.go:83", after := #[{ on := 3, ground := Ground.data }, { on := 3, ground := Ground.chain }], guard := none }) (v := ?_) rfl (by kernel_rfl) (by kernel_rfl) (by kernel_rfl) (fun _ _ _ h => h) (Or.inl ⟨by rfl, ?_⟩) (by assumption) ?_
        rotate_left 1
        · intro w hSw; (try dsimp only at hSw); go_simp <;> with_reducible rfl
        try simp only [Act.put, List.setIfInBounds_toArray, List.set_cons_zero, List.set_cons_succ]
        refine wpAnyH_take (i := 5) (oi := { dst := some 21, op := Op.move (Operand.tmp 0), type := 23, pos := "shape.go:83", after := #[{ on := 4, ground := Ground.guard }], guard := some (4, true) }) (v := ?_) rfl (by kernel_rfl) (by kernel_rfl) (by kernel_rfl) (fun _ _ _ h => h) (Or.inl ⟨by rfl, ?_⟩) (by assumption) ?_
        rotate_left 1
        · intro w hSw; (try dsimp only at hSw); go_simp <;> with_reducible rfl
        try simp only [Act.put, List.setIfInBounds_toArray, List.set_cons_zero, List.set_cons_succ]
        refine wpAnyH_take (i := 6) (oi := { dst := some 22, op := Op.fieldAddr 60 (Operand.tmp 3) 1, type := 0, pos := "shape.go:83", after := #[{ on := 4, ground := Ground.guard }], guard := some (4, true) }) (v := ?_) rfl (by kernel_rfl) (by kernel_rfl) (by kernel_rfl) (fun _ _ _ h => h) (Or.inl ⟨by rfl, ?_⟩) (by assumption) ?_
        rotate_left 1
        · intro w hSw; (try dsimp only at hSw); go_simp <;> with_reducible rfl
        try simp only [Act.put, List.setIfInBounds_toArray, List.set_cons_zero, List.set_cons_succ]
        refine wpAnyH_take (i := 7) (oi := { dst := some 23, op := Op.load 3 (Operand.tmp 22), type := 3, pos := "shape.go:83", after := #[{ on := 6, ground := Ground.data }, { on := 4, ground := Ground.guard }], guard := some (4, true) }) (v := ?_) rfl (by kernel_rfl) (by kernel_rfl) (by kernel_rfl) (fun _ _ _ h => h) (Or.inl ⟨by rfl, ?_⟩) (by assumption) ?_
        rotate_left 1
        · intro w hSw; (try dsimp only at hSw); go_simp <;> with_reducible rfl
        try simp only [Act.put, List.setIfInBounds_toArray, List.set_cons_zero, List.set_cons_succ]
        refine wpAnyH_ready (rs := [8]) (by kernel_rfl) (by simp) ?_
        refine AllReadyH.cons (o := { dst := some 24, op := Op.call { callee := Callee.value (Operand.func 122), args := #[Operand.tmp 21, Operand.tmp 23], argTypes := #[23, 3] }, type := 3, pos := "shape.go:83", after := #[{ on := 5, ground := Ground.data }, { on := 7, ground := Ground.data }, { on := 4, ground := Ground.chain }, { on := 4, ground := Ground.guard }], guard := some (4, true) }) rfl (fun K9 hK => ?_) ?_
        · go_simp
          with_reducible refine (PD.out _ (Below.refl _ _).drew).mono ?_
          rintro e1 y2 ⟨rfl, hw2⟩
          have hq : Below (w.alloc (.cells #[.string nm, .int .i64 (k : Int), .int .i64 f, bv] 60)).heap.size (w.alloc (.cells #[.string nm, .int .i64 (k : Int), .int .i64 f, bv] 60)) y2 := ((Below.refl _ _).drew).trans hw2
          have hB2 := Lib.hid (hB.out.trans (hq.mono hB.out.size))
          have hk := And.intro (cell_up hq c1'.out) (And.intro (cell_up hq c2'.out) (cell_up hq d2'.out))
          clear hw2 hq
          go_wp2_with fail
          refine hK.out _ _ ?_ ?_
          · (try dsimp only); exact hk
          clear hK K9 hHeld; intro hHeld
          try simp only [Act.put, List.setIfInBounds_toArray, List.set_cons_zero, List.set_cons_succ]
          refine wpAnyH_take (i := 9) (oi := { dst := some 25, op := Op.binOp BinOp.lss 3 (Operand.tmp 24) (Operand.const (Value.int IntKind.i64 8)) 3, type := 4, pos := "shape.go:83", after := #[{ on := 8, ground := Ground.data }, { on := 4, ground := Ground.guard }], guard := some (4, true) }) (v := ?_) rfl (by kernel_rfl) (by kernel_rfl) (by kernel_rfl) (fun _ _ _ h => h) (Or.inl ⟨by rfl, ?_⟩) (by assumption) ?_
          rotate_left 1
          · intro w hSw; (try dsimp only at hSw); go_simp <;> with_reducible rfl
          try simp only [Act.put, List.setIfInBounds_toArray, List.set_cons_zero, List.set_cons_succ]
          refine wpAnyH_take (i := 10) (oi := { dst := some 26, op := Op.pick (Operand.tmp 20) (Operand.tmp 25) (Operand.const (Value.bool false)), type := 4, pos := "shape.go:83", after := #[{ on := 4, ground := Ground.data }, { on := 9, ground := Ground.data }], guard := none }) (v := ?_) rfl (by kernel_rfl) (by kernel_rfl) (by kernel_rfl) (fun _ _ _ h => h) (Or.inl ⟨by rfl, ?_⟩) (by assumption) ?_
          rotate_left 1
          · intro w hSw; (try dsimp only at hSw); go_simp <;> with_reducible rfl
          try simp only [Act.put, List.setIfInBounds_toArray, List.set_cons_zero, List.set_cons_succ]
          refine wpAnyH_take (i := 11) (oi := { dst := some 27, op := Op.move (Operand.tmp 26), type := 4, pos := "shape.go:83", after := #[{ on := 10, ground := Ground.data }, { on := 8, ground := Ground.chain }], guard := none }) (v := ?_) rfl (by kernel_rfl) (by kernel_rfl) (by kernel_rfl) (fun _ _ _ h => h) (Or.inl ⟨by rfl, ?_⟩) (by assumption) ?_
          rotate_left 1
          · intro w hSw; (try dsimp only at hSw); go_simp <;> with_reducible rfl
          try simp only [Act.put, List.setIfInBounds_toArray, List.set_cons_zero, List.set_cons_succ]
          refine wpAnyH_take (i := 12) (oi := { dst := some 28, op := Op.fieldAddr 60 (Operand.tmp 3) 2, type := 0, pos := "shape.go:83", after := #[{ on := 11, ground := Ground.guard }], guard := some (11, true) }) (v := ?_) rfl (by kernel_rfl) (by kernel_rfl) (by kernel_rfl) (fun _ _ _ h => h) (Or.inl ⟨by rfl, ?_⟩) (by assumption) ?_
          rotate_left 1
          · intro w hSw; (try dsimp only at hSw); go_simp <;> with_reducible rfl
          try simp only [Act.put, List.setIfInBounds_toArray, List.set_cons_zero, List.set_cons_succ]
          refine wpAnyH_take (i := 13) (oi := { dst := some 29, op := Op.load 3 (Operand.tmp 28), type := 3, pos := "shape.go:83", after := #[{ on := 12, ground := Ground.data }, { on := 11, ground := Ground.guard }], guard := some (11, true) }) (v := ?_) rfl (by kernel_rfl) (by kernel_rfl) (by kernel_rfl) (fun _ _ _ h => h) (Or.inl ⟨by rfl, ?_⟩) (by assumption) ?_
          rotate_left 1
          · intro w hSw; (try dsimp only at hSw); go_simp <;> with_reducible rfl
          try simp only [Act.put, List.setIfInBounds_toArray, List.set_cons_zero, List.set_cons_succ]
          refine wpAnyH_take (i := 14) (oi := { dst := some 30, op := Op.move (Operand.tmp 0), type := 23, pos := "shape.go:83", after := #[{ on := 11, ground := Ground.guard }], guard := some (11, true) }) (v := ?_) rfl (by kernel_rfl) (by kernel_rfl) (by kernel_rfl) (fun _ _ _ h => h) (Or.inl ⟨by rfl, ?_⟩) (by assumption) ?_
          rotate_left 1
          · intro w hSw; (try dsimp only at hSw); go_simp <;> with_reducible rfl
          try simp only [Act.put, List.setIfInBounds_toArray, List.set_cons_zero, List.set_cons_succ]
          refine wpAnyH_take (i := 15) (oi := { dst := some 31, op := Op.fieldAddr 60 (Operand.tmp 3) 1, type := 0, pos := "shape.go:83", after := #[{ on := 11, ground := Ground.guard }], guard := some (11, true) }) (v := ?_) rfl (by kernel_rfl) (by kernel_rfl) (by kernel_rfl) (fun _ _ _ h => h) (Or.inl ⟨by rfl, ?_⟩) (by assumption) ?_
          rotate_left 1
          · intro w hSw; (try dsimp only at hSw); go_simp <;> with_reducible rfl
          try simp only [Act.put, List.setIfInBounds_toArray, List.set_cons_zero, List.set_cons_succ]
          refine wpAnyH_take (i := 16) (oi := { dst := some 32, op := Op.load 3 (Operand.tmp 31), type := 3, pos := "shape.go:83", after := #[{ on := 15, ground := Ground.data }, { on := 11, ground := Ground.guard }], guard := some (11, true) }) (v := ?_) rfl (by kernel_rfl) (by kernel_rfl) (by kernel_rfl) (fun _ _ _ h => h) (Or.inl ⟨by rfl, ?_⟩) (by assumption) ?_
          rotate_left 1
          · intro w hSw; (try dsimp only at hSw); go_simp <;> with_reducible rfl
          try simp only [Act.put, List.setIfInBounds_toArray, List.set_cons_zero, List.set_cons_succ]
          refine wpAnyH_take (i := 17) (oi := { dst := some 33, op := Op.indexAddr 23 (Operand.tmp 30) (Operand.tmp 32), type := 0, pos := "shape.go:83", after := #[{ on := 14, ground := Ground.data }, { on := 16, ground := Ground.data }, { on := 11, ground := Ground.guard }], guard := some (11, true) }) (v := ?_) rfl (by kernel_rfl) (by kernel_rfl) (by kernel_rfl) (fun _ _ _ h => h) (Or.inl ⟨by rfl, ?_⟩) (by assumption) ?_
          rotate_left 1
          · intro w hSw; (try dsimp only at hSw); go_simp <;> with_reducible rfl
          try simp only [Act.put, List.setIfInBounds_toArray, List.set_cons_zero, List.set_cons_succ]
          refine wpAnyH_take (i := 18) (oi := { dst := some 34, op := Op.fieldAddr 60 (Operand.tmp 33) 2, type := 0, pos := "shape.go:83", after := #[{ on := 17, ground := Ground.data }, { on := 11, ground := Ground.guard }], guard := some (11, true) }) (v := ?_) rfl (by kernel_rfl) (by kernel_rfl) (by kernel_rfl) (fun _ _ _ h => h) (Or.inl ⟨by rfl, ?_⟩) (by assumption) ?_
          rotate_left 1
          · intro w hSw; (try dsimp only at hSw); go_simp <;> with_reducible rfl
          try simp only [Act.put, List.setIfInBounds_toArray, List.set_cons_zero, List.set_cons_succ]
          refine wpAnyH_take (i := 19) (oi := { dst := some 35, op := Op.load 3 (Operand.tmp 34), type := 3, pos := "shape.go:83", after := #[{ on := 18, ground := Ground.data }, { on := 11, ground := Ground.guard }], guard := some (11, true) }) (v := ?_) rfl (by kernel_rfl) (by kernel_rfl) (by kernel_rfl) (fun _ _ _ h => h) (Or.inl ⟨by rfl, ?_⟩) (by assumption) ?_
          rotate_left 1
          · intro w hSw; (try dsimp only at hSw); go_simp <;> with_reducible rfl
          try simp only [Act.put, List.setIfInBounds_toArray, List.set_cons_zero, List.set_cons_succ]
          refine wpAnyH_take (i := 20) (oi := { dst := some 36, op := Op.binOp BinOp.geq 3 (Operand.tmp 29) (Operand.tmp 35) 3, type := 4, pos := "shape.go:83", after := #[{ on := 13, ground := Ground.data }, { on := 19, ground := Ground.data }, { on := 11, ground := Ground.guard }], guard := some (11, true) }) (v := ?_) rfl (by kernel_rfl) (by kernel_rfl) (by kernel_rfl) (fun _ _ _ h => h) (Or.inl ⟨by rfl, ?_⟩) (by assumption) ?_
          rotate_left 1
          · intro w hSw; (try dsimp only at hSw); go_simp <;> with_reducible rfl
          try simp only [Act.put, List.setIfInBounds_toArray, List.set_cons_zero, List.set_cons_succ]
          refine wpAnyH_take (i := 21) (oi := { dst := some 37, op := Op.pick (Operand.tmp 27) (Operand.tmp 36) (Operand.const (Value.bool false)), type := 4, pos := "shape.go:83", after := #[{ on := 11, ground := Ground.data }, { on := 20, ground := Ground.data }], guard := none }) (v := ?_) rfl (by kernel_rfl) (by kernel_rfl) (by kernel_rfl) (fun _ _ _ h => h) (Or.inl ⟨by rfl, ?_⟩) (by assumption) ?_
          rotate_left 1
          · intro w hSw; (try dsimp only at hSw); go_simp <;> with_reducible rfl
          try simp only [Act.put, List.setIfInBounds_toArray, List.set_cons_zero, List.set_cons_succ]
          refine wpAnyH_take (i := 22) (oi := { dst := some 4, op := Op.assign (Operand.tmp 37), type := 4, pos := "shape.go:83", after := #[{ on := 21, ground := Ground.data }, { on := 11, ground := Ground.chain }, { on := 0, ground := Ground.phase }, { on := 1, ground := Ground.phase }, { on := 2, ground := Ground.phase }, { on := 3, ground := Ground.phase }, { on := 4, ground := Ground.phase }, { on := 5, ground := Ground.phase }, { on := 6, ground := Ground.phase }, { on := 7, ground := Ground.phase }, { on := 8, ground := Ground.phase }, { on := 9, ground := Ground.phase }, { on := 10, ground := Ground.phase }, { on := 11, ground := Ground.phase }, { on := 12, ground := Ground.phase }, { on := 13, ground := Ground.phase }, { on := 14, ground := Ground.phase }, { on := 15, ground := Ground.phase }, { on := 16, ground := Ground.phase }, { on := 17, ground := Ground.phase }, { on := 18, ground := Ground.phase }, { on := 19, ground := Ground.phase }, { on := 20, ground := Ground.phase }, { on := 21, ground := Ground.phase }], guard := none }) (v := ?_) rfl (by kernel_rfl) (by kernel_rfl) (by kernel_rfl) (fun _ _ _ h => h) (Or.inl ⟨by rfl, ?_⟩) (by assumption) ?_
          rotate_left 1
          · intro w hSw; (try dsimp only at hSw); go_simp <;> with_reducible rfl
          try simp only [Act.put, List.setIfInBounds_toArray, List.set_cons_zero, List.set_cons_succ]
          refine wpAnyH_done (by kernel_rfl) ?_ _
          go_wp2_with fail
          go_ret
          exact ⟨congrArg (fun b => Ending.returned (Value.bool b)) e.out.symm, hB2.out⟩
        exact AllReadyH.nil
      exact AllReadyH.nil
  · have q4' : decide ((d : Int) < 8) = false := by simp; omega
    have e := Lib.hid (he.trans (by simp [q4] : _ = false))
    clear he
    go_enter Tryz.func108, Tryz.ntmps108
    go_wp2
    refine wp_region_held_drew (S := (fun wr' => wr'.cell? ⟨w.heap.size, 1, none⟩ = some (.int .i64 (k : Int)) ∧ wr'.cell? ⟨w.heap.size, 2, none⟩ = some (.int .i64 f) ∧ wr'.cell? ⟨g', off' + k * 4 + 2, none⟩ = some (.int .i64 xf))) (by kernel_rfl) ?_ (fun hHeld => ?_)
    · (try dsimp only); exact ⟨c1'.out, c2'.out, d2'.out⟩
    try simp only [Act.put, List.setIfInBounds_toArray, List.set_cons_zero, List.set_cons_succ]
    refine wpAnyH_take (i := 0) (oi := { dst := some 16, op := Op.move (Operand.tmp 0), type := 23, pos := "shape.go:83", after := #[], guard := none }) (v := ?_) rfl (by kernel_rfl) (by kernel_rfl) (by kernel_rfl) (fun _ _ _ h => h) (Or.inl ⟨by rfl, ?_⟩) (by assumption) ?_
    rotate_left 1
    · intro w hSw; (try dsimp only at hSw); go_simp <;> with_reducible rfl
    try simp only [Act.put, List.setIfInBounds_toArray, List.set_cons_zero, List.set_cons_succ]
    refine wpAnyH_take (i := 1) (oi := { dst := some 17, op := Op.fieldAddr 60 (Operand.tmp 3) 1, type := 0, pos := "shape.go:83", after := #[], guard := none }) (v := ?_) rfl (by kernel_rfl) (by kernel_rfl) (by kernel_rfl) (fun _ _ _ h => h) (Or.inl ⟨by rfl, ?_⟩) (by assumption) ?_
    rotate_left 1
    · intro w hSw; (try dsimp only at hSw); go_simp <;> with_reducible rfl
    try simp only [Act.put, List.setIfInBounds_toArray, List.set_cons_zero, List.set_cons_succ]
    refine wpAnyH_take (i := 2) (oi := { dst := some 18, op := Op.load 3 (Operand.tmp 17), type := 3, pos := "shape.go:83", after := #[{ on := 1, ground := Ground.data }], guard := none }) (v := ?_) rfl (by kernel_rfl) (by kernel_rfl) (by kernel_rfl) (fun _ _ _ h => h) (Or.inl ⟨by rfl, ?_⟩) (by assumption) ?_
    rotate_left 1
    · intro w hSw; (try dsimp only at hSw); go_simp <;> with_reducible rfl
    try simp only [Act.put, List.setIfInBounds_toArray, List.set_cons_zero, List.set_cons_succ]
    refine wpAnyH_ready (rs := [3]) (by kernel_rfl) (by simp) ?_
    refine AllReadyH.cons (o := { dst := some 19, op := Op.call { callee := Callee.value (Operand.func 121), args := #[Operand.tmp 16, Operand.tmp 18], argTypes := #[23, 3] }, type := 4, pos := "shape.go:83", after := #[{ on := 0, ground := Ground.data }, { on := 2, ground := Ground.data }], guard := none }) rfl (fun K9 hK => ?_) ?_
    · go_simp
      with_reducible refine (PI.out _).mono ?_
      rintro e1 y ⟨rfl, hy⟩
      subst hy
      go_wp2_with fail
      refine hK.out _ _ ?_ ?_
      · (try dsimp only); exact ⟨c1'.out, c2'.out, d2'.out⟩
      clear hK K9 hHeld; intro hHeld
      try simp only [Act.put, List.setIfInBounds_toArray, List.set_cons_zero, List.set_cons_succ]
      refine wpAnyH_take (i := 4) (oi := { dst := some 20, op := Op.move (Operand.tmp 19), type := 4, pos := "shape.go:83", after := #[{ on := 3, ground := Ground.data }, { on := 3, ground := Ground.chain }], guard := none }) (v := ?_) rfl (by kernel_rfl) (by kernel_rfl) (by kernel_rfl) (fun _ _ _ h => h) (Or.inl ⟨by rfl, ?_⟩) (by assumption) ?_
      rotate_left 1
      · intro w hSw; (try dsimp only at hSw); go_simp <;> with_reducible rfl
      try simp only [Act.put, List.setIfInBounds_toArray, List.set_cons_zero, List.set_cons_succ]
      refine wpAnyH_take (i := 5) (oi := { dst := some 21, op := Op.move (Operand.tmp 0), type := 23, pos := "shape.go:83", after := #[{ on := 4, ground := Ground.guard }], guard := some (4, true) }) (v := ?_) rfl (by kernel_rfl) (by kernel_rfl) (by kernel_rfl) (fun _ _ _ h => h) (Or.inl ⟨by rfl, ?_⟩) (by assumption) ?_
      rotate_left 1
      · intro w hSw; (try dsimp only at hSw); go_simp <;> with_reducible rfl
      try simp only [Act.put, List.setIfInBounds_toArray, List.set_cons_zero, List.set_cons_succ]
      refine wpAnyH_take (i := 6) (oi := { dst := some 22, op := Op.fieldAddr 60 (Operand.tmp 3) 1, type := 0, pos := "shape.go:83", after := #[{ on := 4, ground := Ground.guard }], guard := some (4, true) }) (v := ?_) rfl (by kernel_rfl) (by kernel_rfl) (by kernel_rfl) (fun _ _ _ h => h) (Or.inl ⟨by rfl, ?_⟩) (by assumption) ?_
      rotate_left 1
      · intro w hSw; (try dsimp only at hSw); go_simp <;> with_reducible rfl
      try simp only [Act.put, List.setIfInBounds_toArray, List.set_cons_zero, List.set_cons_succ]
      refine wpAnyH_take (i := 7) (oi := { dst := some 23, op := Op.load 3 (Operand.tmp 22), type := 3, pos := "shape.go:83", after := #[{ on := 6, ground := Ground.data }, { on := 4, ground := Ground.guard }], guard := some (4, true) }) (v := ?_) rfl (by kernel_rfl) (by kernel_rfl) (by kernel_rfl) (fun _ _ _ h => h) (Or.inl ⟨by rfl, ?_⟩) (by assumption) ?_
      rotate_left 1
      · intro w hSw; (try dsimp only at hSw); go_simp <;> with_reducible rfl
      try simp only [Act.put, List.setIfInBounds_toArray, List.set_cons_zero, List.set_cons_succ]
      refine wpAnyH_ready (rs := [8]) (by kernel_rfl) (by simp) ?_
      refine AllReadyH.cons (o := { dst := some 24, op := Op.call { callee := Callee.value (Operand.func 122), args := #[Operand.tmp 21, Operand.tmp 23], argTypes := #[23, 3] }, type := 3, pos := "shape.go:83", after := #[{ on := 5, ground := Ground.data }, { on := 7, ground := Ground.data }, { on := 4, ground := Ground.chain }, { on := 4, ground := Ground.guard }], guard := some (4, true) }) rfl (fun K9 hK => ?_) ?_
      · go_simp
        with_reducible refine (PD.out _ (Below.refl _ _).drew).mono ?_
        rintro e1 y2 ⟨rfl, hw2⟩
        have hq : Below (w.alloc (.cells #[.string nm, .int .i64 (k : Int), .int .i64 f, bv] 60)).heap.size (w.alloc (.cells #[.string nm, .int .i64 (k : Int), .int .i64 f, bv] 60)) y2 := ((Below.refl _ _).drew).trans hw2
        have hB2 := Lib.hid (hB.out.trans (hq.mono hB.out.size))
        have hk := And.intro (cell_up hq c1'.out) (And.intro (cell_up hq c2'.out) (cell_up hq d2'.out))
        clear hw2 hq
        go_wp2_with fail
        refine hK.out _ _ ?_ ?_
        · (try dsimp only); exact hk
        clear hK K9 hHeld; intro hHeld
        try simp only [Act.put, List.setIfInBounds_toArray, List.set_cons_zero, List.set_cons_succ]
        refine wpAnyH_take (i := 9) (oi := { dst := some 25, op := Op.binOp BinOp.lss 3 (Operand.tmp 24) (Operand.const (Value.int IntKind.i64 8)) 3, type := 4, pos := "shape.go:83", after := #[{ on := 8, ground := Ground.data }, { on := 4, ground := Ground.guard }], guard := some (4, true) }) (v := ?_) rfl (by kernel_rfl) (by kernel_rfl) (by kernel_rfl) (fun _ _ _ h => h) (Or.inl ⟨by rfl, ?_⟩) (by assumption) ?_
        rotate_left 1
        · intro w hSw; (try dsimp only at hSw); go_simp <;> with_reducible rfl
        try simp only [Act.put, List.setIfInBounds_toArray, List.set_cons_zero, List.set_cons_succ]
        refine wpAnyH_take (i := 10) (oi := { dst := some 26, op := Op.pick (Operand.tmp 20) (Operand.tmp 25) (Operand.const (Value.bool false)), type := 4, pos := "shape.go:83", after := #[{ on := 4, ground := Ground.data }, { on := 9, ground := Ground.data }], guard := none }) (v := ?_) rfl (by kernel_rfl) (by kernel_rfl) (by kernel_rfl) (fun _ _ _ h => h) (Or.inl ⟨by rfl, ?_⟩) (by assumption) ?_
        rotate_left 1
        · intro w hSw; (try dsimp only at hSw); go_simp <;> with_reducible rfl
        try simp only [Act.put, List.setIfInBounds_toArray, List.set_cons_zero, List.set_cons_succ]
        refine wpAnyH_take (i := 11) (oi := { dst := some 27, op := Op.move (Operand.tmp 26), type := 4, pos := "shape.go:83", after := #[{ on := 10, ground := Ground.data }, { on := 8, ground := Ground.chain }], guard := none }) (v := ?_) rfl (by kernel_rfl) (by kernel_rfl) (by kernel_rfl) (fun _ _ _ h => h) (Or.inl ⟨by rfl, ?_⟩) (by assumption) ?_
        rotate_left 1
        · intro w hSw; (try dsimp only at hSw); go_simp <;> with_reducible rfl
        try simp only [Act.put, List.setIfInBounds_toArray, List.set_cons_zero, List.set_cons_succ]
        refine wpAnyH_take (i := 12) (oi := { dst := some 28, op := Op.fieldAddr 60 (Operand.tmp 3) 2, type := 0, pos := "shape.go:83", after := #[{ on := 11, ground := Ground.guard }], guard := some (11, true) }) (v := undef) rfl (by kernel_rfl) (by kernel_rfl) (by kernel_rfl) (fun _ _ _ h => h) (Or.inr ⟨by rfl, rfl⟩) (by assumption) ?_
        try simp only [Act.put, List.setIfInBounds_toArray, List.set_cons_zero, List.set_cons_succ]
        refine wpAnyH_take (i := 13) (oi := { dst := some 29, op := Op.load 3 (Operand.tmp 28), type := 3, pos := "shape.go:83", after := #[{ on := 12, ground := Ground.data }, { on := 11, ground := Ground.guard }], guard := some (11, true) }) (v := undef) rfl (by kernel_rfl) (by kernel_rfl) (by kernel_rfl) (fun _ _ _ h => h) (Or.inr ⟨by rfl, rfl⟩) (by assumption) ?_
        try simp only [Act.put, List.setIfInBounds_toArray, List.set_cons_zero, List.set_cons_succ]
        refine wpAnyH_take (i := 14) (oi := { dst := some 30, op := Op.move (Operand.tmp 0), type := 23, pos := "shape.go:83", after := #[{ on := 11, ground := Ground.guard }], guard := some (11, true) }) (v := undef) rfl (by kernel_rfl) (by kernel_rfl) (by kernel_rfl) (fun _ _ _ h => h) (Or.inr ⟨by rfl, rfl⟩) (by assumption) ?_
        try simp only [Act.put, List.setIfInBounds_toArray, List.set_cons_zero, List.set_cons_succ]
        refine wpAnyH_take (i := 15) (oi := { dst := some 31, op := Op.fieldAddr 60 (Operand.tmp 3) 1, type := 0, pos := "shape.go:83", after := #[{ on := 11, ground := Ground.guard }], guard := some (11, true) }) (v := undef) rfl (by kernel_rfl) (by kernel_rfl) (by kernel_rfl) (fun _ _ _ h => h) (Or.inr ⟨by rfl, rfl⟩) (by assumption) ?_
        try simp only [Act.put, List.setIfInBounds_toArray, List.set_cons_zero, List.set_cons_succ]
        refine wpAnyH_take (i := 16) (oi := { dst := some 32, op := Op.load 3 (Operand.tmp 31), type := 3, pos := "shape.go:83", after := #[{ on := 15, ground := Ground.data }, { on := 11, ground := Ground.guard }], guard := some (11, true) }) (v := undef) rfl (by kernel_rfl) (by kernel_rfl) (by kernel_rfl) (fun _ _ _ h => h) (Or.inr ⟨by rfl, rfl⟩) (by assumption) ?_
        try simp only [Act.put, List.setIfInBounds_toArray, List.set_cons_zero, List.set_cons_succ]
        refine wpAnyH_take (i := 17) (oi := { dst := some 33, op := Op.indexAddr 23 (Operand.tmp 30) (Operand.tmp 32), type := 0, pos := "shape.go:83", after := #[{ on := 14, ground := Ground.data }, { on := 16, ground := Ground.data }, { on := 11, ground := Ground.guard }], guard := some (11, true) }) (v := undef) rfl (by kernel_rfl) (by kernel_rfl) (by kernel_rfl) (fun _ _ _ h => h) (Or.inr ⟨by rfl, rfl⟩) (by assumption) ?_
        try simp only [Act.put, List.setIfInBounds_toArray, List.set_cons_zero, List.set_cons_succ]
        refine wpAnyH_take (i := 18) (oi := { dst := some 34, op := Op.fieldAddr 60 (Operand.tmp 33) 2, type := 0, pos := "shape.go:83", after := #[{ on := 17, ground := Ground.data }, { on := 11, ground := Ground.guard }], guard := some (11, true) }) (v := undef) rfl (by kernel_rfl) (by kernel_rfl) (by kernel_rfl) (fun _ _ _ h => h) (Or.inr ⟨by rfl, rfl⟩) (by assumption) ?_
        try simp only [Act.put, List.setIfInBounds_toArray, List.set_cons_zero, List.set_cons_succ]
        refine wpAnyH_take (i := 19) (oi := { dst := some 35, op := Op.load 3 (Operand.tmp 34), type := 3, pos := "shape.go:83", after := #[{ on := 18, ground := Ground.data }, { on := 11, ground := Ground.guard }], guard := some (11, true) }) (v := undef) rfl (by kernel_rfl) (by kernel_rfl) (by kernel_rfl) (fun _ _ _ h => h) (Or.inr ⟨by rfl, rfl⟩) (by assumption) ?_
        try simp only [Act.put, List.setIfInBounds_toArray, List.set_cons_zero, List.set_cons_succ]
        refine wpAnyH_take (i := 20) (oi := { dst := some 36, op := Op.binOp BinOp.geq 3 (Operand.tmp 29) (Operand.tmp 35) 3, type := 4, pos := "shape.go:83", after := #[{ on := 13, ground := Ground.data }, { on := 19, ground := Ground.data }, { on := 11, ground := Ground.guard }], guard := some (11, true) }) (v := undef) rfl (by kernel_rfl) (by kernel_rfl) (by kernel_rfl) (fun _ _ _ h => h) (Or.inr ⟨by rfl, rfl⟩) (by assumption) ?_
        try simp only [Act.put, List.setIfInBounds_toArray, List.set_cons_zero, List.set_cons_succ]
        refine wpAnyH_take (i := 21) (oi := { dst := some 37, op := Op.pick (Operand.tmp 27) (Operand.tmp 36) (Operand.const (Value.bool false)), type := 4, pos := "shape.go:83", after := #[{ on := 11, ground := Ground.data }, { on := 20, ground := Ground.data }], guard := none }) (v := ?_) rfl (by kernel_rfl) (by kernel_rfl) (by kernel_rfl) (fun _ _ _ h => h) (Or.inl ⟨by rfl, ?_⟩) (by assumption) ?_
        rotate_left 1
        · intro w hSw; (try dsimp only at hSw); go_simp <;> with_reducible rfl
        try simp only [Act.put, List.setIfInBounds_toArray, List.set_cons_zero, List.set_cons_succ]
        refine wpAnyH_take (i := 22) (oi := { dst := some 4, op := Op.assign (Operand.tmp 37), type := 4, pos := "shape.go:83", after := #[{ on := 21, ground := Ground.data }, { on := 11, ground := Ground.chain }, { on := 0, ground := Ground.phase }, { on := 1, ground := Ground.phase }, { on := 2, ground := Ground.phase }, { on := 3, ground := Ground.phase }, { on := 4, ground := Ground.phase }, { on := 5, ground := Ground.phase }, { on := 6, ground := Ground.phase }, { on := 7, ground := Ground.phase }, { on := 8, ground := Ground.phase }, { on := 9, ground := Ground.phase }, { on := 10, ground := Ground.phase }, { on := 11, ground := Ground.phase }, { on := 12, ground := Ground.phase }, { on := 13, ground := Ground.phase }, { on := 14, ground := Ground.phase }, { on := 15, ground := Ground.phase }, { on := 16, ground := Ground.phase }, { on := 17, ground := Ground.phase }, { on := 18, ground := Ground.phase }, { on := 19, ground := Ground.phase }, { on := 20, ground := Ground.phase }, { on := 21, ground := Ground.phase }], guard := none }) (v := ?_) rfl (by kernel_rfl) (by kernel_rfl) (by kernel_rfl) (fun _ _ _ h => h) (Or.inl ⟨by rfl, ?_⟩) (by assumption) ?_
        rotate_left 1
        · intro w hSw; (try dsimp only at hSw); go_simp <;> with_reducible rfl
        try simp only [Act.put, List.setIfInBounds_toArray, List.set_cons_zero, List.set_cons_succ]
        refine wpAnyH_done (by kernel_rfl) ?_ _
        go_wp2_with fail
        go_ret
        exact ⟨congrArg (fun b => Ending.returned (Value.bool b)) e.out.symm, hB2.out⟩
      exact AllReadyH.nil
    exact AllReadyH.nil
end Wd
end Go.Proofs.YtgfnelhbdhbklaaGreat

/- The landed package's judgement of binds. -/
namespace Go.Proofs.YtgfnelhbdhbklaaGreat
open Go.RowKit
set_option linter.unusedVariables false
set_option maxRecDepth 20000
namespace Wd
theorem any_at {B : List (Int × Int)} {j : Nat} {x : Int × Int} {s : Int} (h : B[j]? = some x) (e : x.1 = s) : B.any (fun x => decide (x.1 = s)) = true := by
  rw [List.any_eq_true]
  exact ⟨x, List.mem_of_getElem? h, by simpa using e⟩
theorem any_not {B : List (Int × Int)} {s : Int} (h : ∀ x ∈ B, x.1 ≠ s) : B.any (fun x => decide (x.1 = s)) = false := by
  rw [Bool.eq_false_iff]
  intro ha
  obtain ⟨x, hx, e⟩ := List.any_eq_true.1 ha
  exact h x hx (by simpa using e)
set_option maxHeartbeats 4000000 in
theorem kbindsname {w : World} {v : Value} {B : List (Int × Int)} (h : PrV w v B) (s : Int) (hs : In64 s) :
    Calls Tryz.prog 123 #[v, .int .i64 s] w fun e w' => e = .returned (.bool (B.any (fun x => decide (x.1 = s)))) ∧ Below w.heap.size w w' := by
  obtain ⟨ad, cap, rfl, hcap, hmx⟩ := h.form
  obtain ⟨n, hn⟩ : ∃ n, n = B.length := ⟨_, rfl⟩
  rw [← hn] at h hcap ⊢
  replace h := Lib.hid h
  have hn' := Lib.hid hn
  have hnm : n ≤ 9223372036854775807 := by have : maxLen ≤ 9223372036854775807 := by decide
                                           omega
  have hst : Hid (∀ x ∈ B.take 0, x.1 ≠ s) := Lib.hid (by simp)
  clear hmx hn
  go_enter Tryz.func123, Tryz.ntmps123
  go_wp2
  go_loopw [9] (fun i9 wr => ∃ (j : Nat), j ≤ n ∧ i9 = .int .i64 j ∧ Hid (∀ x ∈ B.take j, x.1 ≠ s) ∧ Hid (Below w.heap.size w wr)) (fun i9 _ => n - (intOf i9).toNat)
  case atStart => exact ⟨0, by omega, rfl, hst, Lib.hid (Below.refl _ _)⟩
  case round =>
    obtain ⟨j, hj, rfl, hD, hB⟩ := hrel
    by_cases hlt : j < n
    · have hlt' : decide ((j : Int) < (n : Int)) = true := by simp; omega
      have p0 : (0 : Int) ≤ (j : Int) := by omega
      have p1 : (j : Int) < (n : Int) := by omega
      obtain ⟨⟨xs, xm⟩, hx⟩ : ∃ x, B[j]? = some x := ⟨B[j]'(by have := hn'.out; omega), by simp⟩
      obtain ⟨⟨x0, x1⟩, ⟨y0, y1⟩, g', off', rfl, d0, d1⟩ := (h.out.up hB.out).at hx
      have hx' := Lib.hid hx
      clear hx
      simp only at x0 x1 y0 y1 d0 d1
      by_cases he : xs = s
      · have e := Lib.hid (any_at hx'.out he)
        have he' : (xs == s) = true := by simpa using he
        go_wp2
        go_ret
        exact ⟨congrArg (fun b => Ending.returned (Value.bool b)) e.out.symm, hB.out.alloc hB.out.size _⟩
      · have he' : (xs == s) = false := by simpa using he
        have hD' : Hid (∀ x ∈ B.take (j + 1), x.1 ≠ s) := Lib.hid (fun x hx => by
          rw [List.take_add_one, hx'.out] at hx
          rcases List.mem_append.1 hx with hx | hx
          · exact hD.out x hx
          · have e : x = (xs, xm) := by simpa using hx
            rw [e]; exact he)
        go_wp2
        go_roundw
        case rel => exact ⟨j + 1, by omega, by go_num, hD', Lib.hid (hB.out.alloc hB.out.size _)⟩
        case measure => simp [intOf]; omega
    · have hlt' : decide ((j : Int) < (n : Int)) = false := by simp; omega
      have e := Lib.hid (any_not (B := B) (s := s) (by have := hD.out; rw [show j = B.length by have := hn'.out; omega, List.take_length] at this; exact this))
      go_wp2
      go_ret
      exact ⟨congrArg (fun b => Ending.returned (Value.bool b)) e.out.symm, hB.out⟩
theorem binds_over {B : List (Int × Int)} {names methods : Int} (h : 16 < B.length) : bindsOk B names methods = false := by
  unfold bindsOk; rw [decide_eq_false (p := B.length ≤ 16) (by omega)]; simp
theorem take_any {B : List (Int × Int)} {k : Nat} {s : Int} (h : (B.take k).any (fun x => decide (x.1 = s)) = true) : ∃ j x, j < k ∧ B[j]? = some x ∧ x.1 = s := by
  obtain ⟨x, hx, e⟩ := List.any_eq_true.1 h
  obtain ⟨j, hj⟩ := List.getElem?_of_mem hx
  rw [List.getElem?_take] at hj
  by_cases hk : j < k
  · rw [if_pos hk] at hj
    exact ⟨j, x, hk, hj, by simpa using e⟩
  · rw [if_neg hk] at hj; cases hj
theorem take_none {B : List (Int × Int)} {s : Int} (h : B.any (fun x => decide (x.1 = s)) = false) : ∀ x ∈ B, x.1 ≠ s := by
  intro x hx e
  have : B.any (fun x => decide (x.1 = s)) = true := List.any_eq_true.2 ⟨x, hx, by simpa using e⟩
  rw [h] at this; cases this
set_option maxHeartbeats 16000000 in
theorem kbinds {w : World} {v : Value} {B : List (Int × Int)} (h : PrV w v B) (names methods : Int) (hn : In64 names) (hm : In64 methods) :
    Calls Tryz.prog 109 #[v, .int .i64 names, .int .i64 methods] w fun e w' => e = .returned (.bool (bindsOk B names methods)) ∧ Below w.heap.size w w' := by
  obtain ⟨ad, cap, rfl, hcap, hmx⟩ := h.form
  obtain ⟨n, hn⟩ : ∃ n, n = B.length := ⟨_, rfl⟩
  rw [← hn] at h hcap ⊢
  replace h := Lib.hid h
  have hn' := Lib.hid hn
  by_cases h16 : 16 < n
  · have e := Lib.hid (binds_over (names := names) (methods := methods) (by omega : 16 < B.length))
    have h16' : decide ((n : Int) > 16) = true := by simp; omega
    clear hn
    go_enter Tryz.func109, Tryz.ntmps109
    go_wp2
    go_ret
    exact ⟨congrArg (fun b => Ending.returned (Value.bool b)) e.out.symm, Below.refl _ _⟩
  have h16' : decide ((n : Int) > 16) = false := by simp; omega
  have hst : Hid (BdR B names methods 0) := Lib.hid (BdR.start B names methods)
  clear hmx hn
  go_enter Tryz.func109, Tryz.ntmps109
  go_wp2
  go_loopw [14] (fun i14 wr => ∃ (k : Nat), k ≤ n ∧ i14 = .int .i64 k ∧ Hid (BdR B names methods k) ∧ Hid (Below w.heap.size w wr)) (fun i14 _ => n - (intOf i14).toNat)
  case atStart => exact ⟨0, by omega, rfl, hst, Lib.hid (Below.refl _ _)⟩
  case round =>
    obtain ⟨k, hk, rfl, hR, hB⟩ := hrel
    by_cases hlt : k < n
    · have hlt' : decide ((k : Int) < (n : Int)) = true := by simp; omega
      have p0 : (0 : Int) ≤ (k : Int) := by omega
      have p1 : (k : Int) < (n : Int) := by omega
      have p2 : (k : Int) ≤ (cap : Int) := by omega
      obtain ⟨b, hb⟩ : ∃ b, B[k]? = some b := ⟨B[k]'(by have := hn'.out; omega), by simp⟩
      obtain ⟨⟨s0, s1⟩, ⟨m0, m1⟩, g, off, rfl, c0, c1⟩ := (h.out.up hB.out).at hb
      have hb' := Lib.hid hb
      clear hb
      obtain ⟨bs, bm⟩ := b
      simp only at s0 s1 m0 m1 c0 c1
      have hs0 := hB.out.size
      have hB' := Lib.hid (hB.out.alloc hs0 (.cells #[.int .i64 bs, .int .i64 bm] 66))
      by_cases q0 : bs < 0
      · have e := Lib.hid (bind_bad hb'.out (bindOk_not (Or.inl q0) : bindOk names methods (bs, bm) = false))
        have q0' : decide (bs < 0) = true := by simpa using q0
        go_wp2
        go_big_quiet (fail)
        go_wp2
        go_ret
        exact ⟨congrArg (fun b => Ending.returned (Value.bool b)) e.out.symm, hB'.out.trans ((drewK _ _).mono hB'.out.size)⟩
      have q0' : decide (bs < 0) = false := by simpa using q0
      by_cases q1 : names ≤ bs
      · have e := Lib.hid (bind_bad hb'.out (bindOk_not (Or.inr (Or.inl q1)) : bindOk names methods (bs, bm) = false))
        have q1' : decide (bs ≥ names) = true := by simpa using q1
        go_wp2
        go_big_quiet (fail)
        go_wp2
        go_ret
        exact ⟨congrArg (fun b => Ending.returned (Value.bool b)) e.out.symm, hB'.out.trans ((drewK _ _).mono hB'.out.size)⟩
      have q1' : decide (bs ≥ names) = false := by simpa using q1
      by_cases q2 : bm < 0
      · have e := Lib.hid (bind_bad hb'.out (bindOk_not (Or.inr (Or.inr (Or.inl q2))) : bindOk names methods (bs, bm) = false))
        have q2' : decide (bm < 0) = true := by simpa using q2
        go_wp2
        go_big_quiet (fail)
        go_wp2
        go_ret
        exact ⟨congrArg (fun b => Ending.returned (Value.bool b)) e.out.symm, hB'.out.trans ((drewK _ _).mono hB'.out.size)⟩
      have q2' : decide (bm < 0) = false := by simpa using q2
      by_cases q3 : methods ≤ bm
      · have e := Lib.hid (bind_bad hb'.out (bindOk_not (Or.inr (Or.inr (Or.inr q3))) : bindOk names methods (bs, bm) = false))
        have q3' : decide (bm ≥ methods) = true := by simpa using q3
        go_wp2
        go_big_quiet (fail)
        go_wp2
        go_ret
        exact ⟨congrArg (fun b => Ending.returned (Value.bool b)) e.out.symm, hB'.out.trans ((drewK _ _).mono hB'.out.size)⟩
      have q3' : decide (bm ≥ methods) = false := by simpa using q3
      have hok := Lib.hid (bindOk_of (b := (bs, bm)) (by omega) (by omega) (by omega) (by omega) : bindOk names methods (bs, bm) = true)
      have h' := Lib.hid ((h.out.up hB'.out).take k (by have := hn'.out; omega))
      have hs64 : Hid (In64 bs) := Lib.hid ⟨s0, s1⟩
      clear hs0
      cases ha : (B.take k).any (fun x => decide (x.1 = bs)) with
      | true =>
        obtain ⟨j, x, hj, hx, ex⟩ := take_any ha
        have e := Lib.hid (bind_twice (names := names) (methods := methods) hb'.out hx hj ex)
        have ha' := Lib.hid ha
        clear hx ex ha
        go_wp2
        go_region_with (first | (go_at_call 123; (with_reducible refine (kbindsname (h'.out.up ((Below.refl _ _).drew)) bs hs64.out).mono ?_); rintro e1 w2 ⟨he1, hw2⟩; rw [ha'.out] at he1; subst he1; have hq : Below (wr.alloc (.cells #[.int .i64 bs, .int .i64 bm] 66)).heap.size (wr.alloc (.cells #[.int .i64 bs, .int .i64 bm] 66)) w2 := ((Below.refl _ _).drew).trans hw2; have hB2 := Lib.hid (hB'.out.trans (hq.mono hB'.out.size)); clear hw2 hq))
        go_wp2
        go_ret
        exact ⟨congrArg (fun b => Ending.returned (Value.bool b)) e.out.symm, hB2.out⟩
      | false =>
        have hR' := Lib.hid (hR.out.step hb'.out hok.out (take_none ha))
        have ha' := Lib.hid ha
        clear ha
        go_wp2
        go_region_with (first | (go_at_call 123; (with_reducible refine (kbindsname (h'.out.up ((Below.refl _ _).drew)) bs hs64.out).mono ?_); rintro e1 w2 ⟨he1, hw2⟩; rw [ha'.out] at he1; subst he1; have hq : Below (wr.alloc (.cells #[.int .i64 bs, .int .i64 bm] 66)).heap.size (wr.alloc (.cells #[.int .i64 bs, .int .i64 bm] 66)) w2 := ((Below.refl _ _).drew).trans hw2; have hB2 := Lib.hid (hB'.out.trans (hq.mono hB'.out.size)); clear hw2 hq))
        go_wp2
        go_roundw
        case rel => exact ⟨k + 1, by omega, by go_num, hR', hB2⟩
        case measure => simp [intOf]; omega
    · have hlt' : decide ((k : Int) < (n : Int)) = false := by simp; omega
      have hR' : BdR B names methods B.length := by have := hR.out; rw [show k = B.length by have := hn'.out; omega] at this; exact this
      have e := hR'.last
      rw [decide_eq_true (show B.length ≤ 16 by have := hn'.out; omega)] at e
      replace e := Lib.hid e
      clear hR'
      go_wp2
      go_ret
      exact ⟨congrArg (fun b => Ending.returned (Value.bool b)) e.out.symm, hB.out⟩
end Wd
end Go.Proofs.YtgfnelhbdhbklaaGreat

/- The landed judgement of classes. -/
namespace Go.Proofs.YtgfnelhbdhbklaaGreat
open Go.RowKit
set_option linter.unusedVariables false
set_option maxRecDepth 20000
namespace Wd
theorem name_of {A : List ClassA} {nm : ByteArray} (h : nameR A nm = true) : textOk nm = true ∧ ∀ x ∈ A, x.nm ≠ nm := by
  unfold nameR at h
  rw [Bool.and_eq_true] at h
  refine ⟨h.1, fun x hx e => ?_⟩
  have : A.any (fun x => decide (x.nm = nm)) = true := List.any_eq_true.2 ⟨x, hx, by simpa using e⟩
  rw [this] at h
  exact absurd h.2 (by decide)
theorem ShR.nm {L : List ClassA} {names methods : Int} {k : Nat} {c : ClassA} (h : ShR L names methods k) (hc : L[k]? = some c) (e : nameR (L.take k) c.nm = false) : shapeR L names methods = 13 := by
  rw [h.eq, drop_next hc, shapeFrom]
  by_cases ht : textOk c.nm = false
  · rw [if_pos ht]
  · rw [if_neg ht]
    have : (L.take k).any (fun x => decide (x.nm = c.nm)) = true := by
      unfold nameR at e
      have ht' : textOk c.nm = true := by simpa using ht
      rw [ht', Bool.true_and] at e
      simpa using e
    rw [if_pos this]
set_option maxHeartbeats 16000000 in
theorem kright {w : World} {v : Value} {L : List ClassA} (h : ClV w v L) (names methods : Int) (hn : In64 names) (hm : In64 methods) :
    Calls Tryz.prog 90 #[v, .int .i64 names, .int .i64 methods] w fun e w' => e = .returned (.int .i64 (shapeR L names methods)) ∧ Below w.heap.size w w' := by
  obtain ⟨ad, cap, rfl, hcap, hmx⟩ := h.form
  obtain ⟨n, hnn⟩ : ∃ n, n = L.length := ⟨_, rfl⟩
  rw [← hnn] at h hcap ⊢
  replace h := Lib.hid h
  have hn' := Lib.hid hnn
  by_cases q0 : n < 2
  · have e := Lib.hid (shape_short (names := names) (methods := methods) (Or.inl (by omega : L.length < 2)))
    have q0' : decide ((n : Int) < 2) = true := by simp; omega
    go_enter Tryz.func90, Tryz.ntmps90
    go_wp2
    go_ret
    exact ⟨congrArg (fun b => Ending.returned (Value.int .i64 b)) e.out.symm, Below.refl _ _⟩
  have q0' : decide ((n : Int) < 2) = false := by simp; omega
  by_cases q1 : 12 < n
  · have e := Lib.hid (shape_short (names := names) (methods := methods) (Or.inr (by omega : 12 < L.length)))
    have q1' : decide ((n : Int) > 12) = true := by simp; omega
    go_enter Tryz.func90, Tryz.ntmps90
    go_wp2
    go_ret
    exact ⟨congrArg (fun b => Ending.returned (Value.int .i64 b)) e.out.symm, Below.refl _ _⟩
  have q1' : decide ((n : Int) > 12) = false := by simp; omega
  have q2' : (0 : Int) < (n : Int) := by omega
  have q3' : (1 : Int) < (n : Int) := by omega
  obtain ⟨⟨an, sa, af, ab⟩, ha⟩ : ∃ x, L[0]? = some x := ⟨L[0]'(by omega), by simp⟩
  obtain ⟨⟨bn, sb, bf, bb⟩, hb⟩ : ∃ x, L[1]? = some x := ⟨L[1]'(by omega), by simp⟩
  have hh := head_at ha hb
  obtain ⟨_, _, g, off, av, rfl, c0, c1, c2, c3, _⟩ := h.out.at ha
  obtain ⟨_, _, g', off', bv, eg, d0, d1, d2, d3, _⟩ := h.out.at hb
  cases eg
  clear hmx
  simp only at c0 c1 c2 d0 d1 d2 hh
  simp only [Nat.zero_mul, Nat.add_zero] at c0 c1 c2 c3
  simp only [Nat.one_mul] at d0 d1 d2 d3
  have d0' := Lib.hid d0
  have d1' := Lib.hid d1
  have d2' := Lib.hid d2
  have d3' := Lib.hid d3
  clear d0 d1 d2 d3
  obtain ⟨b1, hb1⟩ : ∃ b, b = (decide (sa = -1) && decide (af = 4)) := ⟨_, rfl⟩
  obtain ⟨b2, hb2⟩ : ∃ b, b = (decide (sb = -1) && decide (bf = 0)) := ⟨_, rfl⟩
  have P1 := Lib.hid (fun w => isroot_c an sa af av 4 w b1 hb1)
  have P2 := Lib.hid (fun w => isroot_c bn sb bf bv 0 w b2 hb2)
  have hh' : headOk L = (b1 && b2) := by
    rw [hh, hb1, hb2]
    cases decide (sa = -1) <;> cases decide (af = 4) <;> cases decide (sb = -1) <;> cases decide (bf = 0) <;> rfl
  clear hb1 hb2 hh
  cases b1 with
  | false =>
    have e := Lib.hid (shape_head (L := L) (names := names) (methods := methods) (by omega) (by omega) (by rw [hh']; rfl))
    clear hh' hnn ha hb
    go_enter Tryz.func90, Tryz.ntmps90
    go_wp2_with (first | (go_at_call 106; ((with_reducible refine (P1.out _).mono ?_); rintro e1 w2 ⟨rfl, hw2⟩)))
    go_ret
    exact ⟨congrArg (fun b => Ending.returned (Value.int .i64 b)) e.out.symm, hw2⟩
  | true =>
  cases b2 with
  | false =>
    have e := Lib.hid (shape_head (L := L) (names := names) (methods := methods) (by omega) (by omega) (by rw [hh']; rfl))
    clear hh' hnn ha hb
    go_enter Tryz.func90, Tryz.ntmps90
    go_wp2_with (first | (go_at_call 106; first | ((with_reducible refine (P1.out _).mono ?_); rintro e1 w2 ⟨rfl, hw2⟩; have d0 := cell_up hw2 d0'.out; have d1 := cell_up hw2 d1'.out; have d2 := cell_up hw2 d2'.out; have d3 := cell_up hw2 d3'.out; have d1b : w2.cell? ⟨g, off + 5, none⟩ = some (.int .i64 sb) := d1; have d2b : w2.cell? ⟨g, off + 6, none⟩ = some (.int .i64 bf) := d2; have d3b : w2.cell? ⟨g, off + 7, none⟩ = some bv := d3) | ((with_reducible refine (P2.out _).mono ?_); rintro e1 w3 ⟨rfl, hw3⟩)))
    go_ret
    exact ⟨congrArg (fun b => Ending.returned (Value.int .i64 b)) e.out.symm, hw2.trans (hw3.mono hw2.size)⟩
  | true =>
  have hst : Hid (ShR L names methods 0) := Lib.hid (ShR.start (by omega) (by omega) (by rw [hh']; rfl))
  have hn12 : n ≤ 12 := by omega
  clear hh' hnn ha hb
  go_enter Tryz.func90, Tryz.ntmps90
  go_wp2_with (first | (go_at_call 106; first | ((with_reducible refine (P1.out _).mono ?_); rintro e1 w2 ⟨rfl, hw2⟩; have d0 := cell_up hw2 d0'.out; have d1 := cell_up hw2 d1'.out; have d2 := cell_up hw2 d2'.out; have d3 := cell_up hw2 d3'.out; have d1b : w2.cell? ⟨g, off + 5, none⟩ = some (.int .i64 sb) := d1; have d2b : w2.cell? ⟨g, off + 6, none⟩ = some (.int .i64 bf) := d2; have d3b : w2.cell? ⟨g, off + 7, none⟩ = some bv := d3) | ((with_reducible refine (P2.out _).mono ?_); rintro e1 w3 ⟨rfl, hw3⟩; have hB0 := Lib.hid (hw2.trans (hw3.mono hw2.size)); clear hw2 hw3)))
  clear c0 c1 c2 c3 d0 d1 d2 d3 d1b d2b d3b d0' d1' d2' d3' P1 P2
  go_loopw [31] (fun i31 wr => ∃ (k : Nat), k ≤ n ∧ i31 = .int .i64 k ∧ Hid (ShR L names methods k) ∧ Hid (Below w.heap.size w wr)) (fun i31 _ => n - (intOf i31).toNat)
  case atStart => exact ⟨0, by omega, rfl, hst, hB0⟩
  case round =>
    clear hB0 hst
    obtain ⟨k, hk, rfl, hR, hB⟩ := hrel
    by_cases hlt : k < n
    · have hlt' : decide ((k : Int) < (n : Int)) = true := by simp; omega
      have p0 : (0 : Int) ≤ (k : Int) := by omega
      have p1 : (k : Int) < (n : Int) := by omega
      have p2 : (k : Int) ≤ (cap : Int) := by omega
      obtain ⟨⟨nm, s, fl, bds⟩, hc⟩ : ∃ x, L[k]? = some x := ⟨L[k]'(by have := hn'.out; omega), by simp⟩
      obtain ⟨s64, f64, g', off', bv, eg, c0, c1, c2, c3, hbv⟩ := (h.out.up hB.out).at hc
      cases eg
      obtain ⟨ba, bc, rfl, _⟩ := hbv.form
      simp only at s64 f64 c0 c1 c2 c3 hbv
      have hc' := Lib.hid hc
      have hs0 := hB.out.size
      have hB1 := Lib.hid (hB.out.alloc hs0 (.cells #[.string nm, .int .i64 s, .int .i64 fl, .slice ba bds.length bc] 60))
      have hbv' := Lib.hid (hbv.up ((Below.refl wr.heap.size wr).alloc (Nat.le_refl _) (.cells #[.string nm, .int .i64 s, .int .i64 fl, .slice ba bds.length bc] 60)))
      have hA := Lib.hid ((h.out.up hB1.out).take k (by have := hn'.out; omega))
      have k0 : Hid ((wr.alloc (.cells #[.string nm, .int .i64 s, .int .i64 fl, .slice ba bds.length bc] 60)).cell? ⟨wr.heap.size, 0, none⟩ = some (.string nm)) := Lib.hid (by simp)
      have k1 : Hid ((wr.alloc (.cells #[.string nm, .int .i64 s, .int .i64 fl, .slice ba bds.length bc] 60)).cell? ⟨wr.heap.size, 1, none⟩ = some (.int .i64 s)) := Lib.hid (by simp)
      have k2 : Hid ((wr.alloc (.cells #[.string nm, .int .i64 s, .int .i64 fl, .slice ba bds.length bc] 60)).cell? ⟨wr.heap.size, 2, none⟩ = some (.int .i64 fl)) := Lib.hid (by simp)
      have k3 : Hid ((wr.alloc (.cells #[.string nm, .int .i64 s, .int .i64 fl, .slice ba bds.length bc] 60)).cell? ⟨wr.heap.size, 3, none⟩ = some (.slice ba bds.length bc)) := Lib.hid (by simp)
      have eS := Lib.hid (sup_eq (c := ⟨nm, s, fl, bds⟩) hR.out.down (by have := hn'.out; omega : k ≤ L.length))
      simp only at eS
      have hs64 := Lib.hid s64
      have hf64 := Lib.hid f64
      clear hbv hc hs0 s64 f64
      generalize bds.length = bm at *
      go_upto_region 8 with fail
      clear c0 c1 c2 c3
      generalize wr.alloc (.cells #[.string nm, .int .i64 s, .int .i64 fl, .slice ba bm bc] 60) = w1 at *
      generalize wr.heap.size = B8 at *
      have c0 := k0.out
      cases hN : nameR (L.take k) nm with
      | false =>
        have e := Lib.hid (hR.out.nm hc'.out hN)
        have hN' := Lib.hid hN
        clear hN
        go_region_with (first | (go_at_call 107; (with_reducible refine (kname (hA.out.up ((Below.refl _ _).drew)) nm).mono ?_); rintro e1 w2 ⟨he1, hw2⟩; rw [hN'.out] at he1; subst he1; have hq : Below w1.heap.size w1 w2 := ((Below.refl _ _).drew).trans hw2; have hB2 := Lib.hid (hB1.out.trans (hq.mono hB1.out.size)); clear hw2 hq))
        go_wp2
        go_ret
        exact ⟨congrArg (fun b => Ending.returned (Value.int .i64 b)) e.out.symm, hB2.out⟩
      | true =>
        obtain ⟨ht, hna⟩ := name_of hN
        have ht' := Lib.hid ht
        have hna' := Lib.hid hna
        have hN' := Lib.hid hN
        clear hN ht hna
        go_region_with (first | (go_at_call 107; (with_reducible refine (kname (hA.out.up ((Below.refl _ _).drew)) nm).mono ?_); rintro e1 w2 ⟨he1, hw2⟩; rw [hN'.out] at he1; subst he1; have hq : Below w1.heap.size w1 w2 := ((Below.refl _ _).drew).trans hw2; have hB2 := Lib.hid (hB1.out.trans (hq.mono hB1.out.size)); have m0 := cell_up hq k0.out; have m1 := cell_up hq k1.out; have m2 := cell_up hq k2.out; have m3 := cell_up hq k3.out; have m3' := Lib.hid m3; have hA2 := Lib.hid (hA.out.up hq); have hbv2 := Lib.hid (hbv'.out.up hq); clear hw2 hq))
        clear hA hbv' hB1 k0 k1 k2 k3 c0
        go_upto_region 10 with fail
        have hKS := Lib.hid (fun w' (b : Below w2.heap.size w2 w') => ksuper (hA2.out.up b) nm s fl (.slice ba bm bc) hs64.out hf64.out)
        cases hC : classOk L k ⟨nm, s, fl, bds⟩ with
        | false =>
          have e := Lib.hid (hR.out.cls hc'.out ht'.out hna'.out hC)
          have hC' := Lib.hid (eS.out.symm.trans hC)
          clear hC
          go_region_with (first | (go_at_call 108; (with_reducible refine (hKS.out _ (Below.refl _ _).drew).mono ?_); rintro e1 w3 ⟨he1, hw3⟩; rw [hC'.out] at he1; subst he1; have hq : Below w2.heap.size w2 w3 := ((Below.refl _ _).drew).trans hw3; have hB3 := Lib.hid (hB2.out.trans (hq.mono hB2.out.size)); clear hw3 hq))
          go_wp2
          go_ret
          exact ⟨congrArg (fun b => Ending.returned (Value.int .i64 b)) e.out.symm, hB3.out⟩
        | true =>
          have hC' := Lib.hid (eS.out.symm.trans hC)
          have hC2 := Lib.hid hC
          clear hC
          go_region_with (first | (go_at_call 108; (with_reducible refine (hKS.out _ (Below.refl _ _).drew).mono ?_); rintro e1 w3 ⟨he1, hw3⟩; rw [hC'.out] at he1; subst he1; have hq : Below w2.heap.size w2 w3 := ((Below.refl _ _).drew).trans hw3; have hB3 := Lib.hid (hB2.out.trans (hq.mono hB2.out.size)); have n3 := cell_up hq m3'.out; have hbv3 := Lib.hid (hbv2.out.up hq); clear hw3 hq))
          clear m0 m1 m2 m3 m3' hA2 hbv2 hKS hB2
          have PB := Lib.hid (kbinds hbv3.out names methods hn hm)
          cases hb : bindsOk bds names methods with
          | false =>
            have e := Lib.hid (hR.out.bnd hc'.out ht'.out hna'.out hC2.out hb)
            rw [hb] at PB
            clear hb
            go_wp2_with (first | (go_at_call 109; ((with_reducible refine PB.out.mono ?_); rintro e1 w4 ⟨rfl, hw4⟩)))
            go_ret
            exact ⟨congrArg (fun b => Ending.returned (Value.int .i64 b)) e.out.symm, hB3.out.trans (hw4.mono hB3.out.size)⟩
          | true =>
            have hR' := Lib.hid (hR.out.step hc'.out ht'.out hna'.out hC2.out hb)
            rw [hb] at PB
            clear hb
            go_wp2_with (first | (go_at_call 109; ((with_reducible refine PB.out.mono ?_); rintro e1 w4 ⟨rfl, hw4⟩)))
            go_roundw
            case rel => exact ⟨k + 1, by omega, by go_num, hR', Lib.hid (hB3.out.trans (hw4.mono hB3.out.size))⟩
            case measure => simp [intOf]; omega
    · have hlt' : decide ((k : Int) < (n : Int)) = false := by simp; omega
      have e : Hid (shapeR L names methods = 0) := Lib.hid (ShR.last (by have := hR.out; rw [show k = L.length by have := hn'.out; omega] at this; exact this))
      go_wp2
      go_ret
      exact ⟨congrArg (fun b => Ending.returned (Value.int .i64 b)) e.out.symm, hB.out⟩
end Wd
end Go.Proofs.YtgfnelhbdhbklaaGreat

/- The landed dict: how it lies; a name's first place; the place that has a name, or the first empty one. -/
namespace Go.Proofs.YtgfnelhbdhbklaaGreat
open Go.RowKit
set_option linter.unusedVariables false
set_option maxRecDepth 20000
namespace Wd
/-- block p holds the dict; an empty place has the name -1, nothing else below 0 -/
structure DA (w : World) (p : Nat) (D : Dst) (F : Nat → Prop) : Prop where
  ref : RefD w p D
  low : ∀ k, k < 16 → -1 ≤ selA D k
  own : ∀ k, F k ↔ k = p
theorem chF {F : Nat → Prop} {p : Nat} (h : ∀ k, F k ↔ k = p) {w w' : World} (c : Ch (fun k => k = p) w w') : Ch F w w' :=
  ⟨c.os, c.tape, c.output, c.size, fun k hk hF => c.block k hk (fun e => hF ((h k).2 e))⟩
theorem plc_first {sel : Int} (h : 0 ≤ sel) : ∃ r : Nat, r < 16 ∧ Int.tmod sel 16 = (r : Int) ∧ Int.tmod ((r : Int) * 7) 16 = ((plc sel 0 : Nat) : Int) := by
  obtain ⟨r, hr, e1, e2⟩ := plc_int h 0
  exact ⟨r, hr, e1, by simpa using e2⟩
theorem plc_step (sel : Int) (k : Nat) : Int.tmod (((plc sel 0 : Nat) : Int) + (k : Int)) 16 = ((plc sel k : Nat) : Int) := by
  have e : (((plc sel 0 : Nat) : Int) + (k : Int)) = ((plc sel 0 + k : Nat) : Int) := by push_cast; rfl
  rw [e]
  show Int.tmod _ ((16 : Nat) : Int) = _
  rw [← Int.ofNat_tmod]
  congr 1
  unfold plc
  omega
/-- the place, and how many were looked at -/
def prF (D : Dst) (sel : Int) : Nat → Nat → Int × Int
  | 0, _ => (-1, 4)
  | f + 1, k => if selA D (plc sel k) = sel ∨ selA D (plc sel k) = -1 then (((plc sel k : Nat) : Int), (k : Int) + 1) else prF D sel f (k + 1)
def prD (D : Dst) (sel : Int) : Int × Int := if sel < 0 then (-1, 0) else prF D sel 4 0
theorem pr_neg {D : Dst} {sel : Int} (h : sel < 0) : prD D sel = (-1, 0) := if_pos h
theorem pr_pos {D : Dst} {sel : Int} (h : 0 ≤ sel) : prD D sel = prF D sel 4 0 := if_neg (by omega)
theorem prF_has {D : Dst} {sel : Int} {k : Nat} (hk : k < 4) (h : selA D (plc sel k) = sel ∨ selA D (plc sel k) = -1) : prF D sel (4 - k) k = (((plc sel k : Nat) : Int), (k : Int) + 1) := by
  rw [show 4 - k = (3 - k) + 1 by omega, prF, if_pos h]
theorem prF_next {D : Dst} {sel : Int} {k : Nat} (hk : k < 4) (h : ¬ (selA D (plc sel k) = sel ∨ selA D (plc sel k) = -1)) : prF D sel (4 - k) k = prF D sel (4 - (k + 1)) (k + 1) := by
  rw [show 4 - k = (4 - (k + 1)) + 1 by omega, prF, if_neg h]
/-- what the place means -/
def Pr (D : Dst) (sel : Int) (x : Int × Int) (y : Option Nat) (z : Int × Int) : Prop :=
  (x.1 = -1 ∧ y = none ∧ z = (-1, x.2)) ∨ (∃ i : Nat, i < 16 ∧ x.1 = (i : Int) ∧ y = some i ∧ ((selA D i = -1 ∧ z = (-1, x.2)) ∨ (selA D i = sel ∧ 0 ≤ sel ∧ z = (metA D i, x.2))))
theorem pr_f {D : Dst} (hl : ∀ k, k < 16 → -1 ≤ selA D k) {sel : Int} (h : 0 ≤ sel) : ∀ f k, Pr D sel (prF D sel f k) (putF D sel f k) (findF D sel f k)
  | 0, k => Or.inl ⟨rfl, rfl, rfl⟩
  | f + 1, k => by
    have hp := plc_lt sel k
    have hm := hl _ hp
    unfold prF putF findF
    by_cases h1 : selA D (plc sel k) = sel
    · rw [if_pos (Or.inl h1), if_pos (Or.inl h1), if_pos h1]
      exact Or.inr ⟨plc sel k, hp, rfl, rfl, Or.inr ⟨h1, h, rfl⟩⟩
    · by_cases h2 : selA D (plc sel k) = -1
      · rw [if_pos (Or.inr h2), if_pos (Or.inr (by omega)), if_neg h1, if_pos (by omega)]
        exact Or.inr ⟨plc sel k, hp, rfl, rfl, Or.inl ⟨h2, rfl⟩⟩
      · rw [if_neg (by omega), if_neg (by omega), if_neg h1, if_neg (by omega)]
        exact pr_f hl h f (k + 1)
theorem pr_d {D : Dst} (hl : ∀ k, k < 16 → -1 ≤ selA D k) (sel : Int) : Pr D sel (prD D sel) (putP D sel) (findD D sel) := by
  by_cases h : sel < 0
  · rw [pr_neg h, put_neg h, find_neg h]
    exact Or.inl ⟨rfl, rfl, rfl⟩
  · rw [pr_pos (by omega), put_pos (by omega), find_pos (by omega)]
    exact pr_f hl (by omega) 4 0
set_option maxHeartbeats 4000000 in
theorem first_c (w : World) {sel : Int} (hs : I64 sel) (h : 0 ≤ sel) :
    Calls Tryz.prog 130 #[.int .i64 sel] w fun e w' => e = .returned (.int .i64 (plc sel 0 : Nat)) ∧ w' = w := by
  obtain ⟨r, hr, e1, e2⟩ := plc_first h
  have w1 : IntKind.i64.wrap ((r : Int) * 7) = (r : Int) * 7 := by rw [IntKind.wrap_i64]; omega
  go_enter Tryz.func130, Tryz.ntmps130
  go_wp2
  go_ret
  exact ⟨rfl, rfl⟩
set_option maxHeartbeats 8000000 in
theorem probe_c {w : World} {b : Nat} {D : Dst} (h : RefD w b D) (sel : Int) (hs : I64 sel) :
    Calls Tryz.prog 124 #[.pointer (some ⟨b, 0, none⟩), .int .i64 sel] w fun e w' => e = .returned (.tuple #[.int .i64 (prD D sel).1, .int .i64 (prD D sel).2]) ∧ w' = w := by
  replace h := Lib.hid h
  have hs' := Lib.hid hs
  obtain ⟨s0, s1⟩ := hs
  by_cases hn : sel < 0
  · have d2 : decide (sel < 0) = true := by simpa using hn
    have e := Lib.hid (pr_neg (D := D) hn)
    go_enter Tryz.func124, Tryz.ntmps124
    go_wp2
    go_ret2
    exact ⟨by rw [e.out]; rfl, rfl⟩
  · have d2 : decide (sel < 0) = false := by simpa using hn
    have h0 : 0 ≤ sel := by omega
    have hst : Hid (prD D sel = prF D sel (4 - 0) 0) := Lib.hid (pr_pos h0)
    go_enter Tryz.func124, Tryz.ntmps124
    go_wp2_with (first | (go_at_call 130; ((with_reducible refine (first_c _ hs'.out h0).mono ?_); rintro e1 w1 ⟨rfl, rfl⟩)))
    go_loopw [13] (fun i13 wr => ∃ k : Nat, k ≤ 4 ∧ i13 = .int .i64 k ∧ Hid (prD D sel = prF D sel (4 - k) k) ∧ wr = w1) (fun i13 _ => 4 - (intOf i13).toNat)
    case atStart => exact ⟨0, by omega, rfl, hst, rfl⟩
    case round =>
      clear hst
      obtain ⟨k, hk, rfl, hF, rfl⟩ := hrel
      by_cases hlt : k < 4
      · have hlt' : decide ((k : Int) < 4) = true := by simp; omega
        have e2 := plc_step sel k
        have hi := plc_lt sel k
        have hj := plc_lt sel 0
        have y1 := Lib.hid (prF_has (D := D) (sel := sel) hlt)
        have y3 := Lib.hid (prF_next (D := D) (sel := sel) hlt)
        generalize plc sel 0 = j at *
        generalize plc sel k = i at *
        have i0 : (0 : Int) ≤ (i : Int) := by omega
        have i1 : (i : Int) < 16 := by omega
        have c1 := h.out.cs i hi
        have w2 : IntKind.i64.wrap ((j : Int) + (k : Int)) = (j : Int) + (k : Int) := by rw [IntKind.wrap_i64]; omega
        obtain ⟨x, hx⟩ : ∃ x, x = selA D i := ⟨_, rfl⟩
        rw [← hx] at c1 y1 y3
        by_cases he : x = sel
        · have he' : (x == sel) = true := by simpa using he
          have e := Lib.hid (hF.out.trans (y1.out (Or.inl he)))
          clear he hx
          go_wp2
          go_ret2
          exact ⟨by rw [e.out]; rfl, rfl⟩
        · have he' : (x == sel) = false := by simpa using he
          by_cases hx0 : x = -1
          · have hx' : (x == -1) = true := by simpa using hx0
            have e := Lib.hid (hF.out.trans (y1.out (Or.inr hx0)))
            clear he hx0 hx
            go_wp2
            go_ret2
            exact ⟨by rw [e.out]; rfl, rfl⟩
          · have hx' : (x == -1) = false := by simpa using hx0
            have e := Lib.hid (hF.out.trans (y3.out (by omega)))
            clear he hx0 hx
            go_wp2
            go_roundw
            case rel => exact ⟨k + 1, by omega, by go_num, e, trivial⟩
            case measure => simp [intOf]; omega
      · have hlt' : decide ((k : Int) < 4) = false := by simp; omega
        have e := hF.out
        rw [show 4 - k = 0 by omega, prF] at e
        replace e := Lib.hid e
        go_wp2
        go_ret2
        exact ⟨by rw [e.out]; rfl, rfl⟩
end Wd
end Go.Proofs.YtgfnelhbdhbklaaGreat

/- The landed dict: Put, Find. -/
namespace Go.Proofs.YtgfnelhbdhbklaaGreat
open Go.RowKit
set_option linter.unusedVariables false
set_option maxRecDepth 20000
namespace Wd
set_option maxHeartbeats 8000000 in
theorem dput_c {w : World} {b : Nat} {D : Dst} {F : Nat → Prop} (h : DA w b D F) (sel met : Int) (hs : I64 sel) (hm : I64 met) :
    Calls Tryz.prog 111 #[.pointer (some ⟨b, 0, none⟩), .int .i64 sel, .int .i64 met] w fun e w' => ∃ F', e = .returned (.bool (putB D sel)) ∧ DA w' b (putD D sel met) F' ∧ Ch F w w' ∧ Newer F F' w.heap.size := by
  have hP := pr_d h.low sel
  have PP := Lib.hid (probe_c h.ref sel hs)
  replace h := Lib.hid h
  have hm' := Lib.hid hm
  have hs' := Lib.hid hs
  generalize prD D sel = X at hP PP
  obtain ⟨xa, xl⟩ := X
  rcases hP with ⟨h1, h2, -⟩ | ⟨i, hi, h1, h2, h3⟩
  · simp only at h1
    subst h1
    have e := Lib.hid (put_n (met := met) h2)
    go_enter Tryz.func111, Tryz.ntmps111
    go_wp2_with (first | (go_at_call 124; ((with_reducible refine PP.out.mono ?_); rintro e1 w1 ⟨rfl, rfl⟩)))
    go_ret
    exact ⟨F, by rw [e.out.1]; rfl, by rw [e.out.2]; exact h.out, Ch.refl _ _, fun k hk => Or.inl hk⟩
  · simp only at h1
    subst h1
    have e := Lib.hid (put_y (met := met) h2)
    have hsel : -1 ≤ sel := by
      unfold putP at h2
      split at h2
      · cases h2
      · omega
    have hB : Hid (DA ((w.setCell ⟨b, i, none⟩ (.int .i64 sel)).setCell ⟨b, 16 + i, none⟩ (.int .i64 met)) b (D.set i (sel, met)) F) := Lib.hid ⟨h.out.ref.both hi hs'.out hm'.out, fun k hk => by
      rw [sel_set h.out.ref.len hi]
      split
      · exact hsel
      · exact h.out.low k hk, h.out.own⟩
    have i0 : (0 : Int) ≤ (i : Int) := by omega
    have i1 : (i : Int) < 16 := by omega
    have c1 := h.out.ref.cs i hi
    have c2 := h.out.ref.cm i hi
    have z1 := h.out.ref.z i
    have z2 := h.out.ref.z (16 + i)
    have ne : ((i : Int) == -1) = false := by simp
    clear h2 h3
    go_enter Tryz.func111, Tryz.ntmps111
    go_wp2_with (first | (go_at_call 124; ((with_reducible refine PP.out.mono ?_); rintro e1 w1 ⟨rfl, rfl⟩)))
    go_region
    all_goals go_wp2
    all_goals go_ret
    all_goals exact ⟨F, by rw [e.out.1]; rfl, by rw [e.out.2]; exact ⟨hB.out.ref.same rfl, hB.out.low, hB.out.own⟩, chF h.out.own (two_ch _ b i (.int .i64 sel) (.int .i64 met)), fun k hk => Or.inl hk⟩
end Wd
end Go.Proofs.YtgfnelhbdhbklaaGreat
