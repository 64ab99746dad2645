/- Texts joined: UNS, UNT, UNU, USA0, OInst, OMeth, USU. -/
import Derived.Test.YtgfdgdbkifkehaaJ2
import Derived.Deep.RegionHeld3
import Derived.Deep.RegionWith
import Derived.Laws.IdiomStrings
import Derived.BigRegion
/- Are two rows of pairs alike? (the document's own vals and binds) -/
namespace Go.Proofs.Ytgfdgdbkifkehaa
open Go.RowKit
set_option linter.unusedVariables false
set_option maxRecDepth 20000
namespace Wd
/-- k pairs are alike -/
structure EqR {T : Type} (A B : List T) (k : Nat) : Prop where
  mk ::
  eq : A.take k = B.take k
theorem EqR.start {T : Type} (A B : List T) : EqR A B 0 := ⟨by simp⟩
theorem EqR.step {T : Type} {A B : List T} {k : Nat} {x y : T} (h : EqR A B k) (hx : A[k]? = some x) (hy : B[k]? = some y) (e : x = y) : EqR A B (k + 1) := by
  refine ⟨?_⟩
  rw [take_next hx, take_next hy, h.eq, e]
theorem EqR.last {T : Type} [DecidableEq T] {A B : List T} {n : Nat} (h : EqR A B n) (ha : n = A.length) (hb : n = B.length) : decide (A = B) = true := by
  have := h.eq
  rw [ha, List.take_length, ← ha, hb, List.take_length] at this
  exact decide_eq_true this
theorem eq_not {T : Type} [DecidableEq T] {A B : List T} {k : Nat} {x y : T} (hx : A[k]? = some x) (hy : B[k]? = some y) (e : ¬ x = y) : decide (A = B) = false := by
  refine decide_eq_false (fun h => e ?_)
  subst h
  rw [hx] at hy
  exact Option.some.inj hy
theorem eq_len {T : Type} [DecidableEq T] {A B : List T} (e : ¬ A.length = B.length) : decide (A = B) = false := decide_eq_false (fun h => e (by rw [h]))
set_option maxHeartbeats 8000000 in
theorem rvals_c {w : World} {a b : Value} {A B : List (Int × Int)} (ha : PrV w a A) (hb : PrV w b B) :
    Calls Try.prog 34 #[a, b] w fun e w' => e = .returned (.bool (decide (A = B))) ∧ Below w.heap.size w w' := by
  obtain ⟨aa, ac, rfl, ha1, ha2⟩ := ha.form
  obtain ⟨ba, bc, rfl, hb1, hb2⟩ := hb.form
  have hle := len_le (Nat.le_trans ha1 ha2)
  by_cases hl : A.length = B.length
  · have hl' : ((A.length : Int) != (B.length : Int)) = false := by simp [hl]
    obtain ⟨n, hn⟩ : ∃ n, n = A.length := ⟨_, rfl⟩
    obtain ⟨m, hm⟩ : ∃ m, m = B.length := ⟨_, rfl⟩
    have hn' := Lib.hid hn
    have hm' := Lib.hid hm
    have hnm : n = m := by omega
    rw [← hn] at ha hle hl' ⊢
    rw [← hm] at hb hl' ⊢
    replace ha := Lib.hid ha
    replace hb := Lib.hid hb
    have hst := Lib.hid (EqR.start A B)
    clear hl hn hm ha1 ha2 hb1 hb2
    go_enter Try.func34, Try.ntmps34
    go_wp2
    go_loopw [13] (fun i wr => ∃ (k : Nat), k ≤ n ∧ i = .int .i64 k ∧ Hid (EqR A B k) ∧ Hid (Below w.heap.size w wr)) (fun i _ => n - (intOf i).toNat)
    case atStart => exact ⟨0, by omega, rfl, hst, Lib.hid (Below.refl _ _)⟩
    case round =>
      obtain ⟨k, hk, rfl, hE, hB⟩ := hrel
      by_cases hlt : k < n
      · have hlt' : decide ((k : Int) < (n : Int)) = true := by simp; omega
        have p0 : (0 : Int) ≤ (k : Int) := by omega
        have p1 : (k : Int) < (n : Int) := by omega
        have p2 : (k : Int) < (m : Int) := by omega
        obtain ⟨⟨x1, x2⟩, hx⟩ : ∃ x, A[k]? = some x := ⟨A[k]'(by have := hn'.out; omega), by simp⟩
        obtain ⟨⟨y1, y2⟩, hy⟩ : ∃ x, B[k]? = some x := ⟨B[k]'(by have := hm'.out; omega), by simp⟩
        obtain ⟨_, _, g, off, rfl, c0, c1⟩ := PrV.at (ha.out.up hB.out) hx
        obtain ⟨_, _, h, off2, rfl, d0, d1⟩ := PrV.at (hb.out.up hB.out) hy
        simp only at c0 c1 d0 d1
        have hxH := Lib.hid hx
        have hyH := Lib.hid hy
        have hB' := Lib.hid (hB.out.trans (((Below.refl wr.heap.size wr).drew).mono hB.out.size))
        clear hx hy hst hlt
        by_cases e1 : x1 = y1
        · by_cases e2 : x2 = y2
          · have f1 : (x1 == y1) = true := by simpa using e1
            have f2 : (x2 == y2) = true := by simpa using e2
            have hE' := Lib.hid (hE.out.step hxH.out hyH.out (by rw [e1, e2]))
            clear e1 e2
            go_upto_region 6 with fail
            refine wp_region_held_drew (S := (fun wr' => wr'.cell? ⟨g, off + k * 2, none⟩ = some (.int .i64 x1) ∧ wr'.cell? ⟨g, off + k * 2 + 1, none⟩ = some (.int .i64 x2) ∧ wr'.cell? ⟨h, off2 + k * 2, none⟩ = some (.int .i64 y1) ∧ wr'.cell? ⟨h, off2 + k * 2 + 1, none⟩ = some (.int .i64 y2))) (by kernel_rfl) ?_ (fun hHeld => ?_)
            · (try dsimp only); exact ⟨c0, c1, d0, d1⟩
            try simp only [Act.put, List.setIfInBounds_toArray, List.set_cons_zero, List.set_cons_succ]
            refine wpAnyH_take (i := 0) (oi := { dst := some 16, op := Op.move (Operand.tmp 0), type := 44, pos := "ref.go:201", after := #[], guard := none }) (v := ?_) rfl (by kernel_rfl) (by kernel_rfl) (by kernel_rfl) (fun _ _ _ h => h) (Or.inl ⟨by rfl, ?_⟩) (by assumption) ?_
            rotate_left 1
            · intro w hSw; (try dsimp only at hSw); go_simp <;> with_reducible rfl
            try simp only [Act.put, List.setIfInBounds_toArray, List.set_cons_zero, List.set_cons_succ]
            refine wpAnyH_take (i := 1) (oi := { dst := some 17, op := Op.move (Operand.tmp 5), type := 3, pos := "ref.go:201", after := #[], guard := none }) (v := ?_) rfl (by kernel_rfl) (by kernel_rfl) (by kernel_rfl) (fun _ _ _ h => h) (Or.inl ⟨by rfl, ?_⟩) (by assumption) ?_
            rotate_left 1
            · intro w hSw; (try dsimp only at hSw); go_simp <;> with_reducible rfl
            try simp only [Act.put, List.setIfInBounds_toArray, List.set_cons_zero, List.set_cons_succ]
            refine wpAnyH_take (i := 2) (oi := { dst := some 18, op := Op.indexAddr 44 (Operand.tmp 16) (Operand.tmp 17), type := 0, pos := "ref.go:201", after := #[{ on := 0, ground := Ground.data }, { on := 1, ground := Ground.data }], guard := none }) (v := ?_) rfl (by kernel_rfl) (by kernel_rfl) (by kernel_rfl) (fun _ _ _ h => h) (Or.inl ⟨by rfl, ?_⟩) (by assumption) ?_
            rotate_left 1
            · intro w hSw; (try dsimp only at hSw); go_simp <;> with_reducible rfl
            try simp only [Act.put, List.setIfInBounds_toArray, List.set_cons_zero, List.set_cons_succ]
            refine wpAnyH_take (i := 3) (oi := { dst := some 19, op := Op.load 49 (Operand.tmp 18), type := 49, pos := "ref.go:201", after := #[{ on := 2, ground := Ground.data }], guard := none }) (v := ?_) rfl (by kernel_rfl) (by kernel_rfl) (by kernel_rfl) (fun _ _ _ h => h) (Or.inl ⟨by rfl, ?_⟩) (by assumption) ?_
            rotate_left 1
            · intro w hSw; (try dsimp only at hSw); go_simp <;> with_reducible rfl
            try simp only [Act.put, List.setIfInBounds_toArray, List.set_cons_zero, List.set_cons_succ]
            refine wpAnyH_take (i := 4) (oi := { dst := some 20, op := Op.move (Operand.tmp 1), type := 44, pos := "ref.go:201", after := #[], guard := none }) (v := ?_) rfl (by kernel_rfl) (by kernel_rfl) (by kernel_rfl) (fun _ _ _ h => h) (Or.inl ⟨by rfl, ?_⟩) (by assumption) ?_
            rotate_left 1
            · intro w hSw; (try dsimp only at hSw); go_simp <;> with_reducible rfl
            try simp only [Act.put, List.setIfInBounds_toArray, List.set_cons_zero, List.set_cons_succ]
            refine wpAnyH_take (i := 5) (oi := { dst := some 21, op := Op.move (Operand.tmp 5), type := 3, pos := "ref.go:201", after := #[], guard := none }) (v := ?_) rfl (by kernel_rfl) (by kernel_rfl) (by kernel_rfl) (fun _ _ _ h => h) (Or.inl ⟨by rfl, ?_⟩) (by assumption) ?_
            rotate_left 1
            · intro w hSw; (try dsimp only at hSw); go_simp <;> with_reducible rfl
            try simp only [Act.put, List.setIfInBounds_toArray, List.set_cons_zero, List.set_cons_succ]
            refine wpAnyH_take (i := 6) (oi := { dst := some 22, op := Op.indexAddr 44 (Operand.tmp 20) (Operand.tmp 21), type := 0, pos := "ref.go:201", after := #[{ on := 4, ground := Ground.data }, { on := 5, ground := Ground.data }], guard := none }) (v := ?_) rfl (by kernel_rfl) (by kernel_rfl) (by kernel_rfl) (fun _ _ _ h => h) (Or.inl ⟨by rfl, ?_⟩) (by assumption) ?_
            rotate_left 1
            · intro w hSw; (try dsimp only at hSw); go_simp <;> with_reducible rfl
            try simp only [Act.put, List.setIfInBounds_toArray, List.set_cons_zero, List.set_cons_succ]
            refine wpAnyH_take (i := 7) (oi := { dst := some 23, op := Op.load 49 (Operand.tmp 22), type := 49, pos := "ref.go:201", after := #[{ on := 6, ground := Ground.data }], guard := none }) (v := ?_) rfl (by kernel_rfl) (by kernel_rfl) (by kernel_rfl) (fun _ _ _ h => h) (Or.inl ⟨by rfl, ?_⟩) (by assumption) ?_
            rotate_left 1
            · intro w hSw; (try dsimp only at hSw); go_simp <;> with_reducible rfl
            try simp only [Act.put, List.setIfInBounds_toArray, List.set_cons_zero, List.set_cons_succ]
            refine wpAnyH_take (i := 8) (oi := { dst := some 24, op := Op.binOp BinOp.neq 49 (Operand.tmp 19) (Operand.tmp 23) 49, type := 4, pos := "ref.go:201", after := #[{ on := 3, ground := Ground.data }, { on := 7, ground := Ground.data }], guard := none }) (v := ?_) rfl (by kernel_rfl) (by kernel_rfl) (by kernel_rfl) (fun _ _ _ h => h) (Or.inl ⟨by rfl, ?_⟩) (by assumption) ?_
            rotate_left 1
            · intro w hSw; (try dsimp only at hSw); go_simp <;> with_reducible rfl
            try simp only [Act.put, List.setIfInBounds_toArray, List.set_cons_zero, List.set_cons_succ]
            refine wpAnyH_done (by kernel_rfl) ?_ _
            go_wp2_with fail
            go_roundw
            case rel => exact ⟨k + 1, by omega, by go_num, hE', hB'⟩
            case measure => simp [intOf]; omega
          · have f1 : (x1 == y1) = true := by simpa using e1
            have f2 : (x2 == y2) = false := by simpa using e2
            have e := Lib.hid (eq_not hxH.out hyH.out (fun h => e2 (congrArg Prod.snd h)))
            clear e1 e2
            go_upto_region 6 with fail
            refine wp_region_held_drew (S := (fun wr' => wr'.cell? ⟨g, off + k * 2, none⟩ = some (.int .i64 x1) ∧ wr'.cell? ⟨g, off + k * 2 + 1, none⟩ = some (.int .i64 x2) ∧ wr'.cell? ⟨h, off2 + k * 2, none⟩ = some (.int .i64 y1) ∧ wr'.cell? ⟨h, off2 + k * 2 + 1, none⟩ = some (.int .i64 y2))) (by kernel_rfl) ?_ (fun hHeld => ?_)
            · (try dsimp only); exact ⟨c0, c1, d0, d1⟩
            try simp only [Act.put, List.setIfInBounds_toArray, List.set_cons_zero, List.set_cons_succ]
            refine wpAnyH_take (i := 0) (oi := { dst := some 16, op := Op.move (Operand.tmp 0), type := 44, pos := "ref.go:201", after := #[], guard := none }) (v := ?_) rfl (by kernel_rfl) (by kernel_rfl) (by kernel_rfl) (fun _ _ _ h => h) (Or.inl ⟨by rfl, ?_⟩) (by assumption) ?_
            rotate_left 1
            · intro w hSw; (try dsimp only at hSw); go_simp <;> with_reducible rfl
            try simp only [Act.put, List.setIfInBounds_toArray, List.set_cons_zero, List.set_cons_succ]
            refine wpAnyH_take (i := 1) (oi := { dst := some 17, op := Op.move (Operand.tmp 5), type := 3, pos := "ref.go:201", after := #[], guard := none }) (v := ?_) rfl (by kernel_rfl) (by kernel_rfl) (by kernel_rfl) (fun _ _ _ h => h) (Or.inl ⟨by rfl, ?_⟩) (by assumption) ?_
            rotate_left 1
            · intro w hSw; (try dsimp only at hSw); go_simp <;> with_reducible rfl
            try simp only [Act.put, List.setIfInBounds_toArray, List.set_cons_zero, List.set_cons_succ]
            refine wpAnyH_take (i := 2) (oi := { dst := some 18, op := Op.indexAddr 44 (Operand.tmp 16) (Operand.tmp 17), type := 0, pos := "ref.go:201", after := #[{ on := 0, ground := Ground.data }, { on := 1, ground := Ground.data }], guard := none }) (v := ?_) rfl (by kernel_rfl) (by kernel_rfl) (by kernel_rfl) (fun _ _ _ h => h) (Or.inl ⟨by rfl, ?_⟩) (by assumption) ?_
            rotate_left 1
            · intro w hSw; (try dsimp only at hSw); go_simp <;> with_reducible rfl
            try simp only [Act.put, List.setIfInBounds_toArray, List.set_cons_zero, List.set_cons_succ]
            refine wpAnyH_take (i := 3) (oi := { dst := some 19, op := Op.load 49 (Operand.tmp 18), type := 49, pos := "ref.go:201", after := #[{ on := 2, ground := Ground.data }], guard := none }) (v := ?_) rfl (by kernel_rfl) (by kernel_rfl) (by kernel_rfl) (fun _ _ _ h => h) (Or.inl ⟨by rfl, ?_⟩) (by assumption) ?_
            rotate_left 1
            · intro w hSw; (try dsimp only at hSw); go_simp <;> with_reducible rfl
            try simp only [Act.put, List.setIfInBounds_toArray, List.set_cons_zero, List.set_cons_succ]
            refine wpAnyH_take (i := 4) (oi := { dst := some 20, op := Op.move (Operand.tmp 1), type := 44, pos := "ref.go:201", after := #[], guard := none }) (v := ?_) rfl (by kernel_rfl) (by kernel_rfl) (by kernel_rfl) (fun _ _ _ h => h) (Or.inl ⟨by rfl, ?_⟩) (by assumption) ?_
            rotate_left 1
            · intro w hSw; (try dsimp only at hSw); go_simp <;> with_reducible rfl
            try simp only [Act.put, List.setIfInBounds_toArray, List.set_cons_zero, List.set_cons_succ]
            refine wpAnyH_take (i := 5) (oi := { dst := some 21, op := Op.move (Operand.tmp 5), type := 3, pos := "ref.go:201", after := #[], guard := none }) (v := ?_) rfl (by kernel_rfl) (by kernel_rfl) (by kernel_rfl) (fun _ _ _ h => h) (Or.inl ⟨by rfl, ?_⟩) (by assumption) ?_
            rotate_left 1
            · intro w hSw; (try dsimp only at hSw); go_simp <;> with_reducible rfl
            try simp only [Act.put, List.setIfInBounds_toArray, List.set_cons_zero, List.set_cons_succ]
            refine wpAnyH_take (i := 6) (oi := { dst := some 22, op := Op.indexAddr 44 (Operand.tmp 20) (Operand.tmp 21), type := 0, pos := "ref.go:201", after := #[{ on := 4, ground := Ground.data }, { on := 5, ground := Ground.data }], guard := none }) (v := ?_) rfl (by kernel_rfl) (by kernel_rfl) (by kernel_rfl) (fun _ _ _ h => h) (Or.inl ⟨by rfl, ?_⟩) (by assumption) ?_
            rotate_left 1
            · intro w hSw; (try dsimp only at hSw); go_simp <;> with_reducible rfl
            try simp only [Act.put, List.setIfInBounds_toArray, List.set_cons_zero, List.set_cons_succ]
            refine wpAnyH_take (i := 7) (oi := { dst := some 23, op := Op.load 49 (Operand.tmp 22), type := 49, pos := "ref.go:201", after := #[{ on := 6, ground := Ground.data }], guard := none }) (v := ?_) rfl (by kernel_rfl) (by kernel_rfl) (by kernel_rfl) (fun _ _ _ h => h) (Or.inl ⟨by rfl, ?_⟩) (by assumption) ?_
            rotate_left 1
            · intro w hSw; (try dsimp only at hSw); go_simp <;> with_reducible rfl
            try simp only [Act.put, List.setIfInBounds_toArray, List.set_cons_zero, List.set_cons_succ]
            refine wpAnyH_take (i := 8) (oi := { dst := some 24, op := Op.binOp BinOp.neq 49 (Operand.tmp 19) (Operand.tmp 23) 49, type := 4, pos := "ref.go:201", after := #[{ on := 3, ground := Ground.data }, { on := 7, ground := Ground.data }], guard := none }) (v := ?_) rfl (by kernel_rfl) (by kernel_rfl) (by kernel_rfl) (fun _ _ _ h => h) (Or.inl ⟨by rfl, ?_⟩) (by assumption) ?_
            rotate_left 1
            · intro w hSw; (try dsimp only at hSw); go_simp <;> with_reducible rfl
            try simp only [Act.put, List.setIfInBounds_toArray, List.set_cons_zero, List.set_cons_succ]
            refine wpAnyH_done (by kernel_rfl) ?_ _
            go_wp2_with fail
            go_ret
            exact ⟨congrArg (fun b => Ending.returned (Value.bool b)) e.out.symm, hB'.out⟩
        · have f1 : (x1 == y1) = false := by simpa using e1
          have e := Lib.hid (eq_not hxH.out hyH.out (fun h => e1 (congrArg Prod.fst h)))
          clear e1
          go_upto_region 6 with fail
          refine wp_region_held_drew (S := (fun wr' => wr'.cell? ⟨g, off + k * 2, none⟩ = some (.int .i64 x1) ∧ wr'.cell? ⟨g, off + k * 2 + 1, none⟩ = some (.int .i64 x2) ∧ wr'.cell? ⟨h, off2 + k * 2, none⟩ = some (.int .i64 y1) ∧ wr'.cell? ⟨h, off2 + k * 2 + 1, none⟩ = some (.int .i64 y2))) (by kernel_rfl) ?_ (fun hHeld => ?_)
          · (try dsimp only); exact ⟨c0, c1, d0, d1⟩
          try simp only [Act.put, List.setIfInBounds_toArray, List.set_cons_zero, List.set_cons_succ]
          refine wpAnyH_take (i := 0) (oi := { dst := some 16, op := Op.move (Operand.tmp 0), type := 44, pos := "ref.go:201", after := #[], guard := none }) (v := ?_) rfl (by kernel_rfl) (by kernel_rfl) (by kernel_rfl) (fun _ _ _ h => h) (Or.inl ⟨by rfl, ?_⟩) (by assumption) ?_
          rotate_left 1
          · intro w hSw; (try dsimp only at hSw); go_simp <;> with_reducible rfl
          try simp only [Act.put, List.setIfInBounds_toArray, List.set_cons_zero, List.set_cons_succ]
          refine wpAnyH_take (i := 1) (oi := { dst := some 17, op := Op.move (Operand.tmp 5), type := 3, pos := "ref.go:201", after := #[], guard := none }) (v := ?_) rfl (by kernel_rfl) (by kernel_rfl) (by kernel_rfl) (fun _ _ _ h => h) (Or.inl ⟨by rfl, ?_⟩) (by assumption) ?_
          rotate_left 1
          · intro w hSw; (try dsimp only at hSw); go_simp <;> with_reducible rfl
          try simp only [Act.put, List.setIfInBounds_toArray, List.set_cons_zero, List.set_cons_succ]
          refine wpAnyH_take (i := 2) (oi := { dst := some 18, op := Op.indexAddr 44 (Operand.tmp 16) (Operand.tmp 17), type := 0, pos := "ref.go:201", after := #[{ on := 0, ground := Ground.data }, { on := 1, ground := Ground.data }], guard := none }) (v := ?_) rfl (by kernel_rfl) (by kernel_rfl) (by kernel_rfl) (fun _ _ _ h => h) (Or.inl ⟨by rfl, ?_⟩) (by assumption) ?_
          rotate_left 1
          · intro w hSw; (try dsimp only at hSw); go_simp <;> with_reducible rfl
          try simp only [Act.put, List.setIfInBounds_toArray, List.set_cons_zero, List.set_cons_succ]
          refine wpAnyH_take (i := 3) (oi := { dst := some 19, op := Op.load 49 (Operand.tmp 18), type := 49, pos := "ref.go:201", after := #[{ on := 2, ground := Ground.data }], guard := none }) (v := ?_) rfl (by kernel_rfl) (by kernel_rfl) (by kernel_rfl) (fun _ _ _ h => h) (Or.inl ⟨by rfl, ?_⟩) (by assumption) ?_
          rotate_left 1
          · intro w hSw; (try dsimp only at hSw); go_simp <;> with_reducible rfl
          try simp only [Act.put, List.setIfInBounds_toArray, List.set_cons_zero, List.set_cons_succ]
          refine wpAnyH_take (i := 4) (oi := { dst := some 20, op := Op.move (Operand.tmp 1), type := 44, pos := "ref.go:201", after := #[], guard := none }) (v := ?_) rfl (by kernel_rfl) (by kernel_rfl) (by kernel_rfl) (fun _ _ _ h => h) (Or.inl ⟨by rfl, ?_⟩) (by assumption) ?_
          rotate_left 1
          · intro w hSw; (try dsimp only at hSw); go_simp <;> with_reducible rfl
          try simp only [Act.put, List.setIfInBounds_toArray, List.set_cons_zero, List.set_cons_succ]
          refine wpAnyH_take (i := 5) (oi := { dst := some 21, op := Op.move (Operand.tmp 5), type := 3, pos := "ref.go:201", after := #[], guard := none }) (v := ?_) rfl (by kernel_rfl) (by kernel_rfl) (by kernel_rfl) (fun _ _ _ h => h) (Or.inl ⟨by rfl, ?_⟩) (by assumption) ?_
          rotate_left 1
          · intro w hSw; (try dsimp only at hSw); go_simp <;> with_reducible rfl
          try simp only [Act.put, List.setIfInBounds_toArray, List.set_cons_zero, List.set_cons_succ]
          refine wpAnyH_take (i := 6) (oi := { dst := some 22, op := Op.indexAddr 44 (Operand.tmp 20) (Operand.tmp 21), type := 0, pos := "ref.go:201", after := #[{ on := 4, ground := Ground.data }, { on := 5, ground := Ground.data }], guard := none }) (v := ?_) rfl (by kernel_rfl) (by kernel_rfl) (by kernel_rfl) (fun _ _ _ h => h) (Or.inl ⟨by rfl, ?_⟩) (by assumption) ?_
          rotate_left 1
          · intro w hSw; (try dsimp only at hSw); go_simp <;> with_reducible rfl
          try simp only [Act.put, List.setIfInBounds_toArray, List.set_cons_zero, List.set_cons_succ]
          refine wpAnyH_take (i := 7) (oi := { dst := some 23, op := Op.load 49 (Operand.tmp 22), type := 49, pos := "ref.go:201", after := #[{ on := 6, ground := Ground.data }], guard := none }) (v := ?_) rfl (by kernel_rfl) (by kernel_rfl) (by kernel_rfl) (fun _ _ _ h => h) (Or.inl ⟨by rfl, ?_⟩) (by assumption) ?_
          rotate_left 1
          · intro w hSw; (try dsimp only at hSw); go_simp <;> with_reducible rfl
          try simp only [Act.put, List.setIfInBounds_toArray, List.set_cons_zero, List.set_cons_succ]
          refine wpAnyH_take (i := 8) (oi := { dst := some 24, op := Op.binOp BinOp.neq 49 (Operand.tmp 19) (Operand.tmp 23) 49, type := 4, pos := "ref.go:201", after := #[{ on := 3, ground := Ground.data }, { on := 7, ground := Ground.data }], guard := none }) (v := ?_) rfl (by kernel_rfl) (by kernel_rfl) (by kernel_rfl) (fun _ _ _ h => h) (Or.inl ⟨by rfl, ?_⟩) (by assumption) ?_
          rotate_left 1
          · intro w hSw; (try dsimp only at hSw); go_simp <;> with_reducible rfl
          try simp only [Act.put, List.setIfInBounds_toArray, List.set_cons_zero, List.set_cons_succ]
          refine wpAnyH_done (by kernel_rfl) ?_ _
          go_wp2_with fail
          go_ret
          exact ⟨congrArg (fun b => Ending.returned (Value.bool b)) e.out.symm, hB'.out⟩
      · have e := Lib.hid (EqR.last (A := A) (B := B) (n := n) (by have := hE.out; rw [show k = n by omega] at this; exact this) hn'.out (by rw [hnm]; exact hm'.out))
        have hlt' : decide ((k : Int) < (n : Int)) = false := by simp; omega
        go_wp2
        go_ret
        exact ⟨congrArg (fun b => Ending.returned (Value.bool b)) e.out.symm, hB.out⟩
  · have hl' : ((A.length : Int) != (B.length : Int)) = true := by simp; omega
    have e := Lib.hid (eq_len hl)
    clear hl
    go_enter Try.func34, Try.ntmps34
    go_wp2
    go_ret
    exact ⟨congrArg (fun b => Ending.returned (Value.bool b)) e.out.symm, Below.refl _ _⟩
set_option maxHeartbeats 8000000 in
theorem rbinds_c {w : World} {a b : Value} {A B : List (Int × Int)} (ha : PrV w a A) (hb : PrV w b B) :
    Calls Try.prog 32 #[a, b] w fun e w' => e = .returned (.bool (decide (A = B))) ∧ Below w.heap.size w w' := by
  obtain ⟨aa, ac, rfl, ha1, ha2⟩ := ha.form
  obtain ⟨ba, bc, rfl, hb1, hb2⟩ := hb.form
  have hle := len_le (Nat.le_trans ha1 ha2)
  by_cases hl : A.length = B.length
  · have hl' : ((A.length : Int) != (B.length : Int)) = false := by simp [hl]
    obtain ⟨n, hn⟩ : ∃ n, n = A.length := ⟨_, rfl⟩
    obtain ⟨m, hm⟩ : ∃ m, m = B.length := ⟨_, rfl⟩
    have hn' := Lib.hid hn
    have hm' := Lib.hid hm
    have hnm : n = m := by omega
    rw [← hn] at ha hle hl' ⊢
    rw [← hm] at hb hl' ⊢
    replace ha := Lib.hid ha
    replace hb := Lib.hid hb
    have hst := Lib.hid (EqR.start A B)
    clear hl hn hm ha1 ha2 hb1 hb2
    go_enter Try.func32, Try.ntmps32
    go_wp2
    go_loopw [13] (fun i wr => ∃ (k : Nat), k ≤ n ∧ i = .int .i64 k ∧ Hid (EqR A B k) ∧ Hid (Below w.heap.size w wr)) (fun i _ => n - (intOf i).toNat)
    case atStart => exact ⟨0, by omega, rfl, hst, Lib.hid (Below.refl _ _)⟩
    case round =>
      obtain ⟨k, hk, rfl, hE, hB⟩ := hrel
      by_cases hlt : k < n
      · have hlt' : decide ((k : Int) < (n : Int)) = true := by simp; omega
        have p0 : (0 : Int) ≤ (k : Int) := by omega
        have p1 : (k : Int) < (n : Int) := by omega
        have p2 : (k : Int) < (m : Int) := by omega
        obtain ⟨⟨x1, x2⟩, hx⟩ : ∃ x, A[k]? = some x := ⟨A[k]'(by have := hn'.out; omega), by simp⟩
        obtain ⟨⟨y1, y2⟩, hy⟩ : ∃ x, B[k]? = some x := ⟨B[k]'(by have := hm'.out; omega), by simp⟩
        obtain ⟨_, _, g, off, rfl, c0, c1⟩ := PrV.at (ha.out.up hB.out) hx
        obtain ⟨_, _, h, off2, rfl, d0, d1⟩ := PrV.at (hb.out.up hB.out) hy
        simp only at c0 c1 d0 d1
        have hxH := Lib.hid hx
        have hyH := Lib.hid hy
        have hB' := Lib.hid (hB.out.trans (((Below.refl wr.heap.size wr).drew).mono hB.out.size))
        clear hx hy hst hlt
        by_cases e1 : x1 = y1
        · by_cases e2 : x2 = y2
          · have f1 : (x1 == y1) = true := by simpa using e1
            have f2 : (x2 == y2) = true := by simpa using e2
            have hE' := Lib.hid (hE.out.step hxH.out hyH.out (by rw [e1, e2]))
            clear e1 e2
            go_upto_region 6 with fail
            refine wp_region_held_drew (S := (fun wr' => wr'.cell? ⟨g, off + k * 2, none⟩ = some (.int .i64 x1) ∧ wr'.cell? ⟨g, off + k * 2 + 1, none⟩ = some (.int .i64 x2) ∧ wr'.cell? ⟨h, off2 + k * 2, none⟩ = some (.int .i64 y1) ∧ wr'.cell? ⟨h, off2 + k * 2 + 1, none⟩ = some (.int .i64 y2))) (by kernel_rfl) ?_ (fun hHeld => ?_)
            · (try dsimp only); exact ⟨c0, c1, d0, d1⟩
            try simp only [Act.put, List.setIfInBounds_toArray, List.set_cons_zero, List.set_cons_succ]
            refine wpAnyH_take (i := 0) (oi := { dst := some 16, op := Op.move (Operand.tmp 0), type := 35, pos := "ref.go:213", after := #[], guard := none }) (v := ?_) rfl (by kernel_rfl) (by kernel_rfl) (by kernel_rfl) (fun _ _ _ h => h) (Or.inl ⟨by rfl, ?_⟩) (by assumption) ?_
            rotate_left 1
            · intro w hSw; (try dsimp only at hSw); go_simp <;> with_reducible rfl
            try simp only [Act.put, List.setIfInBounds_toArray, List.set_cons_zero, List.set_cons_succ]
            refine wpAnyH_take (i := 1) (oi := { dst := some 17, op := Op.move (Operand.tmp 5), type := 3, pos := "ref.go:213", after := #[], guard := none }) (v := ?_) rfl (by kernel_rfl) (by kernel_rfl) (by kernel_rfl) (fun _ _ _ h => h) (Or.inl ⟨by rfl, ?_⟩) (by assumption) ?_
            rotate_left 1
            · intro w hSw; (try dsimp only at hSw); go_simp <;> with_reducible rfl
            try simp only [Act.put, List.setIfInBounds_toArray, List.set_cons_zero, List.set_cons_succ]
            refine wpAnyH_take (i := 2) (oi := { dst := some 18, op := Op.indexAddr 35 (Operand.tmp 16) (Operand.tmp 17), type := 0, pos := "ref.go:213", after := #[{ on := 0, ground := Ground.data }, { on := 1, ground := Ground.data }], guard := none }) (v := ?_) rfl (by kernel_rfl) (by kernel_rfl) (by kernel_rfl) (fun _ _ _ h => h) (Or.inl ⟨by rfl, ?_⟩) (by assumption) ?_
            rotate_left 1
            · intro w hSw; (try dsimp only at hSw); go_simp <;> with_reducible rfl
            try simp only [Act.put, List.setIfInBounds_toArray, List.set_cons_zero, List.set_cons_succ]
            refine wpAnyH_take (i := 3) (oi := { dst := some 19, op := Op.load 39 (Operand.tmp 18), type := 39, pos := "ref.go:213", after := #[{ on := 2, ground := Ground.data }], guard := none }) (v := ?_) rfl (by kernel_rfl) (by kernel_rfl) (by kernel_rfl) (fun _ _ _ h => h) (Or.inl ⟨by rfl, ?_⟩) (by assumption) ?_
            rotate_left 1
            · intro w hSw; (try dsimp only at hSw); go_simp <;> with_reducible rfl
            try simp only [Act.put, List.setIfInBounds_toArray, List.set_cons_zero, List.set_cons_succ]
            refine wpAnyH_take (i := 4) (oi := { dst := some 20, op := Op.move (Operand.tmp 1), type := 35, pos := "ref.go:213", after := #[], guard := none }) (v := ?_) rfl (by kernel_rfl) (by kernel_rfl) (by kernel_rfl) (fun _ _ _ h => h) (Or.inl ⟨by rfl, ?_⟩) (by assumption) ?_
            rotate_left 1
            · intro w hSw; (try dsimp only at hSw); go_simp <;> with_reducible rfl
            try simp only [Act.put, List.setIfInBounds_toArray, List.set_cons_zero, List.set_cons_succ]
            refine wpAnyH_take (i := 5) (oi := { dst := some 21, op := Op.move (Operand.tmp 5), type := 3, pos := "ref.go:213", after := #[], guard := none }) (v := ?_) rfl (by kernel_rfl) (by kernel_rfl) (by kernel_rfl) (fun _ _ _ h => h) (Or.inl ⟨by rfl, ?_⟩) (by assumption) ?_
            rotate_left 1
            · intro w hSw; (try dsimp only at hSw); go_simp <;> with_reducible rfl
            try simp only [Act.put, List.setIfInBounds_toArray, List.set_cons_zero, List.set_cons_succ]
            refine wpAnyH_take (i := 6) (oi := { dst := some 22, op := Op.indexAddr 35 (Operand.tmp 20) (Operand.tmp 21), type := 0, pos := "ref.go:213", after := #[{ on := 4, ground := Ground.data }, { on := 5, ground := Ground.data }], guard := none }) (v := ?_) rfl (by kernel_rfl) (by kernel_rfl) (by kernel_rfl) (fun _ _ _ h => h) (Or.inl ⟨by rfl, ?_⟩) (by assumption) ?_
            rotate_left 1
            · intro w hSw; (try dsimp only at hSw); go_simp <;> with_reducible rfl
            try simp only [Act.put, List.setIfInBounds_toArray, List.set_cons_zero, List.set_cons_succ]
            refine wpAnyH_take (i := 7) (oi := { dst := some 23, op := Op.load 39 (Operand.tmp 22), type := 39, pos := "ref.go:213", after := #[{ on := 6, ground := Ground.data }], guard := none }) (v := ?_) rfl (by kernel_rfl) (by kernel_rfl) (by kernel_rfl) (fun _ _ _ h => h) (Or.inl ⟨by rfl, ?_⟩) (by assumption) ?_
            rotate_left 1
            · intro w hSw; (try dsimp only at hSw); go_simp <;> with_reducible rfl
            try simp only [Act.put, List.setIfInBounds_toArray, List.set_cons_zero, List.set_cons_succ]
            refine wpAnyH_take (i := 8) (oi := { dst := some 24, op := Op.binOp BinOp.neq 39 (Operand.tmp 19) (Operand.tmp 23) 39, type := 4, pos := "ref.go:213", after := #[{ on := 3, ground := Ground.data }, { on := 7, ground := Ground.data }], guard := none }) (v := ?_) rfl (by kernel_rfl) (by kernel_rfl) (by kernel_rfl) (fun _ _ _ h => h) (Or.inl ⟨by rfl, ?_⟩) (by assumption) ?_
            rotate_left 1
            · intro w hSw; (try dsimp only at hSw); go_simp <;> with_reducible rfl
            try simp only [Act.put, List.setIfInBounds_toArray, List.set_cons_zero, List.set_cons_succ]
            refine wpAnyH_done (by kernel_rfl) ?_ _
            go_wp2_with fail
            go_roundw
            case rel => exact ⟨k + 1, by omega, by go_num, hE', hB'⟩
            case measure => simp [intOf]; omega
          · have f1 : (x1 == y1) = true := by simpa using e1
            have f2 : (x2 == y2) = false := by simpa using e2
            have e := Lib.hid (eq_not hxH.out hyH.out (fun h => e2 (congrArg Prod.snd h)))
            clear e1 e2
            go_upto_region 6 with fail
            refine wp_region_held_drew (S := (fun wr' => wr'.cell? ⟨g, off + k * 2, none⟩ = some (.int .i64 x1) ∧ wr'.cell? ⟨g, off + k * 2 + 1, none⟩ = some (.int .i64 x2) ∧ wr'.cell? ⟨h, off2 + k * 2, none⟩ = some (.int .i64 y1) ∧ wr'.cell? ⟨h, off2 + k * 2 + 1, none⟩ = some (.int .i64 y2))) (by kernel_rfl) ?_ (fun hHeld => ?_)
            · (try dsimp only); exact ⟨c0, c1, d0, d1⟩
            try simp only [Act.put, List.setIfInBounds_toArray, List.set_cons_zero, List.set_cons_succ]
            refine wpAnyH_take (i := 0) (oi := { dst := some 16, op := Op.move (Operand.tmp 0), type := 35, pos := "ref.go:213", after := #[], guard := none }) (v := ?_) rfl (by kernel_rfl) (by kernel_rfl) (by kernel_rfl) (fun _ _ _ h => h) (Or.inl ⟨by rfl, ?_⟩) (by assumption) ?_
            rotate_left 1
            · intro w hSw; (try dsimp only at hSw); go_simp <;> with_reducible rfl
            try simp only [Act.put, List.setIfInBounds_toArray, List.set_cons_zero, List.set_cons_succ]
            refine wpAnyH_take (i := 1) (oi := { dst := some 17, op := Op.move (Operand.tmp 5), type := 3, pos := "ref.go:213", after := #[], guard := none }) (v := ?_) rfl (by kernel_rfl) (by kernel_rfl) (by kernel_rfl) (fun _ _ _ h => h) (Or.inl ⟨by rfl, ?_⟩) (by assumption) ?_
            rotate_left 1
            · intro w hSw; (try dsimp only at hSw); go_simp <;> with_reducible rfl
            try simp only [Act.put, List.setIfInBounds_toArray, List.set_cons_zero, List.set_cons_succ]
            refine wpAnyH_take (i := 2) (oi := { dst := some 18, op := Op.indexAddr 35 (Operand.tmp 16) (Operand.tmp 17), type := 0, pos := "ref.go:213", after := #[{ on := 0, ground := Ground.data }, { on := 1, ground := Ground.data }], guard := none }) (v := ?_) rfl (by kernel_rfl) (by kernel_rfl) (by kernel_rfl) (fun _ _ _ h => h) (Or.inl ⟨by rfl, ?_⟩) (by assumption) ?_
            rotate_left 1
            · intro w hSw; (try dsimp only at hSw); go_simp <;> with_reducible rfl
            try simp only [Act.put, List.setIfInBounds_toArray, List.set_cons_zero, List.set_cons_succ]
            refine wpAnyH_take (i := 3) (oi := { dst := some 19, op := Op.load 39 (Operand.tmp 18), type := 39, pos := "ref.go:213", after := #[{ on := 2, ground := Ground.data }], guard := none }) (v := ?_) rfl (by kernel_rfl) (by kernel_rfl) (by kernel_rfl) (fun _ _ _ h => h) (Or.inl ⟨by rfl, ?_⟩) (by assumption) ?_
            rotate_left 1
            · intro w hSw; (try dsimp only at hSw); go_simp <;> with_reducible rfl
            try simp only [Act.put, List.setIfInBounds_toArray, List.set_cons_zero, List.set_cons_succ]
            refine wpAnyH_take (i := 4) (oi := { dst := some 20, op := Op.move (Operand.tmp 1), type := 35, pos := "ref.go:213", after := #[], guard := none }) (v := ?_) rfl (by kernel_rfl) (by kernel_rfl) (by kernel_rfl) (fun _ _ _ h => h) (Or.inl ⟨by rfl, ?_⟩) (by assumption) ?_
            rotate_left 1
            · intro w hSw; (try dsimp only at hSw); go_simp <;> with_reducible rfl
            try simp only [Act.put, List.setIfInBounds_toArray, List.set_cons_zero, List.set_cons_succ]
            refine wpAnyH_take (i := 5) (oi := { dst := some 21, op := Op.move (Operand.tmp 5), type := 3, pos := "ref.go:213", after := #[], guard := none }) (v := ?_) rfl (by kernel_rfl) (by kernel_rfl) (by kernel_rfl) (fun _ _ _ h => h) (Or.inl ⟨by rfl, ?_⟩) (by assumption) ?_
            rotate_left 1
            · intro w hSw; (try dsimp only at hSw); go_simp <;> with_reducible rfl
            try simp only [Act.put, List.setIfInBounds_toArray, List.set_cons_zero, List.set_cons_succ]
            refine wpAnyH_take (i := 6) (oi := { dst := some 22, op := Op.indexAddr 35 (Operand.tmp 20) (Operand.tmp 21), type := 0, pos := "ref.go:213", after := #[{ on := 4, ground := Ground.data }, { on := 5, ground := Ground.data }], guard := none }) (v := ?_) rfl (by kernel_rfl) (by kernel_rfl) (by kernel_rfl) (fun _ _ _ h => h) (Or.inl ⟨by rfl, ?_⟩) (by assumption) ?_
            rotate_left 1
            · intro w hSw; (try dsimp only at hSw); go_simp <;> with_reducible rfl
            try simp only [Act.put, List.setIfInBounds_toArray, List.set_cons_zero, List.set_cons_succ]
            refine wpAnyH_take (i := 7) (oi := { dst := some 23, op := Op.load 39 (Operand.tmp 22), type := 39, pos := "ref.go:213", after := #[{ on := 6, ground := Ground.data }], guard := none }) (v := ?_) rfl (by kernel_rfl) (by kernel_rfl) (by kernel_rfl) (fun _ _ _ h => h) (Or.inl ⟨by rfl, ?_⟩) (by assumption) ?_
            rotate_left 1
            · intro w hSw; (try dsimp only at hSw); go_simp <;> with_reducible rfl
            try simp only [Act.put, List.setIfInBounds_toArray, List.set_cons_zero, List.set_cons_succ]
            refine wpAnyH_take (i := 8) (oi := { dst := some 24, op := Op.binOp BinOp.neq 39 (Operand.tmp 19) (Operand.tmp 23) 39, type := 4, pos := "ref.go:213", after := #[{ on := 3, ground := Ground.data }, { on := 7, ground := Ground.data }], guard := none }) (v := ?_) rfl (by kernel_rfl) (by kernel_rfl) (by kernel_rfl) (fun _ _ _ h => h) (Or.inl ⟨by rfl, ?_⟩) (by assumption) ?_
            rotate_left 1
            · intro w hSw; (try dsimp only at hSw); go_simp <;> with_reducible rfl
            try simp only [Act.put, List.setIfInBounds_toArray, List.set_cons_zero, List.set_cons_succ]
            refine wpAnyH_done (by kernel_rfl) ?_ _
            go_wp2_with fail
            go_ret
            exact ⟨congrArg (fun b => Ending.returned (Value.bool b)) e.out.symm, hB'.out⟩
        · have f1 : (x1 == y1) = false := by simpa using e1
          have e := Lib.hid (eq_not hxH.out hyH.out (fun h => e1 (congrArg Prod.fst h)))
          clear e1
          go_upto_region 6 with fail
          refine wp_region_held_drew (S := (fun wr' => wr'.cell? ⟨g, off + k * 2, none⟩ = some (.int .i64 x1) ∧ wr'.cell? ⟨g, off + k * 2 + 1, none⟩ = some (.int .i64 x2) ∧ wr'.cell? ⟨h, off2 + k * 2, none⟩ = some (.int .i64 y1) ∧ wr'.cell? ⟨h, off2 + k * 2 + 1, none⟩ = some (.int .i64 y2))) (by kernel_rfl) ?_ (fun hHeld => ?_)
          · (try dsimp only); exact ⟨c0, c1, d0, d1⟩
          try simp only [Act.put, List.setIfInBounds_toArray, List.set_cons_zero, List.set_cons_succ]
          refine wpAnyH_take (i := 0) (oi := { dst := some 16, op := Op.move (Operand.tmp 0), type := 35, pos := "ref.go:213", after := #[], guard := none }) (v := ?_) rfl (by kernel_rfl) (by kernel_rfl) (by kernel_rfl) (fun _ _ _ h => h) (Or.inl ⟨by rfl, ?_⟩) (by assumption) ?_
          rotate_left 1
          · intro w hSw; (try dsimp only at hSw); go_simp <;> with_reducible rfl
          try simp only [Act.put, List.setIfInBounds_toArray, List.set_cons_zero, List.set_cons_succ]
          refine wpAnyH_take (i := 1) (oi := { dst := some 17, op := Op.move (Operand.tmp 5), type := 3, pos := "ref.go:213", after := #[], guard := none }) (v := ?_) rfl (by kernel_rfl) (by kernel_rfl) (by kernel_rfl) (fun _ _ _ h => h) (Or.inl ⟨by rfl, ?_⟩) (by assumption) ?_
          rotate_left 1
          · intro w hSw; (try dsimp only at hSw); go_simp <;> with_reducible rfl
          try simp only [Act.put, List.setIfInBounds_toArray, List.set_cons_zero, List.set_cons_succ]
          refine wpAnyH_take (i := 2) (oi := { dst := some 18, op := Op.indexAddr 35 (Operand.tmp 16) (Operand.tmp 17), type := 0, pos := "ref.go:213", after := #[{ on := 0, ground := Ground.data }, { on := 1, ground := Ground.data }], guard := none }) (v := ?_) rfl (by kernel_rfl) (by kernel_rfl) (by kernel_rfl) (fun _ _ _ h => h) (Or.inl ⟨by rfl, ?_⟩) (by assumption) ?_
          rotate_left 1
          · intro w hSw; (try dsimp only at hSw); go_simp <;> with_reducible rfl
          try simp only [Act.put, List.setIfInBounds_toArray, List.set_cons_zero, List.set_cons_succ]
          refine wpAnyH_take (i := 3) (oi := { dst := some 19, op := Op.load 39 (Operand.tmp 18), type := 39, pos := "ref.go:213", after := #[{ on := 2, ground := Ground.data }], guard := none }) (v := ?_) rfl (by kernel_rfl) (by kernel_rfl) (by kernel_rfl) (fun _ _ _ h => h) (Or.inl ⟨by rfl, ?_⟩) (by assumption) ?_
          rotate_left 1
          · intro w hSw; (try dsimp only at hSw); go_simp <;> with_reducible rfl
          try simp only [Act.put, List.setIfInBounds_toArray, List.set_cons_zero, List.set_cons_succ]
          refine wpAnyH_take (i := 4) (oi := { dst := some 20, op := Op.move (Operand.tmp 1), type := 35, pos := "ref.go:213", after := #[], guard := none }) (v := ?_) rfl (by kernel_rfl) (by kernel_rfl) (by kernel_rfl) (fun _ _ _ h => h) (Or.inl ⟨by rfl, ?_⟩) (by assumption) ?_
          rotate_left 1
          · intro w hSw; (try dsimp only at hSw); go_simp <;> with_reducible rfl
          try simp only [Act.put, List.setIfInBounds_toArray, List.set_cons_zero, List.set_cons_succ]
          refine wpAnyH_take (i := 5) (oi := { dst := some 21, op := Op.move (Operand.tmp 5), type := 3, pos := "ref.go:213", after := #[], guard := none }) (v := ?_) rfl (by kernel_rfl) (by kernel_rfl) (by kernel_rfl) (fun _ _ _ h => h) (Or.inl ⟨by rfl, ?_⟩) (by assumption) ?_
          rotate_left 1
          · intro w hSw; (try dsimp only at hSw); go_simp <;> with_reducible rfl
          try simp only [Act.put, List.setIfInBounds_toArray, List.set_cons_zero, List.set_cons_succ]
          refine wpAnyH_take (i := 6) (oi := { dst := some 22, op := Op.indexAddr 35 (Operand.tmp 20) (Operand.tmp 21), type := 0, pos := "ref.go:213", after := #[{ on := 4, ground := Ground.data }, { on := 5, ground := Ground.data }], guard := none }) (v := ?_) rfl (by kernel_rfl) (by kernel_rfl) (by kernel_rfl) (fun _ _ _ h => h) (Or.inl ⟨by rfl, ?_⟩) (by assumption) ?_
          rotate_left 1
          · intro w hSw; (try dsimp only at hSw); go_simp <;> with_reducible rfl
          try simp only [Act.put, List.setIfInBounds_toArray, List.set_cons_zero, List.set_cons_succ]
          refine wpAnyH_take (i := 7) (oi := { dst := some 23, op := Op.load 39 (Operand.tmp 22), type := 39, pos := "ref.go:213", after := #[{ on := 6, ground := Ground.data }], guard := none }) (v := ?_) rfl (by kernel_rfl) (by kernel_rfl) (by kernel_rfl) (fun _ _ _ h => h) (Or.inl ⟨by rfl, ?_⟩) (by assumption) ?_
          rotate_left 1
          · intro w hSw; (try dsimp only at hSw); go_simp <;> with_reducible rfl
          try simp only [Act.put, List.setIfInBounds_toArray, List.set_cons_zero, List.set_cons_succ]
          refine wpAnyH_take (i := 8) (oi := { dst := some 24, op := Op.binOp BinOp.neq 39 (Operand.tmp 19) (Operand.tmp 23) 39, type := 4, pos := "ref.go:213", after := #[{ on := 3, ground := Ground.data }, { on := 7, ground := Ground.data }], guard := none }) (v := ?_) rfl (by kernel_rfl) (by kernel_rfl) (by kernel_rfl) (fun _ _ _ h => h) (Or.inl ⟨by rfl, ?_⟩) (by assumption) ?_
          rotate_left 1
          · intro w hSw; (try dsimp only at hSw); go_simp <;> with_reducible rfl
          try simp only [Act.put, List.setIfInBounds_toArray, List.set_cons_zero, List.set_cons_succ]
          refine wpAnyH_done (by kernel_rfl) ?_ _
          go_wp2_with fail
          go_ret
          exact ⟨congrArg (fun b => Ending.returned (Value.bool b)) e.out.symm, hB'.out⟩
      · have e := Lib.hid (EqR.last (A := A) (B := B) (n := n) (by have := hE.out; rw [show k = n by omega] at this; exact this) hn'.out (by rw [hnm]; exact hm'.out))
        have hlt' : decide ((k : Int) < (n : Int)) = false := by simp; omega
        go_wp2
        go_ret
        exact ⟨congrArg (fun b => Ending.returned (Value.bool b)) e.out.symm, hB.out⟩
  · have hl' : ((A.length : Int) != (B.length : Int)) = true := by simp; omega
    have e := Lib.hid (eq_len hl)
    clear hl
    go_enter Try.func32, Try.ntmps32
    go_wp2
    go_ret
    exact ⟨congrArg (fun b => Ending.returned (Value.bool b)) e.out.symm, Below.refl _ _⟩
end Wd
end Go.Proofs.Ytgfdgdbkifkehaa

/- Bytes as a text. -/
namespace Go.Proofs.Ytgfdgdbkifkehaa
open Go.RowKit
set_option linter.unusedVariables false
set_option maxRecDepth 20000
namespace Wd
def byteL (L : List Int) : List UInt8 := L.map (fun x => UInt8.ofNat x.toNat)
def textOf (L : List Int) : ByteArray := ⟨(byteL L).toArray⟩
theorem byte_of {x : Int} (h : 0 ≤ x ∧ x ≤ 255) : (((UInt8.ofNat x.toNat).toNat : Nat) : Int) = x := by
  have : x.toNat < 256 := by omega
  rw [UInt8.toNat_ofNat_of_lt' (by simpa [UInt8.size] using this)]
  omega
theorem textOf_inj : ∀ {A B : List Int}, (∀ x ∈ A, 0 ≤ x ∧ x ≤ 255) → (∀ x ∈ B, 0 ≤ x ∧ x ≤ 255) → textOf A = textOf B → A = B := by
  have key : ∀ (A B : List Int), (∀ x ∈ A, 0 ≤ x ∧ x ≤ 255) → (∀ x ∈ B, 0 ≤ x ∧ x ≤ 255) → byteL A = byteL B → A = B := by
    intro A
    induction A with
    | nil =>
      intro B _ _ h
      cases B with
      | nil => rfl
      | cons y B => simp [byteL] at h
    | cons x A ih =>
      intro B hA hB h
      cases B with
      | nil => simp [byteL] at h
      | cons y B =>
        simp only [byteL, List.map_cons, List.cons.injEq] at h
        obtain ⟨h1, h2⟩ := h
        have e : x = y := by
          rw [← byte_of (hA x (List.mem_cons_self ..)), ← byte_of (hB y (List.mem_cons_self ..)), h1]
        rw [e, ih B (fun z hz => hA z (List.mem_cons_of_mem _ hz)) (fun z hz => hB z (List.mem_cons_of_mem _ hz)) h2]
  intro A B hA hB h
  refine key A B hA hB ?_
  have : (byteL A).toArray = (byteL B).toArray := congrArg ByteArray.data h
  simpa using this
theorem ByV.bd {w : World} {v : Value} {L : List Int} (h : ByV w v L) : ∀ x ∈ L, 0 ≤ x ∧ x ≤ 255 := by
  obtain ⟨ad, cap, rfl, _⟩ := h.form
  intro x hx
  obtain ⟨k, hk⟩ := List.getElem?_of_mem hx
  exact (h.at hk).1
theorem by_text {w : World} {v : Value} {L : List Int} (h : ByV w v L) : (convert 45 9 v).run Try.prog w = .ok (.string (textOf L)) w := by
  obtain ⟨ad, cap, rfl, _⟩ := h.form
  have hlen : L.length = (byteL L).length := by simp [byteL]
  cases hL : L with
  | nil =>
    rw [run_convert_bytes_string (P := Try.prog) w 45 9 5 ad ([] : List Int).length cap Try.underlying45 Try.underlying5 Try.underlying9]
    have hl := run_loadCells_list (P := Try.prog) (w := w)
    cases ad with
    | none => simp [Conv.bytesToString, Sem.run_pure, textOf, byteL] <;> rfl
    | some a =>
      have h0 := hl a [] (fun j v hj => by simp at hj)
      simp [Conv.bytesToString, Sem.run_bind, textOf, byteL] at h0 ⊢
      first | done | (rw [h0]; rfl) | simp [h0]
  | cons x R =>
    rw [← hL]
    obtain ⟨_, g, off, rfl, _⟩ := h.at (k := 0) (x := x) (by rw [hL]; rfl)
    rw [hlen]
    refine run_convert_bytes_back (P := Try.prog) w 45 9 5 ⟨g, off, none⟩ cap (byteL L) Try.underlying45 Try.underlying5 Try.underlying9 (fun j hj => ?_)
    rw [Addr.add_lit]
    have hj' : j < L.length := by rw [hlen]; exact hj
    obtain ⟨b, g', off', e, c0⟩ := h.at (List.getElem?_eq_getElem hj')
    cases e
    rw [c0]
    simp only [byteL, List.getElem_map]
    rw [byte_of b]
end Wd
end Go.Proofs.Ytgfdgdbkifkehaa

/- Are two methods the same? (the document's own) -/
namespace Go.Proofs.Ytgfdgdbkifkehaa
open Go.RowKit
set_option linter.unusedVariables false
set_option maxRecDepth 20000
namespace Wd
/-- two methods lie boxed -/
structure Sm2 (w wr : World) (A B : MethA) (la lb ca cb : Option Addr) (lac lbc cac cbc : Nat) : Prop where
  mk ::
  cells : wr.cell? ⟨w.heap.size, 0, none⟩ = some (.int .i64 A.args) ∧ wr.cell? ⟨w.heap.size, 1, none⟩ = some (.int .i64 A.temps) ∧ wr.cell? ⟨w.heap.size, 2, none⟩ = some (.slice la A.lits.length lac) ∧ wr.cell? ⟨w.heap.size, 3, none⟩ = some (.slice ca A.code.length cac) ∧ wr.cell? ⟨w.heap.size + 1, 0, none⟩ = some (.int .i64 B.args) ∧ wr.cell? ⟨w.heap.size + 1, 1, none⟩ = some (.int .i64 B.temps) ∧ wr.cell? ⟨w.heap.size + 1, 2, none⟩ = some (.slice lb B.lits.length lbc) ∧ wr.cell? ⟨w.heap.size + 1, 3, none⟩ = some (.slice cb B.code.length cbc) ∧ ByV wr (.slice ca A.code.length cac) A.code ∧ ByV wr (.slice cb B.code.length cbc) B.code
  pa : PrV wr (.slice la A.lits.length lac) A.lits
  pb : PrV wr (.slice lb B.lits.length lbc) B.lits
  bel : Below w.heap.size w wr
theorem Sm2.up {w wr w2 : World} {A B : MethA} {la lb ca cb : Option Addr} {lac lbc cac cbc : Nat} (h : Sm2 w wr A B la lb ca cb lac lbc cac cbc) (b : Below wr.heap.size wr w2) : Sm2 w w2 A B la lb ca cb lac lbc cac cbc := by
  obtain ⟨a0, a1, a2, a3, b0, b1, b2, b3, y0, y1⟩ := h.cells
  exact ⟨⟨cell_up b a0, cell_up b a1, cell_up b a2, cell_up b a3, cell_up b b0, cell_up b b1, cell_up b b2, cell_up b b3, y0.up b, y1.up b⟩, h.pa.up b, h.pb.up b, h.bel.trans (b.mono h.bel.size)⟩
def methEq (A B : MethA) : Bool := decide (A.args = B.args) && (decide (A.temps = B.temps) && (decide (A.lits = B.lits) && decide (A.code = B.code)))
theorem meq1 {A B : MethA} (h : ¬ A.args = B.args) : methEq A B = false := by unfold methEq; rw [decide_eq_false h]; rfl
theorem meq2 {A B : MethA} (h : ¬ A.temps = B.temps) : methEq A B = false := by unfold methEq; rw [decide_eq_false h, Bool.false_and, Bool.and_false]
theorem meq3 {A B : MethA} (h : ¬ A.lits = B.lits) : methEq A B = false := by unfold methEq; rw [decide_eq_false h, Bool.false_and, Bool.and_false, Bool.and_false]
theorem meq4 {A B : MethA} (h : ¬ A.code = B.code) : methEq A B = false := by unfold methEq; rw [decide_eq_false h, Bool.and_false, Bool.and_false, Bool.and_false]
theorem meq5 {A B : MethA} (h1 : A.args = B.args) (h2 : A.temps = B.temps) (h3 : A.lits = B.lits) (h4 : A.code = B.code) : methEq A B = true := by unfold methEq; rw [decide_eq_true h1, decide_eq_true h2, decide_eq_true h3, decide_eq_true h4]; rfl
set_option maxHeartbeats 16000000 in
theorem rsamem_c {w : World} {a b : Value} {A B : MethA} (ha : MeV w a A) (hb : MeV w b B) :
    Calls Try.prog 33 #[a, b] w fun e w' => e = .returned (.bool (methEq A B)) ∧ Below w.heap.size w w' := by
  obtain ⟨la, lac, ca, cac, rfl, hla, hca⟩ := ha.ex
  obtain ⟨lb, lbc, cb, cbc, rfl, hlb, hcb⟩ := hb.ex
  have hw1 := (Below.refl w.heap.size w).alloc (Nat.le_refl _) (.cells #[.int .i64 A.args, .int .i64 A.temps, .slice la A.lits.length lac, .slice ca A.code.length cac] 47)
  have hw2 := hw1.alloc (by simp only [World.size_alloc]; omega) (.cells #[.int .i64 B.args, .int .i64 B.temps, .slice lb B.lits.length lbc, .slice cb B.code.length cbc] 47)
  have i1 : (w.alloc (.cells #[.int .i64 A.args, .int .i64 A.temps, .slice la A.lits.length lac, .slice ca A.code.length cac] 47)).heap.size = w.heap.size + 1 := by simp
  have hS : Hid (Sm2 w ((w.alloc (.cells #[.int .i64 A.args, .int .i64 A.temps, .slice la A.lits.length lac, .slice ca A.code.length cac] 47)).alloc (.cells #[.int .i64 B.args, .int .i64 B.temps, .slice lb B.lits.length lbc, .slice cb B.code.length cbc] 47)) A B la lb ca cb lac lbc cac cbc) := Lib.hid ⟨⟨(World.cell?_alloc_old _ _ _ (by simp)).trans (by simp), (World.cell?_alloc_old _ _ _ (by simp)).trans (by simp), (World.cell?_alloc_old _ _ _ (by simp)).trans (by simp), (World.cell?_alloc_old _ _ _ (by simp)).trans (by simp), by rw [← i1]; simp, by rw [← i1]; simp, by rw [← i1]; simp, by rw [← i1]; simp, hca.up hw2, hcb.up hw2⟩, hla.up hw2, hlb.up hw2, hw2⟩
  have PV := Lib.hid (fun (w' : World) (h1 : PrV w' (.slice la A.lits.length lac) A.lits) (h2 : PrV w' (.slice lb B.lits.length lbc) B.lits) => rvals_c h1 h2)
  have hcd := Lib.hid (fun h => textOf_inj (A := A.code) (B := B.code) hca.bd hcb.bd h)
  clear ha hb hla hca hlb hcb hw1 hw2 i1
  go_enter Try.func33, Try.ntmps33
  go_upto_region 1 with fail
  generalize ((w.alloc (.cells #[.int .i64 A.args, .int .i64 A.temps, .slice la A.lits.length lac, .slice ca A.code.length cac] 47)).alloc (.cells #[.int .i64 B.args, .int .i64 B.temps, .slice lb B.lits.length lbc, .slice cb B.code.length cbc] 47)) = W at *
  by_cases g1 : ¬ A.args = B.args
  · have d1 : (A.args == B.args) = false := by simpa using g1
    have e := Lib.hid (meq1 g1)
    clear g1 PV hcd
    obtain ⟨a0, a1, a2, a3, b0, b1, b2, b3, y0, y1⟩ := hS.out.cells
    go_wp2
    go_ret
    exact ⟨congrArg (fun b => Ending.returned (Value.bool b)) e.out.symm, hS.out.bel⟩
  replace g1 : A.args = B.args := Decidable.not_not.1 g1
  have d1 : (A.args == B.args) = true := by simpa using g1
  by_cases g2 : ¬ A.temps = B.temps
  · have d2 : (A.temps == B.temps) = false := by simpa using g2
    have e := Lib.hid (meq2 g2)
    clear g1 g2 PV hcd
    obtain ⟨a0, a1, a2, a3, b0, b1, b2, b3, y0, y1⟩ := hS.out.cells
    go_wp2
    go_ret
    exact ⟨congrArg (fun b => Ending.returned (Value.bool b)) e.out.symm, hS.out.bel⟩
  replace g2 : A.temps = B.temps := Decidable.not_not.1 g2
  have d2 : (A.temps == B.temps) = true := by simpa using g2
  by_cases g3 : ¬ A.lits = B.lits
  · rw [decide_eq_false g3] at PV
    have e := Lib.hid (meq3 g3)
    clear g1 g2 g3 hcd
    obtain ⟨a0, a1, a2, a3, b0, b1, b2, b3, y0, y1⟩ := hS.out.cells
    go_wp2_with (first | (go_at_call 34; ((with_reducible refine (PV.out _ hS.out.pa hS.out.pb).mono ?_); rintro e1 z1 ⟨rfl, hb⟩; replace hS := Lib.hid (hS.out.up hb); clear hb a0 a1 a2 a3 b0 b1 b2 b3 y0 y1; obtain ⟨a0, a1, a2, a3, b0, b1, b2, b3, y0, y1⟩ := hS.out.cells; have hcv1 := by_text y0; have hcv2 := by_text y1; go_wp2_with fail)))
    go_ret
    exact ⟨congrArg (fun b => Ending.returned (Value.bool b)) e.out.symm, hS.out.bel⟩
  replace g3 : A.lits = B.lits := Decidable.not_not.1 g3
  rw [decide_eq_true g3] at PV
  by_cases g4 : ¬ A.code = B.code
  · have d4 : ((textOf A.code).toList == (textOf B.code).toList) = false := bl_ne (fun h => g4 (hcd.out h))
    have e := Lib.hid (meq4 g4)
    clear g1 g2 g3 g4 hcd
    obtain ⟨a0, a1, a2, a3, b0, b1, b2, b3, y0, y1⟩ := hS.out.cells
    go_wp2_with (first | (go_at_call 34; ((with_reducible refine (PV.out _ hS.out.pa hS.out.pb).mono ?_); rintro e1 z1 ⟨rfl, hb⟩; replace hS := Lib.hid (hS.out.up hb); clear hb a0 a1 a2 a3 b0 b1 b2 b3 y0 y1; obtain ⟨a0, a1, a2, a3, b0, b1, b2, b3, y0, y1⟩ := hS.out.cells; have hcv1 := by_text y0; have hcv2 := by_text y1; go_wp2_with fail)))
    go_ret
    exact ⟨congrArg (fun b => Ending.returned (Value.bool b)) e.out.symm, hS.out.bel⟩
  replace g4 : A.code = B.code := Decidable.not_not.1 g4
  have d4 : ((textOf A.code).toList == (textOf B.code).toList) = true := bl_eq (by rw [g4])
  have e := Lib.hid (meq5 g1 g2 g3 g4)
  clear g1 g2 g3 g4 hcd
  obtain ⟨a0, a1, a2, a3, b0, b1, b2, b3, y0, y1⟩ := hS.out.cells
  go_wp2_with (first | (go_at_call 34; ((with_reducible refine (PV.out _ hS.out.pa hS.out.pb).mono ?_); rintro e1 z1 ⟨rfl, hb⟩; replace hS := Lib.hid (hS.out.up hb); clear hb a0 a1 a2 a3 b0 b1 b2 b3 y0 y1; obtain ⟨a0, a1, a2, a3, b0, b1, b2, b3, y0, y1⟩ := hS.out.cells; have hcv1 := by_text y0; have hcv2 := by_text y1; go_wp2_with fail)))
  go_ret
  exact ⟨congrArg (fun b => Ending.returned (Value.bool b)) e.out.symm, hS.out.bel⟩
end Wd
end Go.Proofs.Ytgfdgdbkifkehaa

/- Are two programs the same? (the document's own) -/
namespace Go.Proofs.Ytgfdgdbkifkehaa
open Go.RowKit
set_option linter.unusedVariables false
set_option maxRecDepth 20000
namespace Wd
instance decClassA : DecidableEq ClassA := fun a b => decidable_of_iff (a.nm = b.nm ∧ a.super = b.super ∧ a.fields = b.fields ∧ a.binds = b.binds) (by
  cases a; cases b; simp)
instance decMethA : DecidableEq MethA := fun a b => decidable_of_iff (a.args = b.args ∧ a.temps = b.temps ∧ a.lits = b.lits ∧ a.code = b.code) (by
  cases a; cases b; simp)
instance decObjA : DecidableEq ObjA := fun a b => decidable_of_iff (a.cls = b.cls ∧ a.flds = b.flds) (by
  cases a; cases b; simp)
def sameU (U V : UnitA) : Bool := decide (U.names = V.names) && (decide (U.classes = V.classes) && (decide (U.methods = V.methods) && (decide (U.objects = V.objects) && decide (U.main = V.main))))
theorem sameU_iff (U V : UnitA) : sameU U V = true ↔ U = V := by
  unfold sameU
  simp only [Bool.and_eq_true, decide_eq_true_iff]
  cases U; cases V; simp
theorem sameU_ne {U V : UnitA} (h : ¬ U = V) : sameU U V = false := by
  cases e : sameU U V with
  | false => rfl
  | true => exact absurd ((sameU_iff U V).1 e) h
theorem sameU_self (U : UnitA) : sameU U U = true := (sameU_iff U U).2 rfl
theorem methEq_iff (A B : MethA) : methEq A B = decide (A = B) := by
  unfold methEq
  cases A; cases B
  simp [Bool.decide_and]
theorem MtV.at {w : World} {ad : Option Addr} {n cap : Nat} {L : List MethA} (h : MtV w (.slice ad n cap) L) {k : Nat} {x : MethA} (hx : L[k]? = some x) : ∃ g off la lc ca cc, ad = some ⟨g, off, none⟩ ∧ w.cell? ⟨g, off + k * 4, none⟩ = some (.int .i64 x.args) ∧ w.cell? ⟨g, off + k * 4 + 1, none⟩ = some (.int .i64 x.temps) ∧ w.cell? ⟨g, off + k * 4 + 2, none⟩ = some (.slice la x.lits.length lc) ∧ w.cell? ⟨g, off + k * 4 + 3, none⟩ = some (.slice ca x.code.length cc) ∧ MeV w (.agg #[.int .i64 x.args, .int .i64 x.temps, .slice la x.lits.length lc, .slice ca x.code.length cc]) x := by
  obtain ⟨ad', cap', e, _, _, h3⟩ := h.ex
  cases e
  obtain ⟨i1, i2, g, off, lv, cv, e, c0, c1, c2, c3, p, q⟩ := h3 k x hx
  obtain ⟨la, lc, rfl, _, _⟩ := p.form
  obtain ⟨cb, cc, rfl, _, _⟩ := q.form
  exact ⟨g, off, la, lc, cb, cc, e, c0, c1, c2, c3, ⟨⟨la, lc, cb, cc, rfl, p, q⟩, i1, i2⟩⟩
/-- two programs lie boxed -/
structure S5 (w wr : World) (U V : UnitA) (na : Option Addr) (nc : Nat) (ca : Option Addr) (cc : Nat) (ma : Option Addr) (mc : Nat) (oa : Option Addr) (oc : Nat) (pa : Option Addr) (pc : Nat) (qa : Option Addr) (qc : Nat) (ra : Option Addr) (rc : Nat) (sa : Option Addr) (sc : Nat) (l1 l2 l3 l4 r1 r2 r3 r4 : Nat) : Prop where
  mk ::
  cells : wr.cell? ⟨w.heap.size, 0, none⟩ = some (.slice na l1 nc) ∧ wr.cell? ⟨w.heap.size, 1, none⟩ = some (.slice ca l2 cc) ∧ wr.cell? ⟨w.heap.size, 2, none⟩ = some (.slice ma l3 mc) ∧ wr.cell? ⟨w.heap.size, 3, none⟩ = some (.slice oa l4 oc) ∧ wr.cell? ⟨w.heap.size, 4, none⟩ = some (.int .i64 U.main) ∧ wr.cell? ⟨w.heap.size + 1, 0, none⟩ = some (.slice pa r1 pc) ∧ wr.cell? ⟨w.heap.size + 1, 1, none⟩ = some (.slice qa r2 qc) ∧ wr.cell? ⟨w.heap.size + 1, 2, none⟩ = some (.slice ra r3 rc) ∧ wr.cell? ⟨w.heap.size + 1, 3, none⟩ = some (.slice sa r4 sc) ∧ wr.cell? ⟨w.heap.size + 1, 4, none⟩ = some (.int .i64 V.main)
  views : NmV wr (.slice na l1 nc) U.names ∧ ClV wr (.slice ca l2 cc) U.classes ∧ MtV wr (.slice ma l3 mc) U.methods ∧ ObV wr (.slice oa l4 oc) U.objects ∧ NmV wr (.slice pa r1 pc) V.names ∧ ClV wr (.slice qa r2 qc) V.classes ∧ MtV wr (.slice ra r3 rc) V.methods ∧ ObV wr (.slice sa r4 sc) V.objects
  lens : l1 = U.names.length ∧ l2 = U.classes.length ∧ l3 = U.methods.length ∧ l4 = U.objects.length ∧ r1 = V.names.length ∧ r2 = V.classes.length ∧ r3 = V.methods.length ∧ r4 = V.objects.length
  les : l1 ≤ maxLen ∧ l2 ≤ maxLen ∧ l3 ≤ maxLen ∧ l4 ≤ maxLen
  caps : l1 ≤ nc ∧ l2 ≤ cc ∧ l3 ≤ mc ∧ l4 ≤ oc ∧ r1 ≤ pc ∧ r2 ≤ qc ∧ r3 ≤ rc ∧ r4 ≤ sc
  bel : Below w.heap.size w wr
section
variable {w wr w2 : World} {U V : UnitA} {na ca ma oa pa qa ra sa : Option Addr} {nc cc mc oc pc qc rc sc l1 l2 l3 l4 r1 r2 r3 r4 : Nat}
theorem S5.up (h : S5 w wr U V na nc ca cc ma mc oa oc pa pc qa qc ra rc sa sc l1 l2 l3 l4 r1 r2 r3 r4) (b : Below wr.heap.size wr w2) : S5 w w2 U V na nc ca cc ma mc oa oc pa pc qa qc ra rc sa sc l1 l2 l3 l4 r1 r2 r3 r4 := by
  obtain ⟨a0, a1, a2, a3, a4, a5, a6, a7, a8, a9⟩ := h.cells
  obtain ⟨v0, v1, v2, v3, v4, v5, v6, v7⟩ := h.views
  exact ⟨⟨cell_up b a0, cell_up b a1, cell_up b a2, cell_up b a3, cell_up b a4, cell_up b a5, cell_up b a6, cell_up b a7, cell_up b a8, cell_up b a9⟩, ⟨v0.up b, v1.up b, v2.up b, v3.up b, v4.up b, v5.up b, v6.up b, v7.up b⟩, h.lens, h.les, h.caps, h.bel.trans (b.mono h.bel.size)⟩
theorem S5.drew (h : S5 w wr U V na nc ca cc ma mc oa oc pa pc qa qc ra rc sa sc l1 l2 l3 l4 r1 r2 r3 r4) : S5 w wr.drew U V na nc ca cc ma mc oa oc pa pc qa qc ra rc sa sc l1 l2 l3 l4 r1 r2 r3 r4 := h.up ((Below.refl _ _).drew)
theorem S5.no1 (h : S5 w wr U V na nc ca cc ma mc oa oc pa pc qa qc ra rc sa sc l1 l2 l3 l4 r1 r2 r3 r4) (e : ¬ l1 = r1) : sameU U V = false := sameU_ne (fun q => e (by obtain ⟨h1, h2, h3, h4, h5, h6, h7, h8⟩ := h.lens; rw [h1, h5, q]))
theorem S5.no2 (h : S5 w wr U V na nc ca cc ma mc oa oc pa pc qa qc ra rc sa sc l1 l2 l3 l4 r1 r2 r3 r4) (e : ¬ l2 = r2) : sameU U V = false := sameU_ne (fun q => e (by obtain ⟨h1, h2, h3, h4, h5, h6, h7, h8⟩ := h.lens; rw [h2, h6, q]))
theorem S5.no3 (h : S5 w wr U V na nc ca cc ma mc oa oc pa pc qa qc ra rc sa sc l1 l2 l3 l4 r1 r2 r3 r4) (e : ¬ l3 = r3) : sameU U V = false := sameU_ne (fun q => e (by obtain ⟨h1, h2, h3, h4, h5, h6, h7, h8⟩ := h.lens; rw [h3, h7, q]))
theorem S5.no4 (h : S5 w wr U V na nc ca cc ma mc oa oc pa pc qa qc ra rc sa sc l1 l2 l3 l4 r1 r2 r3 r4) (e : ¬ l4 = r4) : sameU U V = false := sameU_ne (fun q => e (by obtain ⟨h1, h2, h3, h4, h5, h6, h7, h8⟩ := h.lens; rw [h4, h8, q]))
end
theorem sameU_no1 {U V : UnitA} {k : Nat} {x y : ByteArray} (hx : U.names[k]? = some x) (hy : V.names[k]? = some y) (e : ¬ x = y) : sameU U V = false := sameU_ne (fun q => e (by subst q; rw [hx] at hy; exact Option.some.inj hy))
theorem sameU_no2 {U V : UnitA} {k : Nat} {x y : ClassA} (hx : U.classes[k]? = some x) (hy : V.classes[k]? = some y) (e : ¬ x = y) : sameU U V = false := sameU_ne (fun q => e (by subst q; rw [hx] at hy; exact Option.some.inj hy))
theorem sameU_no3 {U V : UnitA} {k : Nat} {x y : MethA} (hx : U.methods[k]? = some x) (hy : V.methods[k]? = some y) (e : ¬ x = y) : sameU U V = false := sameU_ne (fun q => e (by subst q; rw [hx] at hy; exact Option.some.inj hy))
theorem sameU_no4 {U V : UnitA} {k : Nat} {x y : ObjA} (hx : U.objects[k]? = some x) (hy : V.objects[k]? = some y) (e : ¬ x = y) : sameU U V = false := sameU_ne (fun q => e (by subst q; rw [hx] at hy; exact Option.some.inj hy))
theorem EqR.all {T : Type} {A B : List T} {n : Nat} (h : EqR A B n) (ha : n = A.length) (hb : n = B.length) : A = B := by
  have := h.eq
  rwa [ha, List.take_length, ← ha, hb, List.take_length] at this
end Wd
end Go.Proofs.Ytgfdgdbkifkehaa

/- The document's own instructions: is one right where it stands? -/
namespace Go.Proofs.Ytgfdgdbkifkehaa
open Go.RowKit
set_option linter.unusedVariables false
set_option maxRecDepth 20000
namespace Wd
theorem ins_other {m : MethA} {pc op arg : Int} (h : op ≠ 0 ∧ op ≠ 10 ∧ op ≠ 1 ∧ op ≠ 11 ∧ op ≠ 2 ∧ op ≠ 12 ∧ op ≠ 13 ∧ op ≠ 20 ∧ op ≠ 18 ∧ op ≠ 15 ∧ op ≠ 17 ∧ op ≠ 16 ∧ op ≠ 21) : insR m pc op arg = decide (op ≤ 21) := by
  unfold insR
  rw [if_neg (by omega), if_neg (by omega), if_neg (by omega), if_neg (by omega), if_neg (by omega), if_neg (by omega), if_neg (by omega), if_neg (by omega), if_neg (by omega)]
end Wd
end Go.Proofs.Ytgfdgdbkifkehaa

/- The document's own instructions: is a method right? -/
namespace Go.Proofs.Ytgfdgdbkifkehaa
open Go.RowKit
set_option linter.unusedVariables false
set_option maxRecDepth 20000
namespace Wd
/-- a program in a box of its own -/
structure UnB (w : World) (q : Nat) (u : Value) (U : UnitA) (na ka ma oa : Option Addr) (nc kc mc oc : Nat) : Prop where
  e : u = .agg #[.slice na U.names.length nc, .slice ka U.classes.length kc, .slice ma U.methods.length mc, .slice oa U.objects.length oc, .int .i64 U.main]
  c0 : w.cell? ⟨q, 0, none⟩ = some (.slice na U.names.length nc)
  c1 : w.cell? ⟨q, 1, none⟩ = some (.slice ka U.classes.length kc)
  c2 : w.cell? ⟨q, 2, none⟩ = some (.slice ma U.methods.length mc)
  c3 : w.cell? ⟨q, 3, none⟩ = some (.slice oa U.objects.length oc)
  c4 : w.cell? ⟨q, 4, none⟩ = some (.int .i64 U.main)
  un : UnK w u U
theorem UnB.born {w : World} {U : UnitA} {na ka ma oa : Option Addr} {nc kc mc oc : Nat} (h : UnK w (.agg #[.slice na U.names.length nc, .slice ka U.classes.length kc, .slice ma U.methods.length mc, .slice oa U.objects.length oc, .int .i64 U.main]) U) : UnB (w.alloc (.cells #[.slice na U.names.length nc, .slice ka U.classes.length kc, .slice ma U.methods.length mc, .slice oa U.objects.length oc, .int .i64 U.main] 28)) w.heap.size (.agg #[.slice na U.names.length nc, .slice ka U.classes.length kc, .slice ma U.methods.length mc, .slice oa U.objects.length oc, .int .i64 U.main]) U na ka ma oa nc kc mc oc :=
  ⟨rfl, by simp, by simp, by simp, by simp, by simp, h.up ((Below.refl _ _).alloc (Nat.le_refl _) _)⟩
theorem UnB.up {w w1 : World} {q : Nat} {u : Value} {U : UnitA} {na ka ma oa : Option Addr} {nc kc mc oc : Nat} (h : UnB w q u U na ka ma oa nc kc mc oc) (b : Below w.heap.size w w1) : UnB w1 q u U na ka ma oa nc kc mc oc :=
  ⟨h.e, cell_up b h.c0, cell_up b h.c1, cell_up b h.c2, cell_up b h.c3, cell_up b h.c4, h.un.up b⟩
def metT (m : MethA) (nn nc nm : Nat) : Int := if m.lits.all (fun x => litR x nn nc nm) = false then 12 else if insF m (m.code.length / 2) 0 = false then 12 else 0
theorem met_long {m : MethA} {nn nc nm : Nat} (h : m.code.length > 128 ∨ m.lits.length > 16 ∨ m.args < 0 ∨ m.temps < 0 ∨ m.args > 8 ∨ m.temps > 8 - m.args) : metR m nn nc nm = 3 := if_pos h
theorem met_len {m : MethA} {nn nc nm : Nat} (h : ¬ (m.code.length > 128 ∨ m.lits.length > 16 ∨ m.args < 0 ∨ m.temps < 0 ∨ m.args > 8 ∨ m.temps > 8 - m.args)) (h2 : m.code.length < 2 ∨ m.code.length % 2 ≠ 0) : metR m nn nc nm = 12 := by
  unfold metR; rw [if_neg h, if_pos h2]
theorem met_last {m : MethA} {nn nc nm : Nat} (h : ¬ (m.code.length > 128 ∨ m.lits.length > 16 ∨ m.args < 0 ∨ m.temps < 0 ∨ m.args > 8 ∨ m.temps > 8 - m.args)) (h2 : ¬ (m.code.length < 2 ∨ m.code.length % 2 ≠ 0)) (h3 : byAt m.code (m.code.length - 2) ≠ 14 ∧ byAt m.code (m.code.length - 2) ≠ 19 ∧ byAt m.code (m.code.length - 2) ≠ 16) : metR m nn nc nm = 12 := by
  unfold metR; rw [if_neg h, if_neg h2, if_pos h3]
theorem met_t {m : MethA} {nn nc nm : Nat} (h : ¬ (m.code.length > 128 ∨ m.lits.length > 16 ∨ m.args < 0 ∨ m.temps < 0 ∨ m.args > 8 ∨ m.temps > 8 - m.args)) (h2 : ¬ (m.code.length < 2 ∨ m.code.length % 2 ≠ 0)) (h3 : ¬ (byAt m.code (m.code.length - 2) ≠ 14 ∧ byAt m.code (m.code.length - 2) ≠ 19 ∧ byAt m.code (m.code.length - 2) ≠ 16)) : metR m nn nc nm = metT m nn nc nm := by
  unfold metR; rw [if_neg h, if_neg h2, if_neg h3]; rfl
theorem metT_lit {m : MethA} {nn nc nm : Nat} (h : m.lits.all (fun x => litR x nn nc nm) = false) : metT m nn nc nm = 12 := if_pos h
theorem metT_ins {m : MethA} {nn nc nm : Nat} (h : m.lits.all (fun x => litR x nn nc nm) = true) (h2 : insF m (m.code.length / 2) 0 = false) : metT m nn nc nm = 12 := by
  unfold metT; rw [if_neg (by rw [h]; decide), if_pos h2]
theorem metT_ok {m : MethA} {nn nc nm : Nat} (h : m.lits.all (fun x => litR x nn nc nm) = true) (h2 : insF m (m.code.length / 2) 0 = true) : metT m nn nc nm = 0 := by
  unfold metT; rw [if_neg (by rw [h]; decide), if_neg (by rw [h2]; decide)]
theorem all_next {α : Type} {L : List α} {f : α → Bool} {k : Nat} {x : α} (h : L[k]? = some x) : (L.drop k).all f = (f x && (L.drop (k + 1)).all f) := by
  obtain ⟨hk, e⟩ := List.getElem?_eq_some_iff.1 h
  rw [← e, List.drop_eq_getElem_cons hk, List.all_cons]
theorem ins_next {m : MethA} {N j : Nat} (h : j < N) : insF m (N - j) (2 * j) = (insR m ((2 * j : Nat) : Int) (byAt m.code (2 * j)) (byAt m.code (2 * j + 1)) && insF m (N - (j + 1)) (2 * (j + 1))) := by
  rw [show N - j = (N - (j + 1)) + 1 by omega, insF, show 2 * j + 2 = 2 * (j + 1) by omega]
/-- all that follows the first tests -/
structure MSt (w0 wr : World) (q q2 : Nat) (v u : Value) (m : MethA) (U : UnitA) (la ca na ka ma oa : Option Addr) (lc cc nc kc mc oc : Nat) : Prop where
  b : MeB wr q v m la ca lc cc
  u : UnB wr q2 u U na ka ma oa nc kc mc oc
  bel : Below w0.heap.size w0 wr
theorem MSt.up {w0 w w1 : World} {q q2 : Nat} {v u : Value} {m : MethA} {U : UnitA} {la ca na ka ma oa : Option Addr} {lc cc nc kc mc oc : Nat} (h : MSt w0 w q q2 v u m U la ca na ka ma oa lc cc nc kc mc oc) (b : Below w.heap.size w w1) : MSt w0 w1 q q2 v u m U la ca na ka ma oa lc cc nc kc mc oc :=
  ⟨h.b.up b, h.u.up b, h.bel.trans (b.mono h.bel.size)⟩
end Wd
end Go.Proofs.Ytgfdgdbkifkehaa

/- Is a program right? (the document's own) -/
namespace Go.Proofs.Ytgfdgdbkifkehaa
open Go.RowKit
set_option linter.unusedVariables false
set_option maxRecDepth 20000
namespace Wd
/-- the first thing that is wrong -/
def firstE : List Int → Int
  | [] => 0
  | e :: L => if e = 0 then firstE L else e
def eBinds (B : List (Int × Int)) : Int := if (ofD B D0).isSome = true then 0 else 14
def nmAt (L : List ByteArray) (i : Int) : ByteArray := L.getD i.toNat ⟨#[]⟩
def agAt (L : List MethA) (i : Int) : Int := match L[i.toNat]? with
  | some x => x.args
  | none => 0
def eArg (U : UnitA) (b : Int × Int) : Int := if argsR (nmAt U.names b.1) = agAt U.methods b.2 then 0 else 15
def eArgs (U : UnitA) : List ClassA → List Int
  | [] => []
  | c :: C => c.binds.map (eArg U) ++ eArgs U C
def longB (U : UnitA) : Bool := decide (48 < U.names.length) || (decide (U.methods.length < 1) || (decide (32 < U.methods.length) || (decide (U.objects.length < 1) || decide (40 < U.objects.length))))
def mainE (U : UnitA) : Int := if 0 ≤ U.main ∧ U.main < (U.methods.length : Int) ∧ agAt U.methods U.main = 0 then 0 else 15
def restO (U : UnitA) (k : Nat) : List Int := (U.objects.drop k).map (fun x => if objB x U.classes U.objects.length = true then (0 : Int) else 16) ++ [mainE U]
def restA (U : UnitA) (k : Nat) : List Int := eArgs U (U.classes.drop k) ++ restO U 0
def restM (U : UnitA) (k : Nat) : List Int := (U.methods.drop k).map (fun m => metR m U.names.length U.classes.length U.methods.length) ++ restA U 0
def restC (U : UnitA) (k : Nat) : List Int := (U.classes.drop k).map (fun c => eBinds c.binds) ++ restM U 0
/-- what is wrong with a program; 0: nothing -/
def unitR (U : UnitA) : Int := firstE ((if longB U = true then (3 : Int) else 0) :: (if namesB U.names = true then (0 : Int) else 13) :: shapeR U.classes U.names.length U.methods.length :: restC U 0)
/-- so far nothing is wrong; X: what is still looked at -/
structure StU (U : UnitA) (X : List Int) : Prop where
  mk ::
  eq : unitR U = firstE X
theorem StU.ok {U : UnitA} {X : List Int} {e : Int} (h : StU U (e :: X)) (he : e = 0) : StU U X := ⟨by rw [h.eq, firstE, if_pos he]⟩
theorem StU.bad {U : UnitA} {X : List Int} {e : Int} (h : StU U (e :: X)) (he : ¬ e = 0) : unitR U = e := by rw [h.eq, firstE, if_neg he]
theorem StU.start (U : UnitA) : StU U ((if longB U = true then (3 : Int) else 0) :: (if namesB U.names = true then (0 : Int) else 13) :: shapeR U.classes U.names.length U.methods.length :: restC U 0) := ⟨rfl⟩
theorem drop_all {T : Type} {L : List T} {k : Nat} (h : k = L.length) : L.drop k = [] := by subst h; exact List.drop_length
/-- classes that are right: each bind is -/
theorem from_binds {L : List ClassA} {names methods : Int} : ∀ (C : List ClassA) (i : Nat), shapeFrom L names methods i C = 0 → ∀ c ∈ C, bindsOk c.binds names methods = true
  | [], _, _, c, h => by cases h
  | d :: C, i, e, c, h => by
    rw [shapeFrom] at e
    split at e
    · cases e
    · split at e
      · cases e
      · split at e
        · cases e
        · split at e
          · cases e
          · rename_i hb
            rcases List.mem_cons.1 h with rfl | h
            · simpa using hb
            · exact from_binds C (i + 1) e c h
theorem shape_binds {L : List ClassA} {names methods : Int} (e : shapeR L names methods = 0) {k : Nat} {c : ClassA} (hc : L[k]? = some c) {j : Nat} {b : Int × Int} (hb : c.binds[j]? = some b) : 0 ≤ b.1 ∧ b.1 < names ∧ 0 ≤ b.2 ∧ b.2 < methods := by
  unfold shapeR at e
  split at e
  · cases e
  · split at e
    · cases e
    · have h1 := from_binds L 0 e c (List.mem_of_getElem? hc)
      unfold bindsOk at h1
      simp only [Bool.and_eq_true, List.all_eq_true] at h1
      have h2 := h1.1.1 b (List.mem_of_getElem? hb)
      unfold bindOk at h2
      simp only [Bool.and_eq_true, decide_eq_true_iff] at h2
      omega
theorem eBinds_14 {B : List (Int × Int)} (e : ¬ eBinds B = 0) : eBinds B = 14 := by
  unfold eBinds at e ⊢
  split
  · rename_i h; rw [if_pos h] at e; exact absurd rfl e
  · rfl
/-- a program lies boxed -/
structure V1 (w wr : World) (U : UnitA) (na : Option Addr) (nc : Nat) (ca : Option Addr) (cc : Nat) (ma : Option Addr) (mc : Nat) (oa : Option Addr) (oc : Nat) (l1 l2 l3 l4 : Nat) : Prop where
  mk ::
  cells : wr.cell? ⟨w.heap.size, 0, none⟩ = some (.slice na l1 nc) ∧ wr.cell? ⟨w.heap.size, 1, none⟩ = some (.slice ca l2 cc) ∧ wr.cell? ⟨w.heap.size, 2, none⟩ = some (.slice ma l3 mc) ∧ wr.cell? ⟨w.heap.size, 3, none⟩ = some (.slice oa l4 oc) ∧ wr.cell? ⟨w.heap.size, 4, none⟩ = some (.int .i64 U.main)
  views : NmV wr (.slice na l1 nc) U.names ∧ ClV wr (.slice ca l2 cc) U.classes ∧ MtV wr (.slice ma l3 mc) U.methods ∧ ObV wr (.slice oa l4 oc) U.objects
  lens : l1 = U.names.length ∧ l2 = U.classes.length ∧ l3 = U.methods.length ∧ l4 = U.objects.length
  les : l1 ≤ maxLen ∧ l2 ≤ maxLen ∧ l3 ≤ maxLen ∧ l4 ≤ maxLen
  caps : l1 ≤ nc ∧ l2 ≤ cc ∧ l3 ≤ mc ∧ l4 ≤ oc
  bel : Below w.heap.size w wr
section
variable {w wr w2 : World} {U : UnitA} {na ca ma oa : Option Addr} {nc cc mc oc l1 l2 l3 l4 : Nat}
theorem V1.up (h : V1 w wr U na nc ca cc ma mc oa oc l1 l2 l3 l4) (b : Below wr.heap.size wr w2) : V1 w w2 U na nc ca cc ma mc oa oc l1 l2 l3 l4 := by
  obtain ⟨a0, a1, a2, a3, a4⟩ := h.cells
  obtain ⟨v0, v1, v2, v3⟩ := h.views
  exact ⟨⟨cell_up b a0, cell_up b a1, cell_up b a2, cell_up b a3, cell_up b a4⟩, ⟨v0.up b, v1.up b, v2.up b, v3.up b⟩, h.lens, h.les, h.caps, h.bel.trans (b.mono h.bel.size)⟩
theorem V1.drew (h : V1 w wr U na nc ca cc ma mc oa oc l1 l2 l3 l4) : V1 w wr.drew U na nc ca cc ma mc oa oc l1 l2 l3 l4 := h.up ((Below.refl _ _).drew)
theorem V1.unk (h : V1 w wr U na nc ca cc ma mc oa oc l1 l2 l3 l4) : UnK wr (.agg #[.slice na l1 nc, .slice ca l2 cc, .slice ma l3 mc, .slice oa l4 oc, .int .i64 U.main]) U := by
  obtain ⟨v0, v1, v2, v3⟩ := h.views
  obtain ⟨e1, e2, e3, e4⟩ := h.lens
  subst e1; subst e2; subst e3; subst e4
  exact ⟨⟨na, nc, ca, cc, ma, mc, oa, oc, rfl, ⟨v0, v1, v2, v3⟩⟩⟩
end
end Wd
end Go.Proofs.Ytgfdgdbkifkehaa
