/- CacheTrue, over what the laws ask of the package. -/
import Derived.Test.YtpilbpofikdkmaaYLines
import Derived.Test.YtpilbpofikdkmaaYMap
import Derived.Test.YtpilbpofikdkmaaRLast
import Derived.Deep.RegionHeld3
namespace Go.Proofs.Ytpilbpofikdkmaa
open Go.RowKit Go.Maps
set_option linter.unusedVariables false
set_option maxRecDepth 20000
namespace Wd
theorem cntK_upd (L : Ln) (i : Nat) (t : Int × Int × Int) : ∀ n, cntK (updL L i (some t)) n = cntK L n + (if i < n ∧ (L i).isSome = false then 1 else 0)
  | 0 => by simp [cntK]
  | n + 1 => by
    rw [cntK_next, cntK_next, cntK_upd L i t n]
    by_cases e : n = i
    · subst e
      cases h : (L n).isSome <;> simp [updL]
    · have e2 : updL L i (some t) n = L n := if_neg e
      have e3 : (i < n + 1 ∧ (L i).isSome = false) ↔ (i < n ∧ (L i).isSome = false) := ⟨fun h => ⟨by omega, h.2⟩, fun h => ⟨by omega, h.2⟩⟩
      rw [e2]
      simp only [e3]
      omega
/-- what is kept was put for its key last; a key that was put has a line that has one -/
structure InvT (S : Cst) (M : Pl → Option Int) (c : Nat) : Prop where
  i1 : ∀ i t, S.L i = some t → lineR t.1 t.2.1 = i ∧ M (t.1, t.2.1) = some t.2.2
  i2 : ∀ p : Pl, (M p).isSome = true → (S.L (lineR p.1 p.2)).isSome = true
  i3 : cntL S ≤ c
theorem InvT.start : InvT S0 (fun _ => none) 0 := ⟨fun i t h => (by cases h), fun p h => (by cases h), by decide⟩
section
variable {S : Cst} {M : Pl → Option Int} {c : Nat}
theorem InvT.get (h : InvT S M c) (a b : Int) : InvT (getS S a b) M c :=
  ⟨fun i t ht => h.i1 i t (by rw [getS_L] at ht; exact ht), fun p hp => by rw [getS_L]; exact h.i2 p hp, by unfold cntL; rw [getS_L]; exact h.i3⟩
theorem InvT.put (h : InvT S M c) (a b x : Int) : InvT (putS S a b x) (updM M (a, b) (some x)) (if (M (a, b)).isSome then c else c + 1) := by
  refine ⟨fun i t ht => ?_, fun p hp => ?_, ?_⟩
  · unfold putS updL at ht
    simp only at ht
    by_cases e : i = lineR a b
    · rw [if_pos e] at ht
      cases ht
      exact ⟨e.symm, by unfold updM; rw [if_pos rfl]⟩
    · rw [if_neg e] at ht
      obtain ⟨h1, h2⟩ := h.i1 i t ht
      refine ⟨h1, ?_⟩
      unfold updM
      rw [if_neg (fun q => e (by rw [← h1]; injection q with q1 q2; rw [q1, q2])), h2]
  · unfold putS updL
    simp only
    by_cases e : lineR p.1 p.2 = lineR a b
    · rw [if_pos e]; rfl
    · rw [if_neg e]
      unfold updM at hp
      rw [if_neg (fun q => e (by rw [q]))] at hp
      exact h.i2 p hp
  · have hc := cntK_upd S.L (lineR a b) (a, b, x) 32
    have h3 := h.i3
    unfold cntL at h3 ⊢
    show cntK (updL S.L (lineR a b) (some (a, b, x))) 32 ≤ _
    rw [hc]
    by_cases hm : (M (a, b)).isSome = true
    · have := h.i2 (a, b) hm
      simp only at this
      rw [if_pos hm, if_neg (by rw [this]; simp)]
      omega
    · rw [if_neg hm]
      split <;> omega
theorem InvT.tell (h : InvT S M c) {a b : Int} (hb : getB S a b = true) : M (a, b) = some (getM S a b) := by
  unfold getB at hb
  unfold getM
  cases hL : S.L (lineR a b) with
  | none => rw [hL] at hb; cases hb
  | some t =>
    obtain ⟨a', b', x⟩ := t
    rw [hL] at hb
    have hb' := hb
    unfold hasT at hb
    simp only at hb
    obtain ⟨_, h2⟩ := h.i1 _ _ hL
    rw [Bool.and_eq_true, decide_eq_true_eq, decide_eq_true_eq] at hb
    obtain ⟨rfl, rfl⟩ := hb
    rw [h2, (hasT_y rfl).2]
end
theorem get_no {S : Cst} {a b : Int} (hb : getB S a b = false) : getM S a b = -1 := by
  unfold getB at hb
  unfold getM
  exact (hasT_n (fun x hx => by rw [hx, (hasT_y rfl).1] at hb; cases hb)).2
/-- a cache of the call's own, a map of what was put -/
structure TrS (CA : CAt) (w0 wr : World) (p m c : Nat) (S : Cst) (M : Pl → Option Int) (F : Nat → Prop) : Prop where
  pc : PC CA w0 wr p S F
  mp : MapP wr m c M
  inv : InvT S M c
  nf : ¬ F m
  fm : w0.heap.size ≤ m
/-- .. the cache has been told, the map hasn't -/
structure TrM (CA : CAt) (w0 wr : World) (p m c : Nat) (S S' : Cst) (M : Pl → Option Int) (F : Nat → Prop) : Prop where
  pc : PC CA w0 wr p S' F
  mp : MapP wr m c M
  inv : InvT S M c
  nf : ¬ F m
  fm : w0.heap.size ≤ m
section
variable {CA : CAt} {w0 wr wA w1 : World} {p m c c' : Nat} {S S' : Cst} {M M' : Pl → Option Int} {F F' : Nat → Prop}
theorem TrS.keep (K : CacK CA) (h : TrS CA w0 wr p m c S M F) (g : Below wr.heap.size wr wA) : TrS CA w0 wA p m c S M F :=
  ⟨h.pc.keep K g, h.mp.same (g.block m h.mp.lt), h.inv, h.nf, h.fm⟩
theorem TrS.mid (h : TrS CA w0 wr p m c S M F) (hm : PC CA w0 w1 p S' F') (ch : Ch F wr w1) (hn : Newer F F' wr.heap.size) : TrM CA w0 w1 p m c S S' M F' :=
  ⟨hm, h.mp.same (ch.block m h.mp.lt h.nf), h.inv, fun hF => by rcases hn m hF with e | e; exact h.nf e; have := h.mp.lt; omega, h.fm⟩
theorem TrM.put (K : CacK CA) (h : TrM CA w0 wr p m c S S' M F) (hm : MapP w1 m c' M') (g : wr.grownBy w1 (some m)) (hi : InvT S' M' c') : TrS CA w0 w1 p m c' S' M' F :=
  ⟨⟨K.keep h.pc.da (fun k hk => g.block k (K.lt h.pc.da k hk) (fun e => h.nf (by injection e with e; exact e ▸ hk))), ⟨g.os.trans h.pc.bel.os, g.tape.trans h.pc.bel.tape, g.output.trans h.pc.bel.output, Nat.le_trans h.pc.bel.size g.size, fun k hk => (g.block k (Nat.lt_of_lt_of_le hk h.pc.bel.size) (fun e => by injection e with e; have := h.fm; omega)).trans (h.pc.bel.block k hk)⟩, h.pc.fF⟩, hm, hi, h.nf, h.fm⟩
theorem TrM.got (h : TrM CA w0 wr p m c S S' M F) (hi : InvT S' M c) : TrS CA w0 wr p m c S' M F := ⟨h.pc, h.mp, hi, h.nf, h.fm⟩
end
theorem key_new (w : World) (y z : Int) : (w.alloc (.cells #[.int .i64 y, .int .i64 z] 32)).cell? ⟨w.heap.size, 0, none⟩ = some (.int .i64 y) ∧ (w.alloc (.cells #[.int .i64 y, .int .i64 z] 32)).cell? ⟨w.heap.size, 1, none⟩ = some (.int .i64 z) := by
  constructor <;> simp
set_option maxHeartbeats 32000000 in
theorem true_any {CA : CAt} (K : CacK CA) {w : World} {ad : Option Addr} {n cap : Nat} (HA : AskV w ad n) (hn : n ≤ 9223372036854775807) :
    Calls Try.prog 5 #[.slice ad n cap] w fun e w' => e = .returned (.bool true) ∧ Below w.heap.size w w' := by
  replace HA := Lib.hid HA
  have hmm := @run_makeMap Try.prog
  go_enter Try.func5, Try.ntmps5
  go_wp2_with fail
  refine (new_s K _).mono ?_
  rintro e1 w1 ⟨p, F, rfl, h0⟩
  have st0 : Hid (TrS CA w (w1.alloc (.map #[] 0)) p w1.heap.size 0 S0 (fun _ => none) F) := Lib.hid ⟨h0.keep K ((Below.refl _ _).alloc (Nat.le_refl _) _), MapP.made w1, InvT.start, fun h => by have := K.lt h0.da _ h; omega, h0.bel.size⟩
  clear h0
  go_upto_region 5 with fail
  generalize w1.alloc (.map #[] 0) = w2 at *
  generalize w1.heap.size = m at *
  clear hmm
  go_wp2
  go_loopw [5, 6] (fun i5 i6 wr => ∃ (k c a : Nat) (S : Cst) (M : Pl → Option Int) (F : Nat → Prop), k ≤ n ∧ k ≤ 120 ∧ i6 = .int .i64 k ∧ i5 = .int .i64 (a : Nat) ∧ a ≤ k ∧ c ≤ k ∧ Hid (TrS CA w wr p m c S M F) ∧ Hid (S.h + S.m = a)) (fun _ i6 _ => 120 - (intOf i6).toNat)
  case atStart => exact ⟨0, 0, 0, _, _, _, by omega, by omega, rfl, rfl, by omega, by omega, st0, Lib.hid rfl⟩
  case round =>
    clear st0
    obtain ⟨k, c, a, S, M, F, hk, hk2, rfl, rfl, hak, hck, hS, hbS⟩ := hrel
    by_cases hlt : k < n ∧ k < 120
    · have d1 : decide ((k : Int) < (n : Int)) = true := by simp; omega
      have d2 : decide ((k : Int) < 120) = true := by simp; omega
      have p0 : (0 : Int) ≤ (k : Int) := by omega
      have p1 : (k : Int) < (n : Int) := by omega
      have hk99 : k < 120 := hlt.2
      obtain ⟨g, off, x, y, z, u, rfl, ix, iy, iz, iu, c0, c1, c2, c3⟩ := (HA.out.up hS.out.pc.bel) k hlt.1
      have c1w : Hid (wr.drew.cell? ⟨g, off + k * 4 + 1, none⟩ = some (.int .i64 y)) := Lib.hid c1
      have c2w : Hid (wr.drew.cell? ⟨g, off + k * 4 + 2, none⟩ = some (.int .i64 z)) := Lib.hid c2
      have c0w := Lib.hid c0
      have b1 := i64_and7 y
      have b2 := i64_and31 z
      have b0 := i64_and1 x
      obtain ⟨q0, hq0⟩ : ∃ q, x % 2 = q := ⟨_, rfl⟩
      obtain ⟨q1, hq1⟩ : ∃ q, y % 8 = q := ⟨_, rfl⟩
      obtain ⟨q2, hq2⟩ : ∃ q, z % 32 = q := ⟨_, rfl⟩
      rw [hq0] at b0
      rw [hq1] at b1
      rw [hq2] at b2
      have iq1 : Hid (I64 q1) := Lib.hid ⟨by omega, by omega⟩
      have iq2 : Hid (I64 q2) := Lib.hid ⟨by omega, by omega⟩
      have ikk : Hid (I64 (k : Int)) := Lib.hid ⟨by omega, by omega⟩
      clear ix iy iz iu c0 c1 c2 c3 hq0 hq1 hq2
      go_upto_region 9 with fail
      refine wp_region_last (d := 14) (fuel := 14) (S := (fun wr' => wr'.cell? ⟨g, off + k * 4 + 1, none⟩ = some (.int .i64 y) ∧ wr'.cell? ⟨g, off + k * 4 + 2, none⟩ = some (.int .i64 z))) (by kernel_rfl) (by kernel_rfl) rfl ?_ (fun hHeld => ?_)
      · (try dsimp only); exact ⟨c1w.out, c2w.out⟩
      try simp only [Act.put, List.setIfInBounds_toArray, List.set_cons_zero, List.set_cons_succ]
      refine wpAnyH_take (i := 0) (oi := { dst := some 26, op := Op.move (Operand.tmp 0), type := 22, pos := "law.go:92", after := #[], guard := none }) (v := ?_) rfl (by kernel_rfl) (by kernel_rfl) (by kernel_rfl) (fun _ _ _ h => h) (Or.inl ⟨by rfl, ?_⟩) (by assumption) ?_
      rotate_left 1
      · intro w hSw; (try dsimp only at hSw); go_simp <;> with_reducible rfl
      try simp only [Act.put, List.setIfInBounds_toArray, List.set_cons_zero, List.set_cons_succ]
      refine wpAnyH_take (i := 1) (oi := { dst := some 27, op := Op.move (Operand.tmp 6), type := 3, pos := "law.go:92", after := #[], guard := none }) (v := ?_) rfl (by kernel_rfl) (by kernel_rfl) (by kernel_rfl) (fun _ _ _ h => h) (Or.inl ⟨by rfl, ?_⟩) (by assumption) ?_
      rotate_left 1
      · intro w hSw; (try dsimp only at hSw); go_simp <;> with_reducible rfl
      try simp only [Act.put, List.setIfInBounds_toArray, List.set_cons_zero, List.set_cons_succ]
      refine wpAnyH_take (i := 2) (oi := { dst := some 28, op := Op.indexAddr 22 (Operand.tmp 26) (Operand.tmp 27), type := 0, pos := "law.go:92", after := #[{ on := 0, ground := Ground.data }, { on := 1, ground := Ground.data }], guard := none }) (v := ?_) rfl (by kernel_rfl) (by kernel_rfl) (by kernel_rfl) (fun _ _ _ h => h) (Or.inl ⟨by rfl, ?_⟩) (by assumption) ?_
      rotate_left 1
      · intro w hSw; (try dsimp only at hSw); go_simp <;> with_reducible rfl
      try simp only [Act.put, List.setIfInBounds_toArray, List.set_cons_zero, List.set_cons_succ]
      refine wpAnyH_take (i := 3) (oi := { dst := some 29, op := Op.fieldAddr 24 (Operand.tmp 28) 1, type := 0, pos := "law.go:92", after := #[{ on := 2, ground := Ground.data }], guard := none }) (v := ?_) rfl (by kernel_rfl) (by kernel_rfl) (by kernel_rfl) (fun _ _ _ h => h) (Or.inl ⟨by rfl, ?_⟩) (by assumption) ?_
      rotate_left 1
      · intro w hSw; (try dsimp only at hSw); go_simp <;> with_reducible rfl
      try simp only [Act.put, List.setIfInBounds_toArray, List.set_cons_zero, List.set_cons_succ]
      refine wpAnyH_take (i := 4) (oi := { dst := some 30, op := Op.load 3 (Operand.tmp 29), type := 3, pos := "law.go:92", after := #[{ on := 3, ground := Ground.data }], guard := none }) (v := ?_) rfl (by kernel_rfl) (by kernel_rfl) (by kernel_rfl) (fun _ _ _ h => h) (Or.inl ⟨by rfl, ?_⟩) (by assumption) ?_
      rotate_left 1
      · intro w hSw; (try dsimp only at hSw); go_simp <;> with_reducible rfl
      try simp only [Act.put, List.setIfInBounds_toArray, List.set_cons_zero, List.set_cons_succ]
      refine wpAnyH_take (i := 5) (oi := { dst := some 31, op := Op.binOp BinOp.and 3 (Operand.tmp 30) (Operand.const (Value.int IntKind.i64 7)) 3, type := 3, pos := "law.go:92", after := #[{ on := 4, ground := Ground.data }], guard := none }) (v := ?_) rfl (by kernel_rfl) (by kernel_rfl) (by kernel_rfl) (fun _ _ _ h => h) (Or.inl ⟨by rfl, ?_⟩) (by assumption) ?_
      rotate_left 1
      · intro w hSw; (try dsimp only at hSw); go_simp <;> with_reducible rfl
      try simp only [Act.put, List.setIfInBounds_toArray, List.set_cons_zero, List.set_cons_succ]
      refine wpAnyH_take (i := 6) (oi := { dst := some 32, op := Op.move (Operand.tmp 0), type := 22, pos := "law.go:92", after := #[], guard := none }) (v := ?_) rfl (by kernel_rfl) (by kernel_rfl) (by kernel_rfl) (fun _ _ _ h => h) (Or.inl ⟨by rfl, ?_⟩) (by assumption) ?_
      rotate_left 1
      · intro w hSw; (try dsimp only at hSw); go_simp <;> with_reducible rfl
      try simp only [Act.put, List.setIfInBounds_toArray, List.set_cons_zero, List.set_cons_succ]
      refine wpAnyH_take (i := 7) (oi := { dst := some 33, op := Op.move (Operand.tmp 6), type := 3, pos := "law.go:92", after := #[], guard := none }) (v := ?_) rfl (by kernel_rfl) (by kernel_rfl) (by kernel_rfl) (fun _ _ _ h => h) (Or.inl ⟨by rfl, ?_⟩) (by assumption) ?_
      rotate_left 1
      · intro w hSw; (try dsimp only at hSw); go_simp <;> with_reducible rfl
      try simp only [Act.put, List.setIfInBounds_toArray, List.set_cons_zero, List.set_cons_succ]
      refine wpAnyH_take (i := 8) (oi := { dst := some 34, op := Op.indexAddr 22 (Operand.tmp 32) (Operand.tmp 33), type := 0, pos := "law.go:92", after := #[{ on := 6, ground := Ground.data }, { on := 7, ground := Ground.data }], guard := none }) (v := ?_) rfl (by kernel_rfl) (by kernel_rfl) (by kernel_rfl) (fun _ _ _ h => h) (Or.inl ⟨by rfl, ?_⟩) (by assumption) ?_
      rotate_left 1
      · intro w hSw; (try dsimp only at hSw); go_simp <;> with_reducible rfl
      try simp only [Act.put, List.setIfInBounds_toArray, List.set_cons_zero, List.set_cons_succ]
      refine wpAnyH_take (i := 9) (oi := { dst := some 35, op := Op.fieldAddr 24 (Operand.tmp 34) 2, type := 0, pos := "law.go:92", after := #[{ on := 8, ground := Ground.data }], guard := none }) (v := ?_) rfl (by kernel_rfl) (by kernel_rfl) (by kernel_rfl) (fun _ _ _ h => h) (Or.inl ⟨by rfl, ?_⟩) (by assumption) ?_
      rotate_left 1
      · intro w hSw; (try dsimp only at hSw); go_simp <;> with_reducible rfl
      try simp only [Act.put, List.setIfInBounds_toArray, List.set_cons_zero, List.set_cons_succ]
      refine wpAnyH_take (i := 10) (oi := { dst := some 36, op := Op.load 3 (Operand.tmp 35), type := 3, pos := "law.go:92", after := #[{ on := 9, ground := Ground.data }], guard := none }) (v := ?_) rfl (by kernel_rfl) (by kernel_rfl) (by kernel_rfl) (fun _ _ _ h => h) (Or.inl ⟨by rfl, ?_⟩) (by assumption) ?_
      rotate_left 1
      · intro w hSw; (try dsimp only at hSw); go_simp <;> with_reducible rfl
      try simp only [Act.put, List.setIfInBounds_toArray, List.set_cons_zero, List.set_cons_succ]
      refine wpAnyH_take (i := 11) (oi := { dst := some 37, op := Op.binOp BinOp.and 3 (Operand.tmp 36) (Operand.const (Value.int IntKind.i64 31)) 3, type := 3, pos := "law.go:92", after := #[{ on := 10, ground := Ground.data }], guard := none }) (v := ?_) rfl (by kernel_rfl) (by kernel_rfl) (by kernel_rfl) (fun _ _ _ h => h) (Or.inl ⟨by rfl, ?_⟩) (by assumption) ?_
      rotate_left 1
      · intro w hSw; (try dsimp only at hSw); go_simp <;> with_reducible rfl
      try simp only [Act.put, List.setIfInBounds_toArray, List.set_cons_zero, List.set_cons_succ]
      refine wpAnyH_take (i := 12) (oi := { dst := some 38, op := Op.build 32 #[(0, Operand.tmp 31), (1, Operand.tmp 37)], type := 32, pos := "law.go:92", after := #[{ on := 5, ground := Ground.data }, { on := 11, ground := Ground.data }], guard := none }) (v := ?_) rfl (by kernel_rfl) (by kernel_rfl) (by kernel_rfl) (fun _ _ _ h => h) (Or.inl ⟨by rfl, ?_⟩) (by assumption) ?_
      rotate_left 1
      · intro w hSw; (try dsimp only at hSw); go_simp <;> with_reducible rfl
      try simp only [Act.put, List.setIfInBounds_toArray, List.set_cons_zero, List.set_cons_succ]
      refine wpAnyH_ready (rs := [13]) (by kernel_rfl) (by simp) ?_
      refine AllReadyH.cons (o := { dst := some 7, op := Op.alloc 32, type := 0, pos := "law.go:92", after := #[], guard := none }) rfl (fun K9 hK => ?_) ?_
      · go_simp
        refine hK.out _ _ ?_ ?_
        · (try dsimp only); exact ⟨cell_up ((Below.refl wr.heap.size wr).alloc (Nat.le_refl _) _) c1w.out, cell_up ((Below.refl wr.heap.size wr).alloc (Nat.le_refl _) _) c2w.out⟩
        clear hK K9 hHeld; intro hHeld
        try simp only [Act.put, List.setIfInBounds_toArray, List.set_cons_zero, List.set_cons_succ]
        refine last_step (o := { dst := none, op := Op.store 32 (Operand.tmp 7) (Operand.tmp 38), type := 0, pos := "law.go:92", after := #[{ on := 13, ground := Ground.data }, { on := 12, ground := Ground.data }, { on := 0, ground := Ground.phase }, { on := 1, ground := Ground.phase }, { on := 2, ground := Ground.phase }, { on := 3, ground := Ground.phase }, { on := 4, ground := Ground.phase }, { on := 5, ground := Ground.phase }, { on := 6, ground := Ground.phase }, { on := 7, ground := Ground.phase }, { on := 8, ground := Ground.phase }, { on := 9, ground := Ground.phase }, { on := 10, ground := Ground.phase }, { on := 11, ground := Ground.phase }, { on := 12, ground := Ground.phase }, { on := 13, ground := Ground.phase }], guard := none }) rfl (by kernel_rfl) (fun K hK => ?_)
        go_simp
        refine hK.out _ _ ?_
        clear hK K
        try simp only [Act.put, List.setIfInBounds_toArray, List.set_cons_zero, List.set_cons_succ]
        have hBn : Below wr.heap.size wr (wr.alloc (.cells #[.int .i64 q1, .int .i64 q2] 32)).drew := ((Below.refl _ _).alloc (Nat.le_refl _) _).drew
        have hBF : Hid (¬ F wr.heap.size) := Lib.hid (fun h => by have := K.lt hS.out.pc.da _ h; omega)
        have hk0 : (wr.alloc (.cells #[.int .i64 q1, .int .i64 q2] 32)).drew.cell? ⟨wr.heap.size, 0, none⟩ = some (.int .i64 q1) := (key_new wr q1 q2).1
        have hk1 : (wr.alloc (.cells #[.int .i64 q1, .int .i64 q2] 32)).drew.cell? ⟨wr.heap.size, 1, none⟩ = some (.int .i64 q2) := (key_new wr q1 q2).2
        have c0 := cell_up hBn c0w.out
        have hS9 := Lib.hid (hS.out.keep K hBn)
        clear hS hBn c0w c1w c2w hHeld
        generalize (wr.alloc (.cells #[.int .i64 q1, .int .i64 q2] 32)).drew = W at *
        generalize wr.heap.size = B at *
        by_cases hq : q0 = 0
        · have hq' : (q0 == 0) = true := by simpa using hq
          clear hq
          go_wp2_with fail
          refine (put_s K hS9.out.pc iq1.out iq2.out ikk.out (S' := putS S q1 q2 k) rfl).mono ?_
          rintro e w4 ⟨F', rfl, h0, hc, hn⟩
          have hM := Lib.hid (hS9.out.mid h0 hc hn)
          have hj0 := ch_cell hk0 hc hBF.out
          have hj1 := ch_cell hk1 hc hBF.out
          clear h0 hc hn hS9 hk0 hk1 c0
          obtain ⟨w5, hrun, hm5, hg5, hz5⟩ := hM.out.mp.put (by have : 1000 ≤ maxLen := by decide
                                                                omega) (p := (q1, q2)) ⟨iq1.out, iq2.out⟩ (v := (k : Int)) (WalkArith.wf_i64 ⟨ikk.out.1, ikk.out.2⟩)
          have hi5 := hM.out.inv.put q1 q2 (k : Int)
          have hcb : (if (M (q1, q2)).isSome then c else c + 1) ≤ k + 1 := by split <;> omega
          generalize (if (M (q1, q2)).isSome then c else c + 1) = c' at *
          have hS5 := Lib.hid (hM.out.put K hm5 hg5 hi5)
          have hb5 : Hid ((putS S q1 q2 k).h + (putS S q1 q2 k).m = a) := Lib.hid hbS.out
          unfold plV at hrun
          simp only at hrun
          clear hm5 hg5 hz5 hi5 hM
          go_wp2_with fail
          go_roundw
          case rel => exact ⟨k + 1, c', a, _, _, _, by omega, by omega, by go_num, rfl, by omega, by omega, hS5, hb5⟩
          case measure => simp [intOf]; omega
        · have hq' : (q0 == 0) = false := by simpa using hq
          clear hq
          have hb3 : Hid (S.h + S.m < 1000000) := Lib.hid (by have := hbS.out; omega)
          have hb5 : Hid ((getS S q1 q2).h + (getS S q1 q2).m = a + 1) := Lib.hid (by have := hbS.out; rw [get_sum]; omega)
          obtain ⟨gx, hgx0⟩ : ∃ gx, getM S q1 q2 = gx := ⟨_, rfl⟩
          have hgx := Lib.hid hgx0
          cases hgy0 : getB S q1 q2 with
          | true =>
            have ht := hS9.out.inv.tell hgy0
            rw [hgx0] at ht
            have hgy := Lib.hid hgy0
            clear hgx0 hgy0
            go_wp2_with fail
            refine (get_s K hS9.out.pc iq1.out iq2.out hb3.out hgx.out hgy.out (S' := getS S q1 q2) rfl).mono ?_
            rintro e w4 ⟨F', rfl, h0, hc, hn⟩
            have hM := Lib.hid (hS9.out.mid h0 hc hn)
            have hj0 := ch_cell hk0 hc hBF.out
            have hj1 := ch_cell hk1 hc hBF.out
            have hrun := hM.out.mp.look_ok (p := (q1, q2)) ⟨iq1.out, iq2.out⟩
            rw [ht] at hrun
            unfold plV at hrun
            simp only [Option.getD_some, Option.isSome_some] at hrun
            have hS5 := Lib.hid (hM.out.got (hM.out.inv.get q1 q2))
            clear h0 hc hn hS9 hk0 hk1 c0 hM ht
            go_wp2_with fail
            go_roundw
            case rel => exact ⟨k + 1, c, a + 1, _, _, _, by omega, by omega, by go_num, by go_num, by omega, by omega, hS5, hb5⟩
            case measure => simp [intOf]; omega
          | false =>
            have ht := get_no hgy0
            rw [hgx0] at ht
            subst ht
            have hgy := Lib.hid hgy0
            clear hgx0 hgy0
            go_wp2_with fail
            refine (get_s K hS9.out.pc iq1.out iq2.out hb3.out hgx.out hgy.out (S' := getS S q1 q2) rfl).mono ?_
            rintro e w4 ⟨F', rfl, h0, hc, hn⟩
            have hM := Lib.hid (hS9.out.mid h0 hc hn)
            have hj0 := ch_cell hk0 hc hBF.out
            have hj1 := ch_cell hk1 hc hBF.out
            have hrun := hM.out.mp.look_ok (p := (q1, q2)) ⟨iq1.out, iq2.out⟩
            unfold plV at hrun
            simp only at hrun
            generalize (M (q1, q2)).getD 0 = gz at *
            generalize (M (q1, q2)).isSome = gw at *
            have hS5 := Lib.hid (hM.out.got (hM.out.inv.get q1 q2))
            clear h0 hc hn hS9 hk0 hk1 c0 hM
            go_wp2_with fail
            go_roundw
            case rel => exact ⟨k + 1, c, a + 1, _, _, _, by omega, by omega, by go_num, by go_num, by omega, by omega, hS5, hb5⟩
            case measure => simp [intOf]; omega
      exact AllReadyH.nil
    · have hex : Hid (¬ (k < n ∧ k < 120)) := Lib.hid hlt
      obtain ⟨hN, hh0⟩ : ∃ x, S.h = x := ⟨_, rfl⟩
      obtain ⟨mN, hm0⟩ : ∃ x, S.m = x := ⟨_, rfl⟩
      obtain ⟨cN, hc0⟩ : ∃ x, cntL S = x := ⟨_, rfl⟩
      have hsum := hbS.out
      have hc32 : cN ≤ 32 := by rw [← hc0]; exact cntK_le _ _
      have hcc : cN ≤ c := by rw [← hc0]; exact hS.out.inv.i3
      rw [hh0, hm0] at hsum
      have hw : IntKind.i64.wrap ((hN : Int) + (mN : Int)) = (a : Nat) := by rw [IntKind.wrap_i64]; omega
      have hle : decide ((cN : Int) ≤ 32) = true := by simp; omega
      have hlc : decide ((cN : Int) ≤ (c : Int)) = true := by simp; omega
      have hh := Lib.hid hh0
      have hm := Lib.hid hm0
      have hc := Lib.hid hc0
      clear hh0 hm0 hc0 hsum
      by_cases hlt1 : k < n
      · have d1 : decide ((k : Int) < (n : Int)) = true := by simp; omega
        have d2 : decide ((k : Int) < 120) = false := by simp; omega
        clear hlt
        go_wp2_with fail
        refine (hits_s K hS.out.pc hh.out).mono ?_
        rintro e y1 ⟨rfl, _, hb⟩
        replace hS := Lib.hid (hS.out.keep K hb)
        clear hb
        go_wp2_with fail
        refine (misses_s K hS.out.pc hm.out).mono ?_
        rintro e y2 ⟨rfl, _, hb⟩
        replace hS := Lib.hid (hS.out.keep K hb)
        clear hb
        go_wp2_with fail
        refine (len_s K hS.out.pc hc.out).mono ?_
        rintro e y3 ⟨rfl, _, hb⟩
        replace hS := Lib.hid (hS.out.keep K hb)
        clear hb
        go_wp2_with fail
        refine (len_s K hS.out.pc hc.out).mono ?_
        rintro e y4 ⟨rfl, _, hb⟩
        replace hS := Lib.hid (hS.out.keep K hb)
        clear hb
        have hln := fun ty => hS.out.mp.len ty
        go_wp2_with fail
        refine (known_c K _).mono ?_
        rintro e y5 ⟨rfl, hb⟩
        replace hS := Lib.hid (hS.out.keep K hb)
        clear hb hln
        go_wp2
        go_ret
        exact ⟨rfl, hS.out.pc.bel⟩
      · have d1 : decide ((k : Int) < (n : Int)) = false := by simp; omega
        clear hlt
        go_wp2_with fail
        refine (hits_s K hS.out.pc hh.out).mono ?_
        rintro e y1 ⟨rfl, _, hb⟩
        replace hS := Lib.hid (hS.out.keep K hb)
        clear hb
        go_wp2_with fail
        refine (misses_s K hS.out.pc hm.out).mono ?_
        rintro e y2 ⟨rfl, _, hb⟩
        replace hS := Lib.hid (hS.out.keep K hb)
        clear hb
        go_wp2_with fail
        refine (len_s K hS.out.pc hc.out).mono ?_
        rintro e y3 ⟨rfl, _, hb⟩
        replace hS := Lib.hid (hS.out.keep K hb)
        clear hb
        go_wp2_with fail
        refine (len_s K hS.out.pc hc.out).mono ?_
        rintro e y4 ⟨rfl, _, hb⟩
        replace hS := Lib.hid (hS.out.keep K hb)
        clear hb
        have hln := fun ty => hS.out.mp.len ty
        go_wp2_with fail
        refine (known_c K _).mono ?_
        rintro e y5 ⟨rfl, hb⟩
        replace hS := Lib.hid (hS.out.keep K hb)
        clear hb hln
        go_wp2
        go_ret
        exact ⟨rfl, hS.out.pc.bel⟩
end Wd
end Go.Proofs.Ytpilbpofikdkmaa
