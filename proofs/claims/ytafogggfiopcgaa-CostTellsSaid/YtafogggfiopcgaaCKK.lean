/- The package's meter as landed: its contracts. -/
import Derived.Test.YtafogggfiopcgaaCRight
import Derived.Test.YtafogggfiopcgaaCLaw
import Derived.StillTailTactics
namespace Go.Proofs.Ytafogggfiopcgaa
open Go.RowKit
set_option linter.unusedVariables false
namespace Wd
/-- n, or the end of 0 to m that it lies beyond -/
def hld (n m : Int) : Int := if n < 0 then 0 else if m < n then m else n
theorem hld_c (n m : Int) (w : World) :
    Calls Try.prog 19 #[.int .i64 n, .int .i64 m] w fun e w' => e = .returned (.int .i64 (hld n m)) ∧ w' = w := by
  by_cases h1 : n < 0
  · have e : hld n m = 0 := by unfold hld; rw [if_pos h1]
    rw [e]
    have d1 : decide (n < 0) = true := by simpa using h1
    go_enter Try.func19, Try.ntmps19
    go_wp2
    go_ret
    exact ⟨rfl, rfl⟩
  · have d1 : decide (n < 0) = false := by simpa using h1
    by_cases h2 : m < n
    · have e : hld n m = m := by unfold hld; rw [if_neg h1, if_pos h2]
      rw [e]
      have d2 : decide (m < n) = true := by simpa using h2
      have d3 : decide (n > m) = true := by simpa using h2
      go_enter Try.func19, Try.ntmps19
      go_wp2
      go_ret
      exact ⟨rfl, rfl⟩
    · have e : hld n m = n := by unfold hld; rw [if_neg h1, if_neg h2]
      rw [e]
      have d2 : decide (m < n) = false := by simpa using h2
      have d3 : decide (n > m) = false := by simpa using h2
      go_enter Try.func19, Try.ntmps19
      go_wp2
      go_ret
      exact ⟨rfl, rfl⟩
/-- at block p a meter that counted t, l of it ahead of the last mark; the greatest mark is m -/
def CA (w : World) (p : Nat) (t l m : Int) (F : Nat → Prop) : Prop :=
  F = (fun b => b = p) ∧ w.cell? ⟨p, 0, none⟩ = some (.int .i64 t) ∧ w.cell? ⟨p, 1, none⟩ = some (.int .i64 (t - l)) ∧ w.cell? ⟨p, 2, none⟩ = some (.int .i64 m) ∧ (∀ j, w.frozen? ⟨p, j, none⟩ = false) ∧ 0 ≤ l ∧ l ≤ t ∧ t ≤ 1152921504606846976 ∧ 0 ≤ m ∧ m ≤ 1152921504606846976
theorem Ch.refl (F : Nat → Prop) (w : World) : Ch F w w := ⟨rfl, rfl, rfl, Nat.le_refl _, fun _ _ _ => rfl⟩
theorem Ch.set {F : Nat → Prop} {w w' : World} (h : Ch F w w') (a : Addr) (ha : F a.block) (v : Value) : Ch F w (w'.setCell a v) :=
  ⟨h.os, h.tape, h.output, by rw [World.size_setCell]; exact h.size, fun k hk hn => (Below.heap_setCell _ _ _ _ (fun e => hn (by rw [e]; exact ha))).trans (h.block k hk hn)⟩
theorem made_cell {w : World} {q k : Nat} {C : Array Value} {T : TypeId} {v : Value} (h : w.heap[q]? = some (.cells C T (0, 0))) (hk : C[k]? = some v) : w.cell? ⟨q, k, none⟩ = some v := by
  simp [World.cell?, h, hk]
theorem made_loose {w : World} {q k : Nat} {C : Array Value} {T : TypeId} (h : w.heap[q]? = some (.cells C T (0, 0))) : w.frozen? ⟨q, k, none⟩ = false := by
  simp [World.frozen?, h]
theorem ne_off (p : Nat) {i j : Nat} (h : i ≠ j) : (⟨p, i, none⟩ : Addr) ≠ ⟨p, j, none⟩ := by intro e; injection e with _ h2; omega
/-- three numbers at block p -/
structure C3 (w : World) (p : Nat) (a b c : Int) : Prop where
  c0 : w.cell? ⟨p, 0, none⟩ = some (.int .i64 a)
  c1 : w.cell? ⟨p, 1, none⟩ = some (.int .i64 b)
  c2 : w.cell? ⟨p, 2, none⟩ = some (.int .i64 c)
  z : ∀ j, w.frozen? ⟨p, j, none⟩ = false
theorem C3.s0 {w : World} {p : Nat} {a b c : Int} (h : C3 w p a b c) (x : Int) : C3 (w.setCell ⟨p, 0, none⟩ (.int .i64 x)) p x b c :=
  ⟨World.cell?_setCell_same _ _ _ h.c0, (World.cell?_setCell_other _ _ _ _ (ne_off p (by decide))).trans h.c1, (World.cell?_setCell_other _ _ _ _ (ne_off p (by decide))).trans h.c2, fun j => by rw [World.frozen?_setCell]; exact h.z j⟩
theorem C3.s1 {w : World} {p : Nat} {a b c : Int} (h : C3 w p a b c) (x : Int) : C3 (w.setCell ⟨p, 1, none⟩ (.int .i64 x)) p a x c :=
  ⟨(World.cell?_setCell_other _ _ _ _ (ne_off p (by decide))).trans h.c0, World.cell?_setCell_same _ _ _ h.c1, (World.cell?_setCell_other _ _ _ _ (ne_off p (by decide))).trans h.c2, fun j => by rw [World.frozen?_setCell]; exact h.z j⟩
theorem C3.s2 {w : World} {p : Nat} {a b c : Int} (h : C3 w p a b c) (x : Int) : C3 (w.setCell ⟨p, 2, none⟩ (.int .i64 x)) p a b x :=
  ⟨(World.cell?_setCell_other _ _ _ _ (ne_off p (by decide))).trans h.c0, (World.cell?_setCell_other _ _ _ _ (ne_off p (by decide))).trans h.c1, World.cell?_setCell_same _ _ _ h.c2, fun j => by rw [World.frozen?_setCell]; exact h.z j⟩
theorem CA.c3 {w : World} {p : Nat} {t l m : Int} {F : Nat → Prop} (h : CA w p t l m F) : C3 w p t (t - l) m := ⟨h.2.1, h.2.2.1, h.2.2.2.1, h.2.2.2.2.1⟩
theorem add_c {w : World} {p : Nat} {t l m : Int} {F : Nat → Prop} (x : Int) (h : CA w p t l m F) (hx : InI x) (ht : t + held x ≤ top) : Calls Try.prog 13 #[.pointer (some ⟨p, 0, none⟩), .int .i64 x] w fun e w' => e = .returned (.tuple #[]) ∧ CA w' p (t + held x) l m F ∧ Ch F w w' := by
  have ht' : t + held x ≤ 1152921504606846976 := ht
  have hx0 := hx.1
  have hx1 := hx.2
  have e : hld x 1048576 = held x := by unfold hld held; split <;> (try split) <;> omega
  have P := Lib.hid (hld_c x 1048576)
  rw [e] at P
  have hb := held_bd x
  have h3 := Lib.hid h.c3
  obtain ⟨rfl, c0, c1, c2, z, l0, l1, t1, m0, m1⟩ := h
  generalize held x = y at *
  obtain ⟨y0, y1⟩ := hb
  have e2 : hld (t + y) 1152921504606846976 = t + y := by unfold hld; split <;> (try split) <;> omega
  have e3 : hld (t - l + y) 1152921504606846976 = t - l + y := by unfold hld; split <;> (try split) <;> omega
  have P2 := Lib.hid (hld_c (t + y) 1152921504606846976)
  have P3 := Lib.hid (hld_c (t - l + y) 1152921504606846976)
  rw [e2] at P2
  rw [e3] at P3
  have hw2 : IntKind.i64.wrap (t + y) = t + y := by rw [IntKind.wrap_i64]; omega
  obtain ⟨s, hs⟩ : ∃ s, s = t - l := ⟨_, rfl⟩
  rw [← hs] at c1 P3 h3 e3
  have hw3 : IntKind.i64.wrap (s + y) = s + y := by rw [IntKind.wrap_i64]; omega
  have hs' := Lib.hid hs
  have z0 := z 0
  have z1 := z 1
  have f3 := Lib.hid ((h3.out.s0 (t + y)).s1 (s + y))
  have cc := (h3.out.s0 (t + y)).c1
  have zz := (h3.out.s0 (t + y)).z 1
  clear e e2 e3 z c2 hs
  go_enter Try.func13, Try.ntmps13
  go_wp2_with (first | (go_at_call 19; ((with_reducible refine (P.out _).mono ?_); rintro e w' ⟨rfl, hw'⟩; subst w')) | (go_at_call 19; ((with_reducible refine (P2.out _).mono ?_); rintro e w' ⟨rfl, hw'⟩; subst w')) | (go_at_call 19; ((with_reducible refine (P3.out _).mono ?_); rintro e w' ⟨rfl, hw'⟩; subst w')))
  go_end0
  have hs := hs'.out
  have f := f3.out
  refine ⟨rfl, ⟨rfl, f.c0, ?_, f.c2, f.z, l0, ?_, ht', m0, m1⟩, ((Ch.refl (fun b => b = p) w).set ⟨p, 0, none⟩ rfl _).set ⟨p, 1, none⟩ rfl _⟩
  · rw [f.c1, hs, show t - l + y = t + y - l by omega]
  · omega
theorem mark_c {w : World} {p : Nat} {t l m : Int} {F : Nat → Prop} (h : CA w p t l m F) : Calls Try.prog 14 #[.pointer (some ⟨p, 0, none⟩)] w fun e w' => e = .returned (.int .i64 (t - l)) ∧ CA w' p t t (max m (t - l)) F ∧ Ch F w w' := by
  have h3 := Lib.hid h.c3
  obtain ⟨rfl, c0, c1, c2, z, l0, l1, t1, m0, m1⟩ := h
  obtain ⟨s, hs⟩ : ∃ s, s = t - l := ⟨_, rfl⟩
  rw [← hs] at c1 h3 ⊢
  have hs' := Lib.hid hs
  have f1 := Lib.hid (h3.out.s1 0)
  have cc := f1.out.c2
  have z1 := z 1
  have zz := f1.out.z 2
  by_cases hg : m < s
  · have d1 : decide (m < s) = true := by simpa using hg
    have d2 : decide (s > m) = true := by simpa using hg
    have f2 := Lib.hid (f1.out.s2 s)
    clear hs z
    go_enter Try.func14, Try.ntmps14
    go_wp2
    go_ret
    have hs := hs'.out
    have f := f2.out
    refine ⟨rfl, ⟨rfl, f.c0, ?_, ?_, f.z, by omega, by omega, t1, by omega, by omega⟩, ((Ch.refl (fun b => b = p) w).set ⟨p, 1, none⟩ rfl _).set ⟨p, 2, none⟩ rfl _⟩
    · rw [f.c1, show t - t = 0 by omega]
    · rw [f.c2, show max m s = s by omega]
  · have d1 : decide (m < s) = false := by simpa using hg
    have d2 : decide (s > m) = false := by simpa using hg
    clear hs z
    go_enter Try.func14, Try.ntmps14
    go_wp2
    go_ret
    have hs := hs'.out
    have f := f1.out
    refine ⟨rfl, ⟨rfl, f.c0, ?_, ?_, f.z, by omega, by omega, t1, by omega, by omega⟩, ((Ch.refl (fun b => b = p) w).set ⟨p, 1, none⟩ rfl _)⟩
    · rw [f.c1, show t - t = 0 by omega]
    · rw [f.c2, show max m s = m by omega]
set_option maxRecDepth 20000 in
theorem bound_c {w : World} (a b c d e p kind : Int) (ha : InI a) (hb : InI b) (hc : InI c) (hd : InI d) (he : InI e) (hp : InI p) (hk : InI kind) : Calls Try.prog 11 #[.agg #[.int .i64 a, .int .i64 b, .int .i64 c, .int .i64 d, .int .i64 e, .int .i64 p], .int .i64 kind] w fun r w' => r = .returned (.int .i64 (bndR a b c d e p kind)) ∧ Below w.heap.size w w' := by
  have P := Lib.hid (right_c a b c d e p ha.1 ha.2 hb.1 hb.2 hc.1 hc.2 hd.1 hd.2 he.1 he.2 hp.1 hp.2)
  have hq : rt a b c d e p = 0 → 1 ≤ p ∧ p ≤ 16 := by
    intro h0
    rcases rt_cases a b c d e p with ⟨_, q⟩ | ⟨_, ⟨_, q⟩ | ⟨p0, p1, q⟩⟩
    · omega
    · omega
    · exact ⟨p0, p1⟩
  by_cases h0 : rt a b c d e p = 0
  · obtain ⟨p0, p1⟩ := hq h0
    rw [h0] at P
    have w1 : IntKind.i64.wrap (p + 2) = p + 2 := by rw [IntKind.wrap_i64]; omega
    have w2 : IntKind.i64.wrap (128 * (p + 2)) = 128 * (p + 2) := by rw [IntKind.wrap_i64]; omega
    have w3 : IntKind.i64.wrap (64 + 128 * (p + 2)) = 64 + 128 * (p + 2) := by rw [IntKind.wrap_i64]; omega
    have w4 : IntKind.i64.wrap (64 + 128 * (p + 2) + 128) = 64 + 128 * (p + 2) + 128 := by rw [IntKind.wrap_i64]; omega
    unfold bndR
    rw [if_pos h0]
    clear ha hb hc hd he hp hq h0
    by_cases k0 : kind = 0
    · subst k0
      rw [if_pos rfl]
      go_enter Try.func11, Try.ntmps11
      go_wp2_with (first | (go_at_call 18; ((with_reducible refine (P.out _).mono ?_); rintro e w' ⟨rfl, hw'⟩; subst w')))
      go_ret
      exact ⟨rfl, by first | exact ((Below.refl w.heap.size w).alloc (Nat.le_refl _) _).alloc (by simp) _ | exact (Below.refl w.heap.size w).alloc (Nat.le_refl _) _ | trace_state⟩
    rw [if_neg k0]
    by_cases k1 : kind = 1
    · subst k1
      rw [if_pos rfl]
      go_enter Try.func11, Try.ntmps11
      go_wp2_with (first | (go_at_call 18; ((with_reducible refine (P.out _).mono ?_); rintro e w' ⟨rfl, hw'⟩; subst w')))
      go_ret
      exact ⟨rfl, by first | exact ((Below.refl w.heap.size w).alloc (Nat.le_refl _) _).alloc (by simp) _ | exact (Below.refl w.heap.size w).alloc (Nat.le_refl _) _ | trace_state⟩
    rw [if_neg k1]
    by_cases k2 : kind = 2
    · subst k2
      rw [if_pos rfl]
      go_enter Try.func11, Try.ntmps11
      go_wp2_with (first | (go_at_call 18; ((with_reducible refine (P.out _).mono ?_); rintro e w' ⟨rfl, hw'⟩; subst w')))
      go_ret
      exact ⟨rfl, by first | exact ((Below.refl w.heap.size w).alloc (Nat.le_refl _) _).alloc (by simp) _ | exact (Below.refl w.heap.size w).alloc (Nat.le_refl _) _ | trace_state⟩
    rw [if_neg k2]
    by_cases k3 : kind = 3
    · subst k3
      rw [if_pos rfl]
      go_enter Try.func11, Try.ntmps11
      go_wp2_with (first | (go_at_call 18; ((with_reducible refine (P.out _).mono ?_); rintro e w' ⟨rfl, hw'⟩; subst w')))
      go_ret
      exact ⟨rfl, by first | exact ((Below.refl w.heap.size w).alloc (Nat.le_refl _) _).alloc (by simp) _ | exact (Below.refl w.heap.size w).alloc (Nat.le_refl _) _ | trace_state⟩
    rw [if_neg k3]
    have d0 : decide (kind = 0) = false := by simpa using k0
    have d1 : decide (kind = 1) = false := by simpa using k1
    have d2 : decide (kind = 2) = false := by simpa using k2
    have d3 : decide (kind = 3) = false := by simpa using k3
    go_enter Try.func11, Try.ntmps11
    go_wp2_with (first | (go_at_call 18; ((with_reducible refine (P.out _).mono ?_); rintro e w' ⟨rfl, hw'⟩; subst w')))
    go_ret
    exact ⟨rfl, by first | exact ((Below.refl w.heap.size w).alloc (Nat.le_refl _) _).alloc (by simp) _ | exact (Below.refl w.heap.size w).alloc (Nat.le_refl _) _ | trace_state⟩
  · have d0 : decide (rt a b c d e p = 0) = false := by simpa using h0
    have e0 : bndR a b c d e p kind = 0 := by unfold bndR; rw [if_neg h0]
    rw [e0]
    generalize rt a b c d e p = r at *
    clear ha hb hc hd he hp hq e0
    go_enter Try.func11, Try.ntmps11
    go_wp2_with (first | (go_at_call 18; ((with_reducible refine (P.out _).mono ?_); rintro e w' ⟨rfl, hw'⟩; subst w')))
    go_ret
    exact ⟨rfl, by first | exact ((Below.refl w.heap.size w).alloc (Nat.le_refl _) _).alloc (by simp) _ | exact (Below.refl w.heap.size w).alloc (Nat.le_refl _) _ | trace_state⟩
theorem KK : CostK CA where
  lt := fun h b hb => by
    obtain ⟨rfl, c0, _⟩ := h
    subst hb
    exact World.block_lt_of_cell? _ _ c0
  keep := fun {w w' p t l m F} h hk => by
    obtain ⟨rfl, c0, c1, c2, z, r⟩ := h
    have hb := hk p rfl
    exact ⟨rfl, (World.cell?_of_block (a := ⟨p, 0, none⟩) hb).trans c0, (World.cell?_of_block (a := ⟨p, 1, none⟩) hb).trans c1, (World.cell?_of_block (a := ⟨p, 2, none⟩) hb).trans c2, fun j => (World.frozen?_of_block (a := ⟨p, j, none⟩) hb).trans (z j), r⟩
  bd := fun h => h.2.2.2.2.2
  new := fun {w} => by
    go_enter Try.func12, Try.ntmps12
    go_wp2
    go_ret
    have hh : (w.alloc (.cells #[.int .i64 0, .int .i64 0, .int .i64 0] 40)).heap[w.heap.size]? = some (.cells #[.int .i64 0, .int .i64 0, .int .i64 0] 40 (0, 0)) := heap_alloc_new _ _
    exact ⟨_, _, rfl, ⟨rfl, made_cell hh rfl, made_cell hh rfl, made_cell hh rfl, fun j => made_loose hh, by omega, by omega, by omega, by omega, by omega⟩, fun b hb => by omega, (Below.refl _ _).alloc (Nat.le_refl _) _⟩
  add := fun x h hx ht => add_c x h hx ht
  mark := fun h => mark_c h
  total := fun {w p t l m F} h => by
    obtain ⟨rfl, c0, c1, c2, z, r⟩ := h
    clear z r c1 c2
    go_enter Try.func15, Try.ntmps15
    go_wp2
    go_ret
    exact ⟨rfl, Below.refl _ _⟩
  most := fun {w p t l m F} h => by
    obtain ⟨rfl, c0, c1, c2, z, r⟩ := h
    clear z r c1 c0
    go_enter Try.func16, Try.ntmps16
    go_wp2
    go_ret
    exact ⟨rfl, Below.refl _ _⟩
  bound := fun a b c d e p kind ha hb hc hd he hp hk => bound_c a b c d e p kind ha hb hc hd he hp hk
end Wd
end Go.Proofs.Ytafogggfiopcgaa
