/- The package's pace as landed: its contracts. -/
import Derived.Test.YtgbhhejoglpboaaPLaw
import Derived.StillTailTactics
namespace Go.Proofs.Ytgbhhejoglpboaa
open Go.RowKit
set_option linter.unusedVariables false
namespace Wd
/-- n, or the end of l to m that it lies beyond -/
def hld (n l m : Int) : Int := if n < l then l else if m < n then m else n
theorem hld_c (n l m : Int) (w : World) :
    Calls Try.prog 15 #[.int .i64 n, .int .i64 l, .int .i64 m] w fun e w' => e = .returned (.int .i64 (hld n l m)) ∧ w' = w := by
  by_cases h1 : n < l
  · have e : hld n l m = l := by unfold hld; rw [if_pos h1]
    rw [e]
    have d1 : decide (n < l) = true := by simpa using h1
    go_enter Try.func15, Try.ntmps15
    go_wp2
    go_ret
    exact ⟨rfl, rfl⟩
  · have d1 : decide (n < l) = false := by simpa using h1
    by_cases h2 : m < n
    · have e : hld n l m = m := by unfold hld; rw [if_neg h1, if_pos h2]
      rw [e]
      have d2 : decide (m < n) = true := by simpa using h2
      have d3 : decide (n > m) = true := by simpa using h2
      go_enter Try.func15, Try.ntmps15
      go_wp2
      go_ret
      exact ⟨rfl, rfl⟩
    · have e : hld n l m = n := by unfold hld; rw [if_neg h1, if_neg h2]
      rw [e]
      have d2 : decide (m < n) = false := by simpa using h2
      have d3 : decide (n > m) = false := by simpa using h2
      go_enter Try.func15, Try.ntmps15
      go_wp2
      go_ret
      exact ⟨rfl, rfl⟩
/-- at block p lies a pace k with the debt d -/
def PA (w : World) (p : Nat) (k d : Int) (F : Nat → Prop) : Prop :=
  F = (fun b => b = p) ∧ w.cell? ⟨p, 0, none⟩ = some (.int .i64 k) ∧ w.cell? ⟨p, 1, none⟩ = some (.int .i64 d) ∧ (∀ j, w.frozen? ⟨p, j, none⟩ = false) ∧ 1 ≤ k ∧ k ≤ 16 ∧ 0 ≤ d ∧ d ≤ 1099511627776
theorem Ch.refl (F : Nat → Prop) (w : World) : Ch F w w := ⟨rfl, rfl, rfl, Nat.le_refl _, fun _ _ _ => rfl⟩
theorem Ch.set {F : Nat → Prop} {w w' : World} (h : Ch F w w') (a : Addr) (ha : F a.block) (v : Value) : Ch F w (w'.setCell a v) :=
  ⟨h.os, h.tape, h.output, by rw [World.size_setCell]; exact h.size, fun k hk hn => (Below.heap_setCell _ _ _ _ (fun e => hn (by rw [e]; exact ha))).trans (h.block k hk hn)⟩
theorem PA.setD {w : World} {p : Nat} {k d d' : Int} {F : Nat → Prop} (h : PA w p k d F) (h0 : 0 ≤ d') (h1 : d' ≤ 1099511627776) : PA (w.setCell ⟨p, 1, none⟩ (.int .i64 d')) p k d' F :=
  ⟨h.1, (World.cell?_setCell_other _ _ _ _ (by intro e; injection e with _ h2; omega)).trans h.2.1, World.cell?_setCell_same _ _ _ h.2.2.1, fun j => by rw [World.frozen?_setCell]; exact h.2.2.2.1 j, h.2.2.2.2.1, h.2.2.2.2.2.1, h0, h1⟩
theorem owe_c {w : World} {p : Nat} {k d : Int} {F : Nat → Prop} (x : Int) (h : PA w p k d F) (x0 : -16777216 ≤ x) (x1 : x ≤ 16777216) :
    Calls Try.prog 16 #[.pointer (some ⟨p, 0, none⟩), .int .i64 x] w fun e w' => e = .returned (.tuple #[]) ∧ PA w' p k (hld (d + x) 0 1099511627776) F ∧ Ch F w w' := by
  have hp := Lib.hid h
  obtain ⟨rfl, c0, c1, z, k0, k1, d0, d1⟩ := h
  have zz := z 1
  have hw : IntKind.i64.wrap (d + x) = d + x := by rw [IntKind.wrap_i64]; omega
  have b0 : 0 ≤ hld (d + x) 0 1099511627776 := by unfold hld; split <;> (try split) <;> omega
  have b1 : hld (d + x) 0 1099511627776 ≤ 1099511627776 := by unfold hld; split <;> (try split) <;> omega
  have P := Lib.hid (hld_c (d + x) 0 1099511627776)
  generalize hld (d + x) 0 1099511627776 = y at *
  clear z
  go_enter Try.func16, Try.ntmps16
  go_wp2_with (first | (go_at_call 15; ((with_reducible refine (P.out _).mono ?_); rintro e w' ⟨rfl, hw'⟩; subst w')))
  go_end0
  exact ⟨rfl, hp.out.setD b0 b1, (Ch.refl (fun b => b = p) w).set ⟨p, 1, none⟩ rfl _⟩
theorem made_cell {w : World} {q k : Nat} {C : Array Value} {T : TypeId} {v : Value} (h : w.heap[q]? = some (.cells C T (0, 0))) (hk : C[k]? = some v) : w.cell? ⟨q, k, none⟩ = some v := by
  simp [World.cell?, h, hk]
theorem made_loose {w : World} {q k : Nat} {C : Array Value} {T : TypeId} (h : w.heap[q]? = some (.cells C T (0, 0))) : w.frozen? ⟨q, k, none⟩ = false := by
  simp [World.frozen?, h]
theorem PA.drew {w : World} {p : Nat} {k d : Int} {F : Nat → Prop} (h : PA w p k d F) : PA w.drew p k d F := h
theorem KK : PaceK PA where
  lt := fun h b hb => by
    obtain ⟨rfl, c0, _⟩ := h
    subst hb
    exact World.block_lt_of_cell? _ _ c0
  keep := fun {w w' p k d F} h hk => by
    obtain ⟨rfl, c0, c1, z, r⟩ := h
    have hb := hk p rfl
    exact ⟨rfl, (World.cell?_of_block (a := ⟨p, 0, none⟩) hb).trans c0, (World.cell?_of_block (a := ⟨p, 1, none⟩) hb).trans c1, fun j => (World.frozen?_of_block (a := ⟨p, j, none⟩) hb).trans (z j), r⟩
  bd := fun h => h.2.2.2.2
  new := fun {w} k k0 k1 => by
    have e : hld k 1 16 = clampK k := by unfold hld clampK; split <;> (try split) <;> omega
    have P := Lib.hid (hld_c k 1 16)
    rw [e] at P
    have hb := clamp_bd k
    generalize clampK k = y at *
    clear e
    go_enter Try.func10, Try.ntmps10
    go_wp2_with (first | (go_at_call 15; ((with_reducible refine (P.out _).mono ?_); rintro e w' ⟨rfl, hw'⟩; subst w')))
    go_ret
    have hh : (w.alloc (.cells #[.int .i64 y, .int .i64 0] 33)).heap[w.heap.size]? = some (.cells #[.int .i64 y, .int .i64 0] 33 (0, 0)) := heap_alloc_new _ _
    exact ⟨_, _, rfl, ⟨rfl, made_cell hh rfl, made_cell hh rfl, fun j => made_loose hh, hb.1, hb.2, by omega, by omega⟩, fun b hb => by omega, (Below.refl _ _).alloc (Nat.le_refl _) _⟩
  give := fun {w p k d F} x h x0 x1 => by
    have e : hld x 0 1048576 = held x := by unfold hld held; split <;> (try split) <;> omega
    have P := Lib.hid (hld_c x 0 1048576)
    rw [e] at P
    have hb := held_bd x
    obtain ⟨c0, c1, z, k0, k1, d0, d1⟩ := h.2
    have hm := prod_bd k0 k1 hb.1
    have hw : IntKind.i64.wrap (k * held x) = k * held x := by rw [IntKind.wrap_i64]; omega
    have e2 : hld (d + k * held x) 0 1099511627776 = giveD k d x := by unfold hld giveD; split <;> (try split) <;> omega
    have P2 := Lib.hid (owe_c (k * held x) h.drew (by omega) (by omega))
    rw [e2] at P2
    generalize giveD k d x = D at *
    generalize held x = y at *
    clear z c1 e e2 h
    go_enter Try.func11, Try.ntmps11
    go_wp2_with fail
    refine wp_region_still_tail 8 (by kernel_rfl) (by kernel_rfl) ?_
    simp only [List.take_succ_cons, List.take_zero, List.drop_succ_cons, List.drop_zero]
    iterate 6 still_step
    still_call (P.out _)
    still_step
    refine wpStill_nil ?_
    change wpList _ _ _ _ _ w.drew
    go_wp2_with (first | (go_at_call 16; ((with_reducible refine P2.out.mono ?_); rintro e w1 ⟨he, h1, h2⟩; subst he; have c2 := h1.2.2.1)))
    go_ret
    exact ⟨rfl, h1, ⟨h2.os, h2.tape, h2.output, h2.size, h2.block⟩⟩
  did := fun {w p k d F} x h x0 x1 => by
    have e : hld x 0 1048576 = held x := by unfold hld held; split <;> (try split) <;> omega
    have P := Lib.hid (hld_c x 0 1048576)
    rw [e] at P
    have hb := held_bd x
    obtain ⟨c0, c1, z, k0, k1, d0, d1⟩ := h.2
    have hw : IntKind.i64.wrap (-held x) = -held x := by rw [IntKind.wrap_i64]; omega
    have e2 : hld (d + -held x) 0 1099511627776 = didD d x := by unfold hld didD; split <;> (try split) <;> omega
    have P2 := Lib.hid (owe_c (-held x) h (by omega) (by omega))
    rw [e2] at P2
    generalize didD d x = D at *
    generalize held x = y at *
    clear z c1 e e2 h
    go_enter Try.func12, Try.ntmps12
    go_wp2_with (first | (go_at_call 15; ((with_reducible refine (P.out _).mono ?_); rintro e w' ⟨rfl, hw'⟩; subst w')) | (go_at_call 16; ((with_reducible refine P2.out.mono ?_); rintro e w1 ⟨he, h1, h2⟩; subst he)))
    go_end0
    exact ⟨rfl, h1, h2⟩
  debt := fun {w p k d F} h => by
    obtain ⟨rfl, c0, c1, z, r⟩ := h
    clear z r c0
    go_enter Try.func13, Try.ntmps13
    go_wp2
    go_ret
    exact ⟨rfl, Below.refl _ _⟩
  rest := fun {w p k d F} h => by
    have hp := Lib.hid h
    obtain ⟨rfl, c0, c1, z, r⟩ := h
    have zz := z 1
    clear z r c0
    go_enter Try.func14, Try.ntmps14
    go_wp2
    go_end0
    exact ⟨rfl, hp.out.setD (by omega) (by omega), (Ch.refl (fun b => b = p) w).set ⟨p, 1, none⟩ rfl _⟩
end Wd
end Go.Proofs.Ytgbhhejoglpboaa
