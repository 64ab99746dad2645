/- What the laws ask of a meter: CostNumbers. -/
import Derived.Test.YtafogggfiopcgaaCTells
namespace Go.Proofs.Ytafogggfiopcgaa
open Go.RowKit
set_option linter.unusedVariables false
namespace Wd
theorem nums_lit (w : World) (T : List Int) (cs : Array Value) (ty : TypeId) (hc : cs.toList = ints T) (hb : ∀ x, x ∈ T → InI x) : Nums (w.alloc (.cells cs ty)) (some ⟨w.heap.size, 0, none⟩) T.length := by
  intro wr hbl k hk
  have hx : T[k]? = some T[k] := List.getElem?_eq_getElem hk
  refine ⟨w.heap.size, 0, T[k], rfl, hb _ (List.getElem_mem hk), ?_⟩
  have hh : (w.alloc (.cells cs ty)).heap[w.heap.size]? = some (.cells cs ty (0, 0)) := heap_alloc_new _ _
  have h2 : cs[k]? = some (.int .i64 T[k]) := by
    rw [← Array.getElem?_toList, hc]
    simp [ints, hx]
  have h3 : (w.alloc (.cells cs ty)).cell? ⟨w.heap.size, k, none⟩ = some (.int .i64 T[k]) := by
    generalize w.alloc (.cells cs ty) = W at hh ⊢
    simp [World.cell?, hh, h2]
  rw [Nat.zero_add]
  exact cell_up hbl h3
set_option maxHeartbeats 16000000 in
set_option maxRecDepth 20000 in
theorem numbers_any {CA : CAt} (K : CostK CA) (w : World) :
    Calls Try.prog 3 #[] w fun e w' => e = .returned (.bool true) ∧ Below w.heap.size w w' := by
  go_enter Try.func3, Try.ntmps3
  go_wp2
  go_loopw [1] (fun i wr => ∃ p : Int, -1 ≤ p ∧ p ≤ 19 ∧ i = .int .i64 p ∧ Hid (Below w.heap.size w wr)) (fun i _ => (19 - intOf i).toNat)
  case atStart => exact ⟨-1, by omega, by omega, rfl, Lib.hid (Below.refl _ _)⟩
  case round =>
    obtain ⟨p, p0, p1, rfl, hbel⟩ := hrel
    by_cases hlt : p < 19
    · have d1 : decide (p < 19) = true := by simpa using hlt
      have hw : IntKind.i64.wrap (p + 1) = p + 1 := by rw [IntKind.wrap_i64]; omega
      have hw6 : IntKind.i64.wrap (p * 60) = p * 60 := by rw [IntKind.wrap_i64]; omega
      obtain ⟨q, hq, q0, q1⟩ := msk (i64_and7 p) (by omega)
      have hw1 : IntKind.i64.wrap (1 + q) = 1 + q := by rw [IntKind.wrap_i64]; omega
      go_wp2
      go_loopw [2] (fun j wr => ∃ k : Int, -2 ≤ k ∧ k ≤ 6 ∧ j = .int .i64 k ∧ Hid (Below w.heap.size w wr)) (fun j _ => (6 - intOf j).toNat)
      case atStart => exact ⟨-2, by omega, by omega, rfl, hbel⟩
      case round =>
        clear hbel
        obtain ⟨k, k0, k1, rfl, hbel⟩ := hrel
        by_cases hlt2 : k < 6
        · have d2 : decide (k < 6) = true := by simpa using hlt2
          have hwk : IntKind.i64.wrap (k + 1) = k + 1 := by rw [IntKind.wrap_i64]; omega
          go_wp2_with fail
          refine (bounds_c K 3 1 0 0 0 p k (inI_lit _ (by decide)) (inI_lit _ (by decide)) (inI_lit _ (by decide)) (inI_lit _ (by decide)) (inI_lit _ (by decide)) ⟨by omega, by omega⟩ ⟨by omega, by omega⟩ _).mono ?_
          rintro e w5 ⟨rfl, h1⟩
          have b1 := Lib.hid (hbel.out.trans (h1.mono hbel.out.size))
          clear hbel h1
          go_wp2_with fail
          refine (bounds_c K (p * 60) 0 0 0 0 (1 + q) k ⟨by omega, by omega⟩ (inI_lit _ (by decide)) (inI_lit _ (by decide)) (inI_lit _ (by decide)) (inI_lit _ (by decide)) ⟨by omega, by omega⟩ ⟨by omega, by omega⟩ _).mono ?_
          rintro e w6 ⟨rfl, h1⟩
          have b2 := Lib.hid (b1.out.trans (h1.mono b1.out.size))
          clear b1 h1
          go_wp2
          go_roundw
          case rel => exact ⟨k + 1, by omega, by omega, rfl, b2⟩
          case measure => simp [intOf]; omega
        · have e6 : k = 6 := by omega
          subst e6
          go_wp2
          go_roundw
          case rel => exact ⟨p + 1, by omega, by omega, rfl, hbel⟩
          case measure => simp [intOf]; omega
    · have e19 : p = 19 := by omega
      subst e19
      go_wp2_with fail
      refine (play_any K _ 12 12 _ (nums_lit wr [1, 2, 3, 9223372036854775807, -9223372036854775808, 1048576, 0, 1048577, 4, 5, 6, 7] _ _ rfl (by intro x hx; exact inI_lit x (List.all_eq_true.1 (show ([1, 2, 3, 9223372036854775807, -9223372036854775808, 1048576, 0, 1048577, 4, 5, 6, 7] : List Int).all (fun x => decide (-9223372036854775808 ≤ x ∧ x ≤ 9223372036854775807)) = true by decide) x hx))) (by decide)).mono ?_
      rintro e w5 ⟨rfl, h1⟩
      have b1 := Lib.hid ((hbel.out.alloc hbel.out.size _).trans (h1.mono (by have := hbel.out.size; simp; omega)))
      clear hbel h1
      go_wp2_with fail
      refine (known_any K _).mono ?_
      rintro e w9 ⟨rfl, hbk⟩
      have hbl := Lib.hid (b1.out.trans (hbk.mono b1.out.size))
      clear b1 hbk
      go_wp2
      go_ret
      exact ⟨rfl, hbl.out⟩
end Wd
end Go.Proofs.Ytafogggfiopcgaa
