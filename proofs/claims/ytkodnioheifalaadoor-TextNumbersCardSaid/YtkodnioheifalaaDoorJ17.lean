/- Texts joined: TNH, TNI. -/
import Derived.Test.YtkodnioheifalaaDoorJ15
import Derived.Maps.AppendAt
import Derived.Deep.AppendLies
/- A tape of the law's own. -/
namespace Go.Proofs.YtkodnioheifalaaDoor
open Go.RowKit
set_option linter.unusedVariables false
set_option maxRecDepth 20000
namespace Wd
/-- so many numbers are written -/
structure TpN (w : World) (i : Nat) (v : Value) (wr : World) (L : List Int) : Prop where
  own : wr.ownsRow w.heap.size 3 1 v i (ints L)
  len : L.length = i
  bd : ∀ x ∈ L, -9223372036854775808 ≤ x ∧ x ≤ 9223372036854775807
  bel : Below w.heap.size w wr
theorem TpN.num {w wr : World} {i : Nat} {a : Option Addr} {c : Nat} {L : List Int} (h : TpN w i (.slice a i c) wr L) : NumA wr a i := fun k hk => by
  have hkl : k < L.length := by have := h.len; omega
  have hx : L[k]? = some L[k] := by simp [hkl]
  obtain ⟨g, rfl⟩ := row_some h.own (by omega)
  exact ⟨g, 0, L[k], rfl, h.bd _ (List.getElem_mem hkl), by rw [Nat.zero_add]; exact row_cell (own_base h.own) hx⟩
theorem TpN.next {w wr w4 : World} {i : Nat} {v v4 : Value} {L : List Int} {z : Int} {o : Obj} (h : TpN w i v wr L) (ho : w4.ownsRow w.heap.size 3 1 v4 (i + 1) (ints L ++ ints [z])) (hg : (wr.alloc o).grownBy w4 v.ownBlock) (hz : -9223372036854775808 ≤ z ∧ z ≤ 9223372036854775807) : TpN w (i + 1) v4 w4 (L ++ [z]) := by
  have hA : Below wr.heap.size wr (wr.alloc o) := (Below.refl _ _).alloc (Nat.le_refl _) _
  refine ⟨by simpa [ints] using ho, by simp [h.len], fun x hx => ?_, (h.bel.trans (hA.mono h.bel.size)).grown hg (Nat.le_trans h.bel.size hA.size) (fun k e => (h.own.lt k e).1)⟩
  rcases List.mem_append.1 hx with hx | hx
  · exact h.bd x hx
  · rw [List.mem_singleton.1 hx]; exact hz
set_option maxHeartbeats 16000000 in
theorem ltape_c {w : World} (k : Nat) (hk : k < 40) :
    Calls Tryd.prog 7 #[.int .i64 k] w fun e w' => ∃ a c, e = .returned (.slice a 900 c) ∧ NumA w' a 900 ∧ Below w.heap.size w w' := by
  obtain ⟨i0, hi0, hz0, hz1, hz2⟩ := info_parts info3
  have hmx : 100000 ≤ maxLen := by decide
  have S0 : TpN w 0 (.slice none 0 0) w [] := ⟨by simpa [ints] using World.ownsRow_nil _ _ _ _, rfl, fun x hx => (by cases hx), Below.refl _ _⟩
  replace S0 := Lib.hid S0
  go_enter Tryd.func7, Tryd.ntmps7
  go_wp2
  go_loopw [3, 4] (fun v3 v4 wr => ∃ (i : Nat) (L : List Int), i ≤ 900 ∧ v4 = .int .i64 i ∧ Hid (TpN w i v3 wr L)) (fun _ v4 _ => 900 - (intOf v4).toNat)
  case atStart => exact ⟨0, [], by omega, rfl, S0⟩
  case round =>
    clear S0
    obtain ⟨i, L, hi, rfl, hR⟩ := hrel
    obtain ⟨a, c, rfl⟩ := row_shape hR.out.own
    by_cases hlt : i < 900
    · have d1 : decide ((i : Int) < 900) = true := by simp; omega
      have hwi : IntKind.i64.wrap ((i : Int) + 1) = (i : Int) + 1 := by rw [IntKind.wrap_i64]; omega
      obtain ⟨q, hq⟩ : ∃ q : Nat, q = i * i := ⟨_, rfl⟩
      obtain ⟨s, hs⟩ : ∃ s : Nat, s = i * k := ⟨_, rfl⟩
      have hq1 : q ≤ 810000 := by rw [hq]; exact Nat.mul_le_mul (by omega : i ≤ 900) (by omega : i ≤ 900)
      have hs1 : s ≤ 36000 := by rw [hs]; exact Nat.mul_le_mul (by omega : i ≤ 900) (by omega : k ≤ 40)
      have m1 : IntKind.i64.wrap ((i : Int) * (i : Int)) = (q : Int) := by rw [← Int.natCast_mul, ← hq, IntKind.wrap_i64]; omega
      have m2 : IntKind.i64.wrap ((q : Int) * 7) = (q : Int) * 7 := by rw [IntKind.wrap_i64]; omega
      have m3 : IntKind.i64.wrap ((k : Int) * 47) = (k : Int) * 47 := by rw [IntKind.wrap_i64]; omega
      have m4 : IntKind.i64.wrap ((q : Int) * 7 + (k : Int) * 47) = (q : Int) * 7 + (k : Int) * 47 := by rw [IntKind.wrap_i64]; omega
      have m5 : IntKind.i64.wrap ((i : Int) * (k : Int)) = (s : Int) := by rw [← Int.natCast_mul, ← hs, IntKind.wrap_i64]; omega
      have m6 : IntKind.i64.wrap ((q : Int) * 7 + (k : Int) * 47 + (s : Int)) = (q : Int) * 7 + (k : Int) * 47 + (s : Int) := by rw [IntKind.wrap_i64]; omega
      have m7 : IntKind.i64.wrap (((q : Int) * 7 + (k : Int) * 47 + (s : Int)).tmod 211) = ((q : Int) * 7 + (k : Int) * 47 + (s : Int)).tmod 211 := by
        rw [IntKind.wrap_i64]
        have h1 := Int.tmod_lt_of_pos ((q : Int) * 7 + (k : Int) * 47 + (s : Int)) (show (0 : Int) < 211 by omega)
        have h2 := Int.tmod_nonneg 211 (show 0 ≤ (q : Int) * 7 + (k : Int) * 47 + (s : Int) by omega)
        omega
      have hzb : -9223372036854775808 ≤ ((q : Int) * 7 + (k : Int) * 47 + (s : Int)).tmod 211 ∧ ((q : Int) * 7 + (k : Int) * 47 + (s : Int)).tmod 211 ≤ 9223372036854775807 := by
        have h1 := Int.tmod_lt_of_pos ((q : Int) * 7 + (k : Int) * 47 + (s : Int)) (show (0 : Int) < 211 by omega)
        have h2 := Int.tmod_nonneg 211 (show 0 ≤ (q : Int) * 7 + (k : Int) * 47 + (s : Int) by omega)
        omega
      clear hq hs
      generalize hz : ((q : Int) * 7 + (k : Int) * 47 + (s : Int)).tmod 211 = z at *
      go_wp2_with (first | (at_builtin; refine wpList_append_lies _ rfl (.tmp 9) (.tmp 22) 29 rfl w.heap.size 3 i0 (.int .i64 0) 1 8 Tryd.underlying29 hi0 hz0 hz1 hz2 rfl (by decide) (.slice a i c) i _ (by simp [Act.eval]) (hR.out.own.alloc _) ⟨wr.heap.size, 0, none⟩ 1 1 (ints [z]) (by simp [Act.eval]) (by simp [ints]) (one_at ((World.cell?_alloc_new _ _ _ 0).trans rfl)) (ints_one _) (by omega) (by omega) (by omega) (by simp only [World.size_alloc]; have := hR.out.bel.size; omega) _ rfl ?_; intro g4 cap4 w4 hown4 hgrow4 hat4 hlt4))
      have hN := Lib.hid (hR.out.next hown4 hgrow4 hzb)
      clear hown4 hgrow4 hat4 hlt4 hR
      go_roundw
      case rel => exact ⟨i + 1, _, by omega, by go_num, hN⟩
      case measure => simp [intOf]; omega
    · obtain rfl : i = 900 := by omega
      have hn := Lib.hid hR.out.num
      have hb := Lib.hid hR.out.bel
      clear hR
      go_wp2
      go_ret
      exact ⟨a, c, rfl, hn.out, hb.out⟩
end Wd
end Go.Proofs.YtkodnioheifalaaDoor
