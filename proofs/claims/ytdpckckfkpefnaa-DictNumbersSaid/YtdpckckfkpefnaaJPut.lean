/- The document's own dict: Put, New, how many. -/
import Derived.Test.YtdpckckfkpefnaaJRef
import Derived.Deep.MidRow
namespace Go.Proofs.Ytdpckckfkpefnaa
open Go.RowKit
set_option linter.unusedVariables false
set_option maxRecDepth 20000
namespace Wd
theorem put_neg {D : Dst} {sel : Int} (h : sel < 0) : putP D sel = none := if_pos h
theorem put_pos {D : Dst} {sel : Int} (h : 0 ≤ sel) : putP D sel = putF D sel 4 0 := if_neg (by omega)
theorem putF_has {D : Dst} {sel : Int} {k : Nat} (hk : k < 4) (h : selA D (plc sel k) = sel ∨ selA D (plc sel k) < 0) : putF D sel (4 - k) k = some (plc sel k) := by
  rw [show 4 - k = (3 - k) + 1 by omega, putF, if_pos h]
theorem putF_next {D : Dst} {sel : Int} {k : Nat} (hk : k < 4) (h : ¬ (selA D (plc sel k) = sel ∨ selA D (plc sel k) < 0)) : putF D sel (4 - k) k = putF D sel (4 - (k + 1)) (k + 1) := by
  rw [show 4 - k = (4 - (k + 1)) + 1 by omega, putF, if_neg h]
theorem put_y {D : Dst} {sel met : Int} {i : Nat} (h : putP D sel = some i) : putB D sel = true ∧ putD D sel met = D.set i (sel, met) := by
  unfold putB putD; rw [h]; exact ⟨rfl, rfl⟩
theorem put_n {D : Dst} {sel met : Int} (h : putP D sel = none) : putB D sel = false ∧ putD D sel met = D := by
  unfold putB putD; rw [h]; exact ⟨rfl, rfl⟩
theorem two_ch (w : World) (b i : Nat) (x y : Value) : Ch (fun k => k = b) w ((w.setCell ⟨b, i, none⟩ x).setCell ⟨b, 16 + i, none⟩ y).drew := by
  have h1 : Ch (fun k => k = b) w (w.setCell ⟨b, i, none⟩ x) := (Ch.refl (fun k => k = b) w).set ⟨b, i, none⟩ (show b = b from rfl) x
  have h2 : Ch (fun k => k = b) w ((w.setCell ⟨b, i, none⟩ x).setCell ⟨b, 16 + i, none⟩ y) := h1.set ⟨b, 16 + i, none⟩ (show b = b from rfl) y
  exact h2.drew
set_option maxHeartbeats 8000000 in
theorem put_c {w : World} {b : Nat} {D : Dst} (h : RefD w b D) (sel met : Int) (hs : I64 sel) (hm : I64 met) :
    Calls Try.prog 17 #[.pointer (some ⟨b, 0, none⟩), .int .i64 sel, .int .i64 met] w fun e w' => e = .returned (.bool (putB D sel)) ∧ RefD w' b (putD D sel met) ∧ Ch (fun k => k = b) w w' := by
  replace h := Lib.hid h
  have hm' := Lib.hid hm
  have hs' := Lib.hid hs
  obtain ⟨s0, s1⟩ := hs
  have hst : Hid (0 ≤ sel → putP D sel = putF D sel (4 - 0) 0) := Lib.hid (fun h => put_pos h)
  go_enter Try.func17, Try.ntmps17
  go_wp2
  go_loopw [7] (fun i7 wr => ∃ k : Nat, k ≤ 4 ∧ i7 = .int .i64 k ∧ Hid (0 ≤ sel → putP D sel = putF D sel (4 - k) k) ∧ (sel < 0 → k = 0) ∧ wr = w) (fun i7 _ => 4 - (intOf i7).toNat)
  case atStart => exact ⟨0, by omega, rfl, hst, fun _ => rfl, rfl⟩
  case round =>
    clear hst
    obtain ⟨k, hk, rfl, hF, hz, rfl⟩ := hrel
    by_cases hn : sel < 0
    · have hlt' : decide ((k : Int) < 4) = true := by have := hz hn; simp; omega
      have d1 : decide (sel ≥ 0) = false := by simp; omega
      have e := put_n (met := met) (put_neg (D := D) hn)
      replace e := Lib.hid e
      go_wp2
      go_ret
      exact ⟨by rw [e.out.1]; rfl, by rw [e.out.2]; exact h.out, Ch.refl _ _⟩
    · have d1 : decide (sel ≥ 0) = true := by simp; omega
      by_cases hlt : k < 4
      · have hlt' : decide ((k : Int) < 4) = true := by simp; omega
        obtain ⟨r, hr, e1, e2⟩ := plc_int (sel := sel) (by omega) k
        have hi := plc_lt sel k
        have hF' := Lib.hid (hF.out (by omega))
        have y1 := putF_has (D := D) (sel := sel) hlt
        have y3 := putF_next (D := D) (sel := sel) hlt
        replace y1 := Lib.hid y1
        replace y3 := Lib.hid y3
        generalize plc sel k = i at *
        have i0 : (0 : Int) ≤ (i : Int) := by omega
        have i1 : (i : Int) < 16 := by omega
        have c1 := h.out.cs i hi
        have c2 := h.out.cm i hi
        have z1 := h.out.z i
        have z2 := h.out.z (16 + i)
        have w1 : IntKind.i64.wrap ((r : Int) * 7) = (r : Int) * 7 := by rw [IntKind.wrap_i64]; omega
        have w2 : IntKind.i64.wrap ((r : Int) * 7 + (k : Int)) = (r : Int) * 7 + (k : Int) := by rw [IntKind.wrap_i64]; omega
        obtain ⟨x, hx⟩ : ∃ x, x = selA D i := ⟨_, rfl⟩
        rw [← hx] at c1 y1 y3
        by_cases hc : x = sel ∨ x < 0
        · have e := put_y (met := met) (hF'.out.trans (y1.out hc))
          replace e := Lib.hid e
          have hB := Lib.hid (h.out.both hi hs'.out hm'.out)
          by_cases he : x = sel
          · have he' : (x == sel) = true := by simpa using he
            clear he hc hx
            go_wp2
            go_region
            all_goals go_wp2
            all_goals go_ret
            all_goals exact ⟨by rw [e.out.1]; rfl, by rw [e.out.2]; exact hB.out.same rfl, two_ch wr b i (.int .i64 sel) (.int .i64 met)⟩
          · have he' : (x == sel) = false := by simpa using he
            have hx' : decide (x < 0) = true := by simp; omega
            clear he hc hx
            go_wp2
            go_region
            all_goals go_wp2
            all_goals go_ret
            all_goals exact ⟨by rw [e.out.1]; rfl, by rw [e.out.2]; exact hB.out.same rfl, two_ch wr b i (.int .i64 sel) (.int .i64 met)⟩
        · have he' : (x == sel) = false := by simp; omega
          have hx' : decide (x < 0) = false := by simp; omega
          have e := Lib.hid (fun _ : 0 ≤ sel => hF'.out.trans (y3.out hc))
          clear hc hx
          go_wp2
          go_roundw
          case rel => exact ⟨k + 1, by omega, by go_num, e, fun h => absurd h hn, trivial⟩
          case measure => simp [intOf]; omega
      · have hlt' : decide ((k : Int) < 4) = false := by simp; omega
        have e := hF.out (by omega)
        rw [show 4 - k = 0 by omega, putF] at e
        have e := Lib.hid (put_n (met := met) e)
        go_wp2
        go_ret
        exact ⟨by rw [e.out.1]; rfl, by rw [e.out.2]; exact h.out, Ch.refl _ _⟩
end Wd
end Go.Proofs.Ytdpckckfkpefnaa
