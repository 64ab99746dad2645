/- The document's own dict: Find, Put. -/
import Derived.Test.YtdpckckfkpefnaaJPure
import Derived.Deep.DeepCutAuto
namespace Go.Proofs.Ytdpckckfkpefnaa
open Go.RowKit
set_option linter.unusedVariables false
set_option maxRecDepth 20000
namespace Wd
/-- a name's place, as it is reckoned -/
theorem plc_int {sel : Int} (h : 0 ≤ sel) (k : Nat) : ∃ r : Nat, r < 16 ∧ Int.tmod sel 16 = (r : Int) ∧ Int.tmod ((r : Int) * 7 + (k : Int)) 16 = ((plc sel k : Nat) : Int) := by
  obtain ⟨n, rfl⟩ : ∃ n : Nat, sel = n := ⟨sel.toNat, by omega⟩
  refine ⟨n % 16, Nat.mod_lt _ (by omega), by exact (Int.ofNat_tmod n 16).symm, ?_⟩
  have e : (((n % 16 : Nat) : Int) * 7 + (k : Int)) = (((n % 16) * 7 + k : Nat) : Int) := by push_cast; rfl
  rw [e]
  show Int.tmod _ ((16 : Nat) : Int) = _
  rw [← Int.ofNat_tmod]
  rfl
theorem find_neg {D : Dst} {sel : Int} (h : sel < 0) : findD D sel = (-1, 0) := if_pos h
theorem find_pos {D : Dst} {sel : Int} (h : 0 ≤ sel) : findD D sel = findF D sel 4 0 := if_neg (by omega)
theorem findF_has {D : Dst} {sel : Int} {k : Nat} (hk : k < 4) (h : selA D (plc sel k) = sel) : findF D sel (4 - k) k = (metA D (plc sel k), (k : Int) + 1) := by
  rw [show 4 - k = (3 - k) + 1 by omega, findF, if_pos h]
theorem findF_none {D : Dst} {sel : Int} {k : Nat} (hk : k < 4) (h : ¬ selA D (plc sel k) = sel) (h2 : selA D (plc sel k) < 0) : findF D sel (4 - k) k = (-1, (k : Int) + 1) := by
  rw [show 4 - k = (3 - k) + 1 by omega, findF, if_neg h, if_pos h2]
theorem findF_next {D : Dst} {sel : Int} {k : Nat} (hk : k < 4) (h : ¬ selA D (plc sel k) = sel) (h2 : ¬ selA D (plc sel k) < 0) : findF D sel (4 - k) k = findF D sel (4 - (k + 1)) (k + 1) := by
  rw [show 4 - k = (4 - (k + 1)) + 1 by omega, findF, if_neg h, if_neg h2]
set_option maxHeartbeats 8000000 in
theorem find_c {w : World} {b : Nat} {D : Dst} (h : RefD w b D) (sel : Int) (hs : I64 sel) :
    Calls Try.prog 18 #[.pointer (some ⟨b, 0, none⟩), .int .i64 sel] w fun e w' => e = .returned (.tuple #[.int .i64 (findD D sel).1, .int .i64 (findD D sel).2]) ∧ w' = w := by
  replace h := Lib.hid h
  obtain ⟨s0, s1⟩ := hs
  have hst : Hid (0 ≤ sel → findD D sel = findF D sel (4 - 0) 0) := Lib.hid (fun h => find_pos h)
  go_enter Try.func18, Try.ntmps18
  go_wp2
  go_loopw [6] (fun i6 wr => ∃ k : Nat, k ≤ 4 ∧ i6 = .int .i64 k ∧ Hid (0 ≤ sel → findD D sel = findF D sel (4 - k) k) ∧ (sel < 0 → k = 0) ∧ wr = w) (fun i6 _ => 4 - (intOf i6).toNat)
  case atStart => exact ⟨0, by omega, rfl, hst, fun _ => rfl, rfl⟩
  case round =>
    clear hst
    obtain ⟨k, hk, rfl, hF, hz, rfl⟩ := hrel
    by_cases hn : sel < 0
    · have hlt' : decide ((k : Int) < 4) = true := by have := hz hn; simp; omega
      have d1 : decide (sel ≥ 0) = false := by simp; omega
      have d2 : decide (sel < 0) = true := by simpa using hn
      have e := Lib.hid (find_neg (D := D) hn)
      go_wp2
      go_ret2
      exact ⟨by rw [e.out]; rfl, rfl⟩
    · have d1 : decide (sel ≥ 0) = true := by simp; omega
      have d2 : decide (sel < 0) = false := by simp; omega
      by_cases hlt : k < 4
      · have hlt' : decide ((k : Int) < 4) = true := by simp; omega
        obtain ⟨r, hr, e1, e2⟩ := plc_int (sel := sel) (by omega) k
        have hi := plc_lt sel k
        have hF' := Lib.hid (hF.out (by omega))
        have y1 := findF_has (D := D) (sel := sel) hlt
        have y2 := findF_none (D := D) (sel := sel) hlt
        have y3 := findF_next (D := D) (sel := sel) hlt
        replace y1 := Lib.hid y1
        replace y2 := Lib.hid y2
        replace y3 := Lib.hid y3
        generalize plc sel k = i at *
        have i0 : (0 : Int) ≤ (i : Int) := by omega
        have i1 : (i : Int) < 16 := by omega
        have c1 := h.out.cs i hi
        have c2 := h.out.cm i hi
        have w1 : IntKind.i64.wrap ((r : Int) * 7) = (r : Int) * 7 := by rw [IntKind.wrap_i64]; omega
        have w2 : IntKind.i64.wrap ((r : Int) * 7 + (k : Int)) = (r : Int) * 7 + (k : Int) := by rw [IntKind.wrap_i64]; omega
        obtain ⟨x, hx⟩ : ∃ x, x = selA D i := ⟨_, rfl⟩
        rw [← hx] at c1 y1 y2 y3
        by_cases he : x = sel
        · have he' : (x == sel) = true := by simpa using he
          have e := Lib.hid (hF'.out.trans (y1.out he))
          clear he
          go_wp2
          go_ret2
          exact ⟨by rw [e.out]; rfl, rfl⟩
        · have he' : (x == sel) = false := by simpa using he
          by_cases hx0 : x < 0
          · have hx' : decide (x < 0) = true := by simpa using hx0
            have e := Lib.hid (hF'.out.trans (y2.out he hx0))
            clear he
            go_wp2
            go_ret2
            exact ⟨by rw [e.out]; rfl, rfl⟩
          · have hx' : decide (x < 0) = false := by simpa using hx0
            have e := Lib.hid (fun _ : 0 ≤ sel => hF'.out.trans (y3.out he hx0))
            clear he
            go_wp2
            go_roundw
            case rel => exact ⟨k + 1, by omega, by go_num, e, fun h => absurd h hn, trivial⟩
            case measure => simp [intOf]; omega
      · have hlt' : decide ((k : Int) < 4) = false := by simp; omega
        have e := hF.out (by omega)
        rw [show 4 - k = 0 by omega, findF] at e
        replace e := Lib.hid e
        go_wp2
        go_ret2
        exact ⟨by rw [e.out]; rfl, rfl⟩
end Wd
end Go.Proofs.Ytdpckckfkpefnaa
