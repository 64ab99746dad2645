/- The landed dict: how it lies; a name's first place; the place that has a name, or the first empty one. -/
import Derived.Test.YtdpckckfkpefnaaJLaw
namespace Go.Proofs.Ytdpckckfkpefnaa
open Go.RowKit
set_option linter.unusedVariables false
set_option maxRecDepth 20000
namespace Wd
/-- block p holds the dict; an empty place has the name -1, nothing else below 0 -/
structure DA (w : World) (p : Nat) (D : Dst) (F : Nat → Prop) : Prop where
  ref : RefD w p D
  low : ∀ k, k < 16 → -1 ≤ selA D k
  own : ∀ k, F k ↔ k = p
theorem chF {F : Nat → Prop} {p : Nat} (h : ∀ k, F k ↔ k = p) {w w' : World} (c : Ch (fun k => k = p) w w') : Ch F w w' :=
  ⟨c.os, c.tape, c.output, c.size, fun k hk hF => c.block k hk (fun e => hF ((h k).2 e))⟩
theorem plc_first {sel : Int} (h : 0 ≤ sel) : ∃ r : Nat, r < 16 ∧ Int.tmod sel 16 = (r : Int) ∧ Int.tmod ((r : Int) * 7) 16 = ((plc sel 0 : Nat) : Int) := by
  obtain ⟨r, hr, e1, e2⟩ := plc_int h 0
  exact ⟨r, hr, e1, by simpa using e2⟩
theorem plc_step (sel : Int) (k : Nat) : Int.tmod (((plc sel 0 : Nat) : Int) + (k : Int)) 16 = ((plc sel k : Nat) : Int) := by
  have e : (((plc sel 0 : Nat) : Int) + (k : Int)) = ((plc sel 0 + k : Nat) : Int) := by push_cast; rfl
  rw [e]
  show Int.tmod _ ((16 : Nat) : Int) = _
  rw [← Int.ofNat_tmod]
  congr 1
  unfold plc
  omega
/-- the place, and how many were looked at -/
def prF (D : Dst) (sel : Int) : Nat → Nat → Int × Int
  | 0, _ => (-1, 4)
  | f + 1, k => if selA D (plc sel k) = sel ∨ selA D (plc sel k) = -1 then (((plc sel k : Nat) : Int), (k : Int) + 1) else prF D sel f (k + 1)
def prD (D : Dst) (sel : Int) : Int × Int := if sel < 0 then (-1, 0) else prF D sel 4 0
theorem pr_neg {D : Dst} {sel : Int} (h : sel < 0) : prD D sel = (-1, 0) := if_pos h
theorem pr_pos {D : Dst} {sel : Int} (h : 0 ≤ sel) : prD D sel = prF D sel 4 0 := if_neg (by omega)
theorem prF_has {D : Dst} {sel : Int} {k : Nat} (hk : k < 4) (h : selA D (plc sel k) = sel ∨ selA D (plc sel k) = -1) : prF D sel (4 - k) k = (((plc sel k : Nat) : Int), (k : Int) + 1) := by
  rw [show 4 - k = (3 - k) + 1 by omega, prF, if_pos h]
theorem prF_next {D : Dst} {sel : Int} {k : Nat} (hk : k < 4) (h : ¬ (selA D (plc sel k) = sel ∨ selA D (plc sel k) = -1)) : prF D sel (4 - k) k = prF D sel (4 - (k + 1)) (k + 1) := by
  rw [show 4 - k = (4 - (k + 1)) + 1 by omega, prF, if_neg h]
/-- what the place means -/
def Pr (D : Dst) (sel : Int) (x : Int × Int) (y : Option Nat) (z : Int × Int) : Prop :=
  (x.1 = -1 ∧ y = none ∧ z = (-1, x.2)) ∨ (∃ i : Nat, i < 16 ∧ x.1 = (i : Int) ∧ y = some i ∧ ((selA D i = -1 ∧ z = (-1, x.2)) ∨ (selA D i = sel ∧ 0 ≤ sel ∧ z = (metA D i, x.2))))
theorem pr_f {D : Dst} (hl : ∀ k, k < 16 → -1 ≤ selA D k) {sel : Int} (h : 0 ≤ sel) : ∀ f k, Pr D sel (prF D sel f k) (putF D sel f k) (findF D sel f k)
  | 0, k => Or.inl ⟨rfl, rfl, rfl⟩
  | f + 1, k => by
    have hp := plc_lt sel k
    have hm := hl _ hp
    unfold prF putF findF
    by_cases h1 : selA D (plc sel k) = sel
    · rw [if_pos (Or.inl h1), if_pos (Or.inl h1), if_pos h1]
      exact Or.inr ⟨plc sel k, hp, rfl, rfl, Or.inr ⟨h1, h, rfl⟩⟩
    · by_cases h2 : selA D (plc sel k) = -1
      · rw [if_pos (Or.inr h2), if_pos (Or.inr (by omega)), if_neg h1, if_pos (by omega)]
        exact Or.inr ⟨plc sel k, hp, rfl, rfl, Or.inl ⟨h2, rfl⟩⟩
      · rw [if_neg (by omega), if_neg (by omega), if_neg h1, if_neg (by omega)]
        exact pr_f hl h f (k + 1)
theorem pr_d {D : Dst} (hl : ∀ k, k < 16 → -1 ≤ selA D k) (sel : Int) : Pr D sel (prD D sel) (putP D sel) (findD D sel) := by
  by_cases h : sel < 0
  · rw [pr_neg h, put_neg h, find_neg h]
    exact Or.inl ⟨rfl, rfl, rfl⟩
  · rw [pr_pos (by omega), put_pos (by omega), find_pos (by omega)]
    exact pr_f hl (by omega) 4 0
set_option maxHeartbeats 4000000 in
theorem first_c (w : World) {sel : Int} (hs : I64 sel) (h : 0 ≤ sel) :
    Calls Try.prog 22 #[.int .i64 sel] w fun e w' => e = .returned (.int .i64 (plc sel 0 : Nat)) ∧ w' = w := by
  obtain ⟨r, hr, e1, e2⟩ := plc_first h
  have w1 : IntKind.i64.wrap ((r : Int) * 7) = (r : Int) * 7 := by rw [IntKind.wrap_i64]; omega
  go_enter Try.func22, Try.ntmps22
  go_wp2
  go_ret
  exact ⟨rfl, rfl⟩
set_option maxHeartbeats 8000000 in
theorem probe_c {w : World} {b : Nat} {D : Dst} (h : RefD w b D) (sel : Int) (hs : I64 sel) :
    Calls Try.prog 21 #[.pointer (some ⟨b, 0, none⟩), .int .i64 sel] w fun e w' => e = .returned (.tuple #[.int .i64 (prD D sel).1, .int .i64 (prD D sel).2]) ∧ w' = w := by
  replace h := Lib.hid h
  have hs' := Lib.hid hs
  obtain ⟨s0, s1⟩ := hs
  by_cases hn : sel < 0
  · have d2 : decide (sel < 0) = true := by simpa using hn
    have e := Lib.hid (pr_neg (D := D) hn)
    go_enter Try.func21, Try.ntmps21
    go_wp2
    go_ret2
    exact ⟨by rw [e.out]; rfl, rfl⟩
  · have d2 : decide (sel < 0) = false := by simpa using hn
    have h0 : 0 ≤ sel := by omega
    have hst : Hid (prD D sel = prF D sel (4 - 0) 0) := Lib.hid (pr_pos h0)
    go_enter Try.func21, Try.ntmps21
    go_wp2_with (first | (go_at_call 22; ((with_reducible refine (first_c _ hs'.out h0).mono ?_); rintro e1 w1 ⟨rfl, rfl⟩)))
    go_loopw [13] (fun i13 wr => ∃ k : Nat, k ≤ 4 ∧ i13 = .int .i64 k ∧ Hid (prD D sel = prF D sel (4 - k) k) ∧ wr = w1) (fun i13 _ => 4 - (intOf i13).toNat)
    case atStart => exact ⟨0, by omega, rfl, hst, rfl⟩
    case round =>
      clear hst
      obtain ⟨k, hk, rfl, hF, rfl⟩ := hrel
      by_cases hlt : k < 4
      · have hlt' : decide ((k : Int) < 4) = true := by simp; omega
        have e2 := plc_step sel k
        have hi := plc_lt sel k
        have hj := plc_lt sel 0
        have y1 := Lib.hid (prF_has (D := D) (sel := sel) hlt)
        have y3 := Lib.hid (prF_next (D := D) (sel := sel) hlt)
        generalize plc sel 0 = j at *
        generalize plc sel k = i at *
        have i0 : (0 : Int) ≤ (i : Int) := by omega
        have i1 : (i : Int) < 16 := by omega
        have c1 := h.out.cs i hi
        have w2 : IntKind.i64.wrap ((j : Int) + (k : Int)) = (j : Int) + (k : Int) := by rw [IntKind.wrap_i64]; omega
        obtain ⟨x, hx⟩ : ∃ x, x = selA D i := ⟨_, rfl⟩
        rw [← hx] at c1 y1 y3
        by_cases he : x = sel
        · have he' : (x == sel) = true := by simpa using he
          have e := Lib.hid (hF.out.trans (y1.out (Or.inl he)))
          clear he hx
          go_wp2
          go_ret2
          exact ⟨by rw [e.out]; rfl, rfl⟩
        · have he' : (x == sel) = false := by simpa using he
          by_cases hx0 : x = -1
          · have hx' : (x == -1) = true := by simpa using hx0
            have e := Lib.hid (hF.out.trans (y1.out (Or.inr hx0)))
            clear he hx0 hx
            go_wp2
            go_ret2
            exact ⟨by rw [e.out]; rfl, rfl⟩
          · have hx' : (x == -1) = false := by simpa using hx0
            have e := Lib.hid (hF.out.trans (y3.out (by omega)))
            clear he hx0 hx
            go_wp2
            go_roundw
            case rel => exact ⟨k + 1, by omega, by go_num, e, trivial⟩
            case measure => simp [intOf]; omega
      · have hlt' : decide ((k : Int) < 4) = false := by simp; omega
        have e := hF.out
        rw [show 4 - k = 0 by omega, prF] at e
        replace e := Lib.hid e
        go_wp2
        go_ret2
        exact ⟨by rw [e.out]; rfl, rfl⟩
end Wd
end Go.Proofs.Ytdpckckfkpefnaa
