/- Texts joined: DB, DP, DN, DO, VC, VO, VF, VG, VH, VL, OLaw. -/
import Derived.Test.YtgfdgdbkifkehaaGreatJ1
import Derived.Test.YtgfdgdbkifkehaaGreatJ3
import Derived.Test.YtgfdgdbkifkehaaGreatJ4
import Derived.Test.YtgfdgdbkifkehaaGreatJ5
import Derived.Test.YtgfdgdbkifkehaaGreatJ19
import Derived.Deep.DeepCutAuto
import Derived.Deep.AppendLies
import Derived.Deep.MidRow
import Derived.Deep.RegionHeld3
import Derived.Deep.RegionWith
import Derived.StillTailTactics
/- The landed dict: how it lies; a name's first place; the place that has a name, or the first empty one. -/
namespace Go.Proofs.YtgfdgdbkifkehaaGreat
open Go.RowKit
set_option linter.unusedVariables false
set_option maxRecDepth 20000
namespace Wd
/-- block p holds the dict; an empty place has the name -1, nothing else below 0 -/
structure DA (w : World) (p : Nat) (D : Dst) (F : Nat → Prop) : Prop where
  ref : RefD w p D
  low : ∀ k, k < 16 → -1 ≤ selA D k
  own : ∀ k, F k ↔ k = p
theorem chF {F : Nat → Prop} {p : Nat} (h : ∀ k, F k ↔ k = p) {w w' : World} (c : Ch (fun k => k = p) w w') : Ch F w w' :=
  ⟨c.os, c.tape, c.output, c.size, fun k hk hF => c.block k hk (fun e => hF ((h k).2 e))⟩
theorem plc_first {sel : Int} (h : 0 ≤ sel) : ∃ r : Nat, r < 16 ∧ Int.tmod sel 16 = (r : Int) ∧ Int.tmod ((r : Int) * 7) 16 = ((plc sel 0 : Nat) : Int) := by
  obtain ⟨r, hr, e1, e2⟩ := plc_int h 0
  exact ⟨r, hr, e1, by simpa using e2⟩
theorem plc_step (sel : Int) (k : Nat) : Int.tmod (((plc sel 0 : Nat) : Int) + (k : Int)) 16 = ((plc sel k : Nat) : Int) := by
  have e : (((plc sel 0 : Nat) : Int) + (k : Int)) = ((plc sel 0 + k : Nat) : Int) := by push_cast; rfl
  rw [e]
  show Int.tmod _ ((16 : Nat) : Int) = _
  rw [← Int.ofNat_tmod]
  congr 1
  unfold plc
  omega
/-- the place, and how many were looked at -/
def prF (D : Dst) (sel : Int) : Nat → Nat → Int × Int
  | 0, _ => (-1, 4)
  | f + 1, k => if selA D (plc sel k) = sel ∨ selA D (plc sel k) = -1 then (((plc sel k : Nat) : Int), (k : Int) + 1) else prF D sel f (k + 1)
def prD (D : Dst) (sel : Int) : Int × Int := if sel < 0 then (-1, 0) else prF D sel 4 0
theorem pr_neg {D : Dst} {sel : Int} (h : sel < 0) : prD D sel = (-1, 0) := if_pos h
theorem pr_pos {D : Dst} {sel : Int} (h : 0 ≤ sel) : prD D sel = prF D sel 4 0 := if_neg (by omega)
theorem prF_has {D : Dst} {sel : Int} {k : Nat} (hk : k < 4) (h : selA D (plc sel k) = sel ∨ selA D (plc sel k) = -1) : prF D sel (4 - k) k = (((plc sel k : Nat) : Int), (k : Int) + 1) := by
  rw [show 4 - k = (3 - k) + 1 by omega, prF, if_pos h]
theorem prF_next {D : Dst} {sel : Int} {k : Nat} (hk : k < 4) (h : ¬ (selA D (plc sel k) = sel ∨ selA D (plc sel k) = -1)) : prF D sel (4 - k) k = prF D sel (4 - (k + 1)) (k + 1) := by
  rw [show 4 - k = (4 - (k + 1)) + 1 by omega, prF, if_neg h]
/-- what the place means -/
def Pr (D : Dst) (sel : Int) (x : Int × Int) (y : Option Nat) (z : Int × Int) : Prop :=
  (x.1 = -1 ∧ y = none ∧ z = (-1, x.2)) ∨ (∃ i : Nat, i < 16 ∧ x.1 = (i : Int) ∧ y = some i ∧ ((selA D i = -1 ∧ z = (-1, x.2)) ∨ (selA D i = sel ∧ 0 ≤ sel ∧ z = (metA D i, x.2))))
theorem pr_f {D : Dst} (hl : ∀ k, k < 16 → -1 ≤ selA D k) {sel : Int} (h : 0 ≤ sel) : ∀ f k, Pr D sel (prF D sel f k) (putF D sel f k) (findF D sel f k)
  | 0, k => Or.inl ⟨rfl, rfl, rfl⟩
  | f + 1, k => by
    have hp := plc_lt sel k
    have hm := hl _ hp
    unfold prF putF findF
    by_cases h1 : selA D (plc sel k) = sel
    · rw [if_pos (Or.inl h1), if_pos (Or.inl h1), if_pos h1]
      exact Or.inr ⟨plc sel k, hp, rfl, rfl, Or.inr ⟨h1, h, rfl⟩⟩
    · by_cases h2 : selA D (plc sel k) = -1
      · rw [if_pos (Or.inr h2), if_pos (Or.inr (by omega)), if_neg h1, if_pos (by omega)]
        exact Or.inr ⟨plc sel k, hp, rfl, rfl, Or.inl ⟨h2, rfl⟩⟩
      · rw [if_neg (by omega), if_neg (by omega), if_neg h1, if_neg (by omega)]
        exact pr_f hl h f (k + 1)
theorem pr_d {D : Dst} (hl : ∀ k, k < 16 → -1 ≤ selA D k) (sel : Int) : Pr D sel (prD D sel) (putP D sel) (findD D sel) := by
  by_cases h : sel < 0
  · rw [pr_neg h, put_neg h, find_neg h]
    exact Or.inl ⟨rfl, rfl, rfl⟩
  · rw [pr_pos (by omega), put_pos (by omega), find_pos (by omega)]
    exact pr_f hl (by omega) 4 0
set_option maxHeartbeats 4000000 in
theorem first_c (w : World) {sel : Int} (hs : I64 sel) (h : 0 ≤ sel) :
    Calls Tryz.prog 110 #[.int .i64 sel] w fun e w' => e = .returned (.int .i64 (plc sel 0 : Nat)) ∧ w' = w := by
  obtain ⟨r, hr, e1, e2⟩ := plc_first h
  have w1 : IntKind.i64.wrap ((r : Int) * 7) = (r : Int) * 7 := by rw [IntKind.wrap_i64]; omega
  go_enter Tryz.func110, Tryz.ntmps110
  go_wp2
  go_ret
  exact ⟨rfl, rfl⟩
set_option maxHeartbeats 8000000 in
theorem probe_c {w : World} {b : Nat} {D : Dst} (h : RefD w b D) (sel : Int) (hs : I64 sel) :
    Calls Tryz.prog 103 #[.pointer (some ⟨b, 0, none⟩), .int .i64 sel] w fun e w' => e = .returned (.tuple #[.int .i64 (prD D sel).1, .int .i64 (prD D sel).2]) ∧ w' = w := by
  replace h := Lib.hid h
  have hs' := Lib.hid hs
  obtain ⟨s0, s1⟩ := hs
  by_cases hn : sel < 0
  · have d2 : decide (sel < 0) = true := by simpa using hn
    have e := Lib.hid (pr_neg (D := D) hn)
    go_enter Tryz.func103, Tryz.ntmps103
    go_wp2
    go_ret2
    exact ⟨by rw [e.out]; rfl, rfl⟩
  · have d2 : decide (sel < 0) = false := by simpa using hn
    have h0 : 0 ≤ sel := by omega
    have hst : Hid (prD D sel = prF D sel (4 - 0) 0) := Lib.hid (pr_pos h0)
    go_enter Tryz.func103, Tryz.ntmps103
    go_wp2_with (first | (go_at_call 110; ((with_reducible refine (first_c _ hs'.out h0).mono ?_); rintro e1 w1 ⟨rfl, rfl⟩)))
    go_loopw [13] (fun i13 wr => ∃ k : Nat, k ≤ 4 ∧ i13 = .int .i64 k ∧ Hid (prD D sel = prF D sel (4 - k) k) ∧ wr = w1) (fun i13 _ => 4 - (intOf i13).toNat)
    case atStart => exact ⟨0, by omega, rfl, hst, rfl⟩
    case round =>
      clear hst
      obtain ⟨k, hk, rfl, hF, rfl⟩ := hrel
      by_cases hlt : k < 4
      · have hlt' : decide ((k : Int) < 4) = true := by simp; omega
        have e2 := plc_step sel k
        have hi := plc_lt sel k
        have hj := plc_lt sel 0
        have y1 := Lib.hid (prF_has (D := D) (sel := sel) hlt)
        have y3 := Lib.hid (prF_next (D := D) (sel := sel) hlt)
        generalize plc sel 0 = j at *
        generalize plc sel k = i at *
        have i0 : (0 : Int) ≤ (i : Int) := by omega
        have i1 : (i : Int) < 16 := by omega
        have c1 := h.out.cs i hi
        have w2 : IntKind.i64.wrap ((j : Int) + (k : Int)) = (j : Int) + (k : Int) := by rw [IntKind.wrap_i64]; omega
        obtain ⟨x, hx⟩ : ∃ x, x = selA D i := ⟨_, rfl⟩
        rw [← hx] at c1 y1 y3
        by_cases he : x = sel
        · have he' : (x == sel) = true := by simpa using he
          have e := Lib.hid (hF.out.trans (y1.out (Or.inl he)))
          clear he hx
          go_wp2
          go_ret2
          exact ⟨by rw [e.out]; rfl, rfl⟩
        · have he' : (x == sel) = false := by simpa using he
          by_cases hx0 : x = -1
          · have hx' : (x == -1) = true := by simpa using hx0
            have e := Lib.hid (hF.out.trans (y1.out (Or.inr hx0)))
            clear he hx0 hx
            go_wp2
            go_ret2
            exact ⟨by rw [e.out]; rfl, rfl⟩
          · have hx' : (x == -1) = false := by simpa using hx0
            have e := Lib.hid (hF.out.trans (y3.out (by omega)))
            clear he hx0 hx
            go_wp2
            go_roundw
            case rel => exact ⟨k + 1, by omega, by go_num, e, trivial⟩
            case measure => simp [intOf]; omega
      · have hlt' : decide ((k : Int) < 4) = false := by simp; omega
        have e := hF.out
        rw [show 4 - k = 0 by omega, prF] at e
        replace e := Lib.hid e
        go_wp2
        go_ret2
        exact ⟨by rw [e.out]; rfl, rfl⟩
end Wd
end Go.Proofs.YtgfdgdbkifkehaaGreat

/- The landed dict: Put, Find. -/
namespace Go.Proofs.YtgfdgdbkifkehaaGreat
open Go.RowKit
set_option linter.unusedVariables false
set_option maxRecDepth 20000
namespace Wd
set_option maxHeartbeats 8000000 in
theorem dput_c {w : World} {b : Nat} {D : Dst} {F : Nat → Prop} (h : DA w b D F) (sel met : Int) (hs : I64 sel) (hm : I64 met) :
    Calls Tryz.prog 79 #[.pointer (some ⟨b, 0, none⟩), .int .i64 sel, .int .i64 met] w fun e w' => ∃ F', e = .returned (.bool (putB D sel)) ∧ DA w' b (putD D sel met) F' ∧ Ch F w w' ∧ Newer F F' w.heap.size := by
  have hP := pr_d h.low sel
  have PP := Lib.hid (probe_c h.ref sel hs)
  replace h := Lib.hid h
  have hm' := Lib.hid hm
  have hs' := Lib.hid hs
  generalize prD D sel = X at hP PP
  obtain ⟨xa, xl⟩ := X
  rcases hP with ⟨h1, h2, -⟩ | ⟨i, hi, h1, h2, h3⟩
  · simp only at h1
    subst h1
    have e := Lib.hid (put_n (met := met) h2)
    go_enter Tryz.func79, Tryz.ntmps79
    go_wp2_with (first | (go_at_call 103; ((with_reducible refine PP.out.mono ?_); rintro e1 w1 ⟨rfl, rfl⟩)))
    go_ret
    exact ⟨F, by rw [e.out.1]; rfl, by rw [e.out.2]; exact h.out, Ch.refl _ _, fun k hk => Or.inl hk⟩
  · simp only at h1
    subst h1
    have e := Lib.hid (put_y (met := met) h2)
    have hsel : -1 ≤ sel := by
      unfold putP at h2
      split at h2
      · cases h2
      · omega
    have hB : Hid (DA ((w.setCell ⟨b, i, none⟩ (.int .i64 sel)).setCell ⟨b, 16 + i, none⟩ (.int .i64 met)) b (D.set i (sel, met)) F) := Lib.hid ⟨h.out.ref.both hi hs'.out hm'.out, fun k hk => by
      rw [sel_set h.out.ref.len hi]
      split
      · exact hsel
      · exact h.out.low k hk, h.out.own⟩
    have i0 : (0 : Int) ≤ (i : Int) := by omega
    have i1 : (i : Int) < 16 := by omega
    have c1 := h.out.ref.cs i hi
    have c2 := h.out.ref.cm i hi
    have z1 := h.out.ref.z i
    have z2 := h.out.ref.z (16 + i)
    have ne : ((i : Int) == -1) = false := by simp
    clear h2 h3
    go_enter Tryz.func79, Tryz.ntmps79
    go_wp2_with (first | (go_at_call 103; ((with_reducible refine PP.out.mono ?_); rintro e1 w1 ⟨rfl, rfl⟩)))
    go_region
    all_goals go_wp2
    all_goals go_ret
    all_goals exact ⟨F, by rw [e.out.1]; rfl, by rw [e.out.2]; exact ⟨hB.out.ref.same rfl, hB.out.low, hB.out.own⟩, chF h.out.own (two_ch _ b i (.int .i64 sel) (.int .i64 met)), fun k hk => Or.inl hk⟩
end Wd
end Go.Proofs.YtgfdgdbkifkehaaGreat

/- The landed dict: New, Len. -/
namespace Go.Proofs.YtgfdgdbkifkehaaGreat
open Go.RowKit
set_option linter.unusedVariables false
set_option maxRecDepth 20000
namespace Wd
theorem dzero (w : World) : RefD (w.alloc (.cells #[.int .i64 0, .int .i64 0, .int .i64 0, .int .i64 0, .int .i64 0, .int .i64 0, .int .i64 0, .int .i64 0, .int .i64 0, .int .i64 0, .int .i64 0, .int .i64 0, .int .i64 0, .int .i64 0, .int .i64 0, .int .i64 0, .int .i64 0, .int .i64 0, .int .i64 0, .int .i64 0, .int .i64 0, .int .i64 0, .int .i64 0, .int .i64 0, .int .i64 0, .int .i64 0, .int .i64 0, .int .i64 0, .int .i64 0, .int .i64 0, .int .i64 0, .int .i64 0] 121)) w.heap.size (DK 0) := by
  have hh : (w.alloc (.cells #[.int .i64 0, .int .i64 0, .int .i64 0, .int .i64 0, .int .i64 0, .int .i64 0, .int .i64 0, .int .i64 0, .int .i64 0, .int .i64 0, .int .i64 0, .int .i64 0, .int .i64 0, .int .i64 0, .int .i64 0, .int .i64 0, .int .i64 0, .int .i64 0, .int .i64 0, .int .i64 0, .int .i64 0, .int .i64 0, .int .i64 0, .int .i64 0, .int .i64 0, .int .i64 0, .int .i64 0, .int .i64 0, .int .i64 0, .int .i64 0, .int .i64 0, .int .i64 0] 121)).heap[w.heap.size]? = some (.cells #[.int .i64 0, .int .i64 0, .int .i64 0, .int .i64 0, .int .i64 0, .int .i64 0, .int .i64 0, .int .i64 0, .int .i64 0, .int .i64 0, .int .i64 0, .int .i64 0, .int .i64 0, .int .i64 0, .int .i64 0, .int .i64 0, .int .i64 0, .int .i64 0, .int .i64 0, .int .i64 0, .int .i64 0, .int .i64 0, .int .i64 0, .int .i64 0, .int .i64 0, .int .i64 0, .int .i64 0, .int .i64 0, .int .i64 0, .int .i64 0, .int .i64 0, .int .i64 0] 121 (0, 0)) := heap_alloc_new _ _
  generalize w.alloc (.cells #[.int .i64 0, .int .i64 0, .int .i64 0, .int .i64 0, .int .i64 0, .int .i64 0, .int .i64 0, .int .i64 0, .int .i64 0, .int .i64 0, .int .i64 0, .int .i64 0, .int .i64 0, .int .i64 0, .int .i64 0, .int .i64 0, .int .i64 0, .int .i64 0, .int .i64 0, .int .i64 0, .int .i64 0, .int .i64 0, .int .i64 0, .int .i64 0, .int .i64 0, .int .i64 0, .int .i64 0, .int .i64 0, .int .i64 0, .int .i64 0, .int .i64 0, .int .i64 0] 121) = W at hh ⊢
  generalize w.heap.size = b at hh ⊢
  have hs : ∀ k, k < 16 → selA (DK 0) k = 0 := fun k hk => by rcases (show k = 0 ∨ k = 1 ∨ k = 2 ∨ k = 3 ∨ k = 4 ∨ k = 5 ∨ k = 6 ∨ k = 7 ∨ k = 8 ∨ k = 9 ∨ k = 10 ∨ k = 11 ∨ k = 12 ∨ k = 13 ∨ k = 14 ∨ k = 15 by omega) with rfl | rfl | rfl | rfl | rfl | rfl | rfl | rfl | rfl | rfl | rfl | rfl | rfl | rfl | rfl | rfl <;> rfl
  have hm : ∀ k, k < 16 → metA (DK 0) k = 0 := fun k hk => by rcases (show k = 0 ∨ k = 1 ∨ k = 2 ∨ k = 3 ∨ k = 4 ∨ k = 5 ∨ k = 6 ∨ k = 7 ∨ k = 8 ∨ k = 9 ∨ k = 10 ∨ k = 11 ∨ k = 12 ∨ k = 13 ∨ k = 14 ∨ k = 15 by omega) with rfl | rfl | rfl | rfl | rfl | rfl | rfl | rfl | rfl | rfl | rfl | rfl | rfl | rfl | rfl | rfl <;> rfl
  refine ⟨rfl, fun k hk => by rw [hs k hk]; constructor <;> omega, fun k hk => by rw [hm k hk]; constructor <;> omega, fun k hk => ?_, fun k hk => ?_, fun k => by simp [World.frozen?, hh]⟩
  · rw [hs k hk]
    rcases (show k = 0 ∨ k = 1 ∨ k = 2 ∨ k = 3 ∨ k = 4 ∨ k = 5 ∨ k = 6 ∨ k = 7 ∨ k = 8 ∨ k = 9 ∨ k = 10 ∨ k = 11 ∨ k = 12 ∨ k = 13 ∨ k = 14 ∨ k = 15 by omega) with rfl | rfl | rfl | rfl | rfl | rfl | rfl | rfl | rfl | rfl | rfl | rfl | rfl | rfl | rfl | rfl <;> simp [World.cell?, hh]
  · rw [hm k hk]
    rcases (show k = 0 ∨ k = 1 ∨ k = 2 ∨ k = 3 ∨ k = 4 ∨ k = 5 ∨ k = 6 ∨ k = 7 ∨ k = 8 ∨ k = 9 ∨ k = 10 ∨ k = 11 ∨ k = 12 ∨ k = 13 ∨ k = 14 ∨ k = 15 by omega) with rfl | rfl | rfl | rfl | rfl | rfl | rfl | rfl | rfl | rfl | rfl | rfl | rfl | rfl | rfl | rfl <;> simp [World.cell?, hh]
set_option maxHeartbeats 8000000 in
theorem dnew_c (w : World) :
    Calls Tryz.prog 78 #[] w fun e w' => ∃ b, e = .returned (.pointer (some ⟨b, 0, none⟩)) ∧ RefD w' b D0 ∧ w.heap.size ≤ b ∧ Below w.heap.size w w' := by
  go_enter Tryz.func78, Tryz.ntmps78
  go_upto_region 2 with fail
  have hR := Lib.hid (dzero w)
  have hB := Lib.hid ((Below.refl w.heap.size w).alloc (Nat.le_refl _) (.cells #[.int .i64 0, .int .i64 0, .int .i64 0, .int .i64 0, .int .i64 0, .int .i64 0, .int .i64 0, .int .i64 0, .int .i64 0, .int .i64 0, .int .i64 0, .int .i64 0, .int .i64 0, .int .i64 0, .int .i64 0, .int .i64 0, .int .i64 0, .int .i64 0, .int .i64 0, .int .i64 0, .int .i64 0, .int .i64 0, .int .i64 0, .int .i64 0, .int .i64 0, .int .i64 0, .int .i64 0, .int .i64 0, .int .i64 0, .int .i64 0, .int .i64 0, .int .i64 0] 121))
  generalize w.alloc (.cells #[.int .i64 0, .int .i64 0, .int .i64 0, .int .i64 0, .int .i64 0, .int .i64 0, .int .i64 0, .int .i64 0, .int .i64 0, .int .i64 0, .int .i64 0, .int .i64 0, .int .i64 0, .int .i64 0, .int .i64 0, .int .i64 0, .int .i64 0, .int .i64 0, .int .i64 0, .int .i64 0, .int .i64 0, .int .i64 0, .int .i64 0, .int .i64 0, .int .i64 0, .int .i64 0, .int .i64 0, .int .i64 0, .int .i64 0, .int .i64 0, .int .i64 0, .int .i64 0] 121) = W at *
  obtain ⟨b, hb⟩ : ∃ b, w.heap.size = b := ⟨_, rfl⟩
  rw [hb] at hR hB ⊢
  go_wp2
  go_loopw [5] (fun i5 wr => ∃ k : Nat, k ≤ 16 ∧ i5 = .int .i64 k ∧ Hid (RefD wr b (DK k)) ∧ Hid (Below b w wr)) (fun i5 _ => 16 - (intOf i5).toNat)
  case atStart => exact ⟨0, by omega, rfl, hR, hB⟩
  case round =>
    clear hR hB
    obtain ⟨k, hk, rfl, hR, hB⟩ := hrel
    by_cases hlt : k < 16
    · have d1 : decide ((k : Int) < 16) = true := by simp; omega
      have i0 : (0 : Int) ≤ (k : Int) := by omega
      have i1 : (k : Int) < 16 := by omega
      have c1 := hR.out.cs k hlt
      have z1 := hR.out.z k
      have h1 := hR.out.set1 hlt (x := -1) ⟨by omega, by omega⟩
      rw [DK_next hlt] at h1
      have hR' := Lib.hid h1
      have hB' : Hid (Below b w (wr.setCell ⟨b, k, none⟩ (.int .i64 (-1)))) := Lib.hid (hB.out.setCell (p := ⟨b, k, none⟩) (Nat.le_refl _) _)
      clear h1
      go_wp2
      go_roundw
      case rel => exact ⟨k + 1, by omega, by go_num, hR', hB'⟩
      case measure => simp [intOf]; omega
    · have d1 : decide ((k : Int) < 16) = false := by simp; omega
      have hR' : RefD wr b D0 := by rw [← DK_all, ← show k = 16 by omega]; exact hR.out
      go_wp2
      go_ret
      exact ⟨b, rfl, hR', by rw [hb]; exact Nat.le_refl _, by rw [hb]; exact hB.out⟩
end Wd
end Go.Proofs.YtgfdgdbkifkehaaGreat

/- The landed dict: Of. -/
namespace Go.Proofs.YtgfdgdbkifkehaaGreat
open Go.RowKit
set_option linter.unusedVariables false
set_option maxRecDepth 20000
namespace Wd
theorem D0_low : ∀ k, k < 16 → -1 ≤ selA D0 k := fun k hk => by
  rcases (show k = 0 ∨ k = 1 ∨ k = 2 ∨ k = 3 ∨ k = 4 ∨ k = 5 ∨ k = 6 ∨ k = 7 ∨ k = 8 ∨ k = 9 ∨ k = 10 ∨ k = 11 ∨ k = 12 ∨ k = 13 ∨ k = 14 ∨ k = 15 by omega) with rfl | rfl | rfl | rfl | rfl | rfl | rfl | rfl | rfl | rfl | rfl | rfl | rfl | rfl | rfl | rfl <;> decide
theorem dnew_d (w : World) : Calls Tryz.prog 78 #[] w fun e w' => ∃ b, e = .returned (.pointer (some ⟨b, 0, none⟩)) ∧ DA w' b D0 (fun k => k = b) ∧ w.heap.size ≤ b ∧ Below w.heap.size w w' := by
  refine (dnew_c w).mono ?_
  rintro e w' ⟨b, rfl, hR, hb, hB⟩
  exact ⟨b, rfl, ⟨hR, D0_low, fun k => Iff.rfl⟩, hb, hB⟩
theorem DA.keepF {w w' : World} {p : Nat} {D : Dst} {F : Nat → Prop} (h : DA w p D F) (g : ∀ k, F k → w'.heap[k]? = w.heap[k]?) : DA w' p D F :=
  ⟨h.ref.same (g p ((h.own p).2 rfl)), h.low, h.own⟩
/-- Put, of a dict that lies in one block -/
theorem dput_p {w : World} {b : Nat} {D : Dst} (h : DA w b D (fun k => k = b)) (sel met : Int) (hs : I64 sel) (hm : I64 met) :
    Calls Tryz.prog 79 #[.pointer (some ⟨b, 0, none⟩), .int .i64 sel, .int .i64 met] w fun e w' => e = .returned (.bool (putB D sel)) ∧ DA w' b (putD D sel met) (fun k => k = b) ∧ Ch (fun k => k = b) w w' := by
  refine (dput_c h sel met hs hm).mono ?_
  rintro e w' ⟨F', rfl, hd, hc, hn⟩
  exact ⟨rfl, ⟨hd.ref, hd.low, fun k => Iff.rfl⟩, hc⟩
set_option maxHeartbeats 8000000 in
theorem dof_c {w : World} {v : Value} {B : List (Int × Int)} (h : PrV w v B) :
    Calls Tryz.prog 47 #[v] w fun e w' => ((∃ D b, ofD B D0 = some D ∧ e = .returned (.tuple #[.pointer (some ⟨b, 0, none⟩), .bool true]) ∧ DA w' b D (fun k => k = b) ∧ w.heap.size ≤ b) ∨ (ofD B D0 = none ∧ e = .returned (.tuple #[.pointer none, .bool false]))) ∧ Below w.heap.size w w' := by
  obtain ⟨ad, cap, rfl, hcap, hmx⟩ := h.form
  obtain ⟨n, hn⟩ : ∃ n, n = B.length := ⟨_, rfl⟩
  rw [← hn] at h hcap ⊢
  replace h := Lib.hid h
  have hn' := Lib.hid hn
  have hnm : n ≤ 9223372036854775807 := by have : maxLen ≤ 9223372036854775807 := by decide
                                           omega
  clear hmx hn
  go_enter Tryz.func47, Tryz.ntmps47
  go_upto_region 2 with (first | (go_at_call 78; ((with_reducible refine (dnew_d _).mono ?_); rintro e1 w1 ⟨b, rfl, hR, hb, hB⟩)))
  replace hR := Lib.hid hR
  replace hB := Lib.hid hB
  have hst : Hid (ofD B D0 = ofD (B.drop 0) D0) := Lib.hid (by simp)
  go_wp2
  go_loopw [10] (fun i10 wr => ∃ (k : Nat) (D : Dst), k ≤ n ∧ i10 = .int .i64 k ∧ Hid (DA wr b D (fun k => k = b)) ∧ Hid (ofD B D0 = ofD (B.drop k) D) ∧ Hid (Below w.heap.size w wr)) (fun i10 _ => n - (intOf i10).toNat)
  case atStart => exact ⟨0, D0, by omega, rfl, hR, hst, hB⟩
  case round =>
    clear hR hst hB
    obtain ⟨k, D, hk, rfl, hR, hO, hB⟩ := hrel
    by_cases hlt : k < n
    · have d1 : decide ((k : Int) < (n : Int)) = true := by simp; omega
      have p0 : (0 : Int) ≤ (k : Int) := by omega
      have p1 : (k : Int) < (n : Int) := by omega
      obtain ⟨⟨bs, bm⟩, hx⟩ : ∃ x, B[k]? = some x := ⟨B[k]'(by have := hn'.out; omega), by simp⟩
      obtain ⟨s64, m64, g, off, rfl, c0, c1⟩ := (h.out.up hB.out).at hx
      simp only at s64 m64 c0 c1
      have hB1 := Lib.hid (hB.out.alloc hB.out.size (.cells #[.int .i64 bs, .int .i64 bm] 53))
      have hR1 := hR.out.keepF (w' := wr.alloc (.cells #[.int .i64 bs, .int .i64 bm] 53)) (fun k hk => ((Below.refl wr.heap.size wr).alloc (Nat.le_refl _) (.cells #[.int .i64 bs, .int .i64 bm] 53)).block k (by subst hk; exact hR.out.ref.lt))
      have PP := dput_p hR1 bs bm s64 m64
      have hs := fun h => of_step (D := D) hx h
      have ht := fun h => of_stop (D := D) hx h
      clear hx
      cases hpb : putB D bs with
      | true =>
        rw [hpb] at PP
        replace PP := Lib.hid PP
        have hO' := Lib.hid (hO.out.trans (hs hpb))
        clear hpb hs ht hR1
        go_wp2_with (first | (go_at_call 79; ((with_reducible refine PP.out.mono ?_); rintro e1 w2 ⟨rfl, hR2, hc2⟩)))
        go_roundw
        case rel => exact ⟨k + 1, _, by omega, by go_num, Lib.hid hR2, hO', Lib.hid (rel_below hB1.out hc2 hb)⟩
        case measure => simp [intOf]; omega
      | false =>
        rw [hpb] at PP
        replace PP := Lib.hid PP
        have hO' := Lib.hid (hO.out.trans (ht hpb))
        clear hpb hs ht hR1
        go_wp2_with (first | (go_at_call 79; ((with_reducible refine PP.out.mono ?_); rintro e1 w2 ⟨rfl, hR2, hc2⟩)))
        go_ret2
        exact ⟨Or.inr ⟨hO'.out, rfl⟩, rel_below hB1.out hc2 hb⟩
    · have d1 : decide ((k : Int) < (n : Int)) = false := by simp; omega
      have e := hO.out
      rw [show k = B.length by have := hn'.out; omega, List.drop_length, ofD] at e
      replace e := Lib.hid e
      go_wp2
      go_ret2
      exact ⟨Or.inl ⟨D, b, e.out, rfl, hR.out, hb⟩, hB.out⟩
end Wd
end Go.Proofs.YtgfdgdbkifkehaaGreat

/- The landed programs: how much of each; what is wrong with the classes. -/
namespace Go.Proofs.YtgfdgdbkifkehaaGreat
open Go.RowKit
set_option linter.unusedVariables false
set_option maxRecDepth 20000
namespace Wd
theorem UnK.v1 {w : World} {u : Value} {U : UnitA} (hu : UnK w u U) : ∃ na nc ca cc ma mc oa oc l1 l2 l3 l4, u = .agg #[.slice na l1 nc, .slice ca l2 cc, .slice ma l3 mc, .slice oa l4 oc, .int .i64 U.main] ∧ V1 w (w.alloc (.cells #[.slice na l1 nc, .slice ca l2 cc, .slice ma l3 mc, .slice oa l4 oc, .int .i64 U.main] 27)) U na nc ca cc ma mc oa oc l1 l2 l3 l4 ∧ (l1 : Int) ≤ 9223372036854775807 ∧ (l2 : Int) ≤ 9223372036854775807 ∧ (l3 : Int) ≤ 9223372036854775807 ∧ (l4 : Int) ≤ 9223372036854775807 := by
  obtain ⟨na, nc, ca, cc, ma, mc, oa, oc, rfl, ha'⟩ := hu.ex
  obtain ⟨_, _, e1, k1, m1, -⟩ := ha'.n.ex
  cases e1
  obtain ⟨_, _, e2, k2, m2⟩ := ha'.c.form
  cases e2
  obtain ⟨_, _, e3, k3, m3, -⟩ := ha'.m.ex
  cases e3
  obtain ⟨_, _, e4, k4, m4, -⟩ := ha'.o.ex
  cases e4
  obtain ⟨v1, v2, v3, v4⟩ := ha'
  have hmx : maxLen ≤ 9223372036854775807 := by decide
  have hw1 := (Below.refl w.heap.size w).alloc (Nat.le_refl _) (.cells #[.slice na U.names.length nc, .slice ca U.classes.length cc, .slice ma U.methods.length mc, .slice oa U.objects.length oc, .int .i64 U.main] 27)
  exact ⟨na, nc, ca, cc, ma, mc, oa, oc, _, _, _, _, rfl, ⟨⟨by simp, by simp, by simp, by simp, by simp⟩, ⟨v1.up hw1, v2.up hw1, v3.up hw1, v4.up hw1⟩, ⟨rfl, rfl, rfl, rfl⟩, ⟨by omega, by omega, by omega, by omega⟩, ⟨k1, k2, k3, k4⟩, hw1⟩, by omega, by omega, by omega, by omega⟩
/-- so far nothing is wrong; X: what is still looked at -/
structure FE (r : Int) (X : List Int) : Prop where
  mk ::
  eq : r = firstE X
theorem FE.ok {r e : Int} {X : List Int} (h : FE r (e :: X)) (he : e = 0) : FE r X := ⟨by rw [h.eq, firstE, if_pos he]⟩
theorem FE.bad {r e : Int} {X : List Int} (h : FE r (e :: X)) (he : ¬ e = 0) : r = e := by rw [h.eq, firstE, if_neg he]
theorem firstE_app : ∀ (A B : List Int), firstE (A ++ B) = if firstE A = 0 then firstE B else firstE A
  | [], B => by simp [firstE]
  | e :: A, B => by
    rw [List.cons_append, firstE, firstE]
    by_cases h : e = 0
    · rw [if_pos h, if_pos h]; exact firstE_app A B
    · rw [if_neg h, if_neg h, if_neg h]
def cRest (U : UnitA) (k : Nat) : List Int := (U.classes.drop k).map (fun c => eBinds c.binds)
def whyC (U : UnitA) : Int := firstE (shapeR U.classes U.names.length U.methods.length :: cRest U 0)
theorem cRest_next {U : UnitA} {k : Nat} {c : ClassA} (h : U.classes[k]? = some c) : cRest U k = eBinds c.binds :: cRest U (k + 1) := by unfold cRest; rw [drop_next h]; rfl
theorem cRest_last {U : UnitA} {k : Nat} (h : k = U.classes.length) : cRest U k = [] := by unfold cRest; rw [drop_all h]; rfl
theorem longB_no {U : UnitA} {l1 l3 l4 : Nat} (g1 : l1 = U.names.length) (g3 : l3 = U.methods.length) (g4 : l4 = U.objects.length) (h : l1 ≤ 48 ∧ 1 ≤ l3 ∧ l3 ≤ 32 ∧ 1 ≤ l4 ∧ l4 ≤ 40) : longB U = false := by
  unfold longB
  rw [← g1, ← g3, ← g4]
  simp; omega
theorem longB_yes {U : UnitA} {l1 l3 l4 : Nat} (g1 : l1 = U.names.length) (g3 : l3 = U.methods.length) (g4 : l4 = U.objects.length) (h : ¬ (l1 ≤ 48 ∧ 1 ≤ l3 ∧ l3 ≤ 32 ∧ 1 ≤ l4 ∧ l4 ≤ 40)) : longB U = true := by
  unfold longB
  rw [← g1, ← g3, ← g4]
  simp; omega
set_option maxHeartbeats 16000000 in
theorem ulengths_c {w : World} {u : Value} {U : UnitA} (hu : UnK w u U) :
    Calls Tryz.prog 18 #[u] w fun e w' => e = .returned (.bool (!longB U)) ∧ Below w.heap.size w w' := by
  obtain ⟨na, nc, ca, cc, ma, mc, oa, oc, l1, l2, l3, l4, rfl, hS, j1, j2, j3, j4⟩ := hu.v1
  clear hu
  obtain ⟨g1, g2, g3, g4⟩ := hS.lens
  have LN := Lib.hid (longB_no (U := U) g1 g3 g4)
  have LY := Lib.hid (longB_yes (U := U) g1 g3 g4)
  replace hS := Lib.hid hS
  clear g1 g2 g3 g4
  generalize longB U = r at *
  go_enter Tryz.func18, Tryz.ntmps18
  go_upto_region 1 with fail
  generalize w.alloc (.cells #[.slice na l1 nc, .slice ca l2 cc, .slice ma l3 mc, .slice oa l4 oc, .int .i64 U.main] 27) = W at *
  obtain ⟨a0, a1, a2, a3, a4⟩ := hS.out.cells
  by_cases t0 : ¬ (l1 ≤ 48)
  · as_aux_lemma =>
    have e : Hid (r = true) := Lib.hid (LY.out (by omega))
    have d0 : decide ((l1 : Int) ≤ 48) = false := by simp; omega
    clear t0
    go_wp2
    go_ret
    exact ⟨by rw [e.out]; rfl, hS.out.bel⟩
  have d0 : decide ((l1 : Int) ≤ 48) = true := by simp; omega
  by_cases t1 : ¬ (1 ≤ l3)
  · as_aux_lemma =>
    have e : Hid (r = true) := Lib.hid (LY.out (by omega))
    have d1 : decide ((l3 : Int) ≥ 1) = false := by simp; omega
    clear t1
    go_wp2
    go_ret
    exact ⟨by rw [e.out]; rfl, hS.out.bel⟩
  have d1 : decide ((l3 : Int) ≥ 1) = true := by simp; omega
  by_cases t2 : ¬ (l3 ≤ 32)
  · as_aux_lemma =>
    have e : Hid (r = true) := Lib.hid (LY.out (by omega))
    have d2 : decide ((l3 : Int) ≤ 32) = false := by simp; omega
    clear t2
    go_wp2
    go_ret
    exact ⟨by rw [e.out]; rfl, hS.out.bel⟩
  have d2 : decide ((l3 : Int) ≤ 32) = true := by simp; omega
  by_cases t3 : ¬ (1 ≤ l4)
  · as_aux_lemma =>
    have e : Hid (r = true) := Lib.hid (LY.out (by omega))
    have d3 : decide ((l4 : Int) ≥ 1) = false := by simp; omega
    clear t3
    go_wp2
    go_ret
    exact ⟨by rw [e.out]; rfl, hS.out.bel⟩
  have d3 : decide ((l4 : Int) ≥ 1) = true := by simp; omega
  by_cases t4 : ¬ (l4 ≤ 40)
  · as_aux_lemma =>
    have e : Hid (r = true) := Lib.hid (LY.out (by omega))
    have d4 : decide ((l4 : Int) ≤ 40) = false := by simp; omega
    clear t4
    go_wp2
    go_ret
    exact ⟨by rw [e.out]; rfl, hS.out.bel⟩
  have d4 : decide ((l4 : Int) ≤ 40) = true := by simp; omega
  have e : Hid (r = false) := Lib.hid (LN.out (by omega))
  clear t0 t1 t2 t3 t4
  go_wp2
  go_ret
  exact ⟨by rw [e.out]; rfl, hS.out.bel⟩
set_option maxHeartbeats 32000000 in
theorem uwhyC_c {w : World} {u : Value} {U : UnitA} (hu : UnK w u U) :
    Calls Tryz.prog 20 #[u] w fun e w' => e = .returned (.int .i64 (whyC U)) ∧ Below w.heap.size w w' := by
  obtain ⟨na, nc, ca, cc, ma, mc, oa, oc, l1, l2, l3, l4, rfl, hS, j1, j2, j3, j4⟩ := hu.v1
  clear hu
  have gg := Lib.hid hS.lens
  replace hS := Lib.hid hS
  have PS := Lib.hid (fun (w' : World) (h : ClV w' (.slice ca l2 cc) U.classes) => kright h l1 l3 (in64 _ ⟨by omega, by omega⟩) (in64 _ ⟨by omega, by omega⟩))
  have T2 : Hid (FE (whyC U) (shapeR U.classes l1 l3 :: cRest U 0)) := Lib.hid (by obtain ⟨g1, g2, g3, g4⟩ := gg.out; rw [g1, g3]; exact ⟨rfl⟩)
  generalize whyC U = r at *
  go_enter Tryz.func20, Tryz.ntmps20
  go_upto_region 1 with fail
  generalize w.alloc (.cells #[.slice na l1 nc, .slice ca l2 cc, .slice ma l3 mc, .slice oa l4 oc, .int .i64 U.main] 27) = W at *
  obtain ⟨a0, a1, a2, a3, a4⟩ := hS.out.cells
  go_wp2_with fail
  refine (PS.out _ hS.out.views.2.1).mono ?_
  rintro e w2 ⟨rfl, hb2⟩
  replace hS := Lib.hid (hS.out.up hb2)
  clear hb2 a0 a1 a2 a3 a4 PS
  obtain ⟨a0, a1, a2, a3, a4⟩ := hS.out.cells
  generalize shapeR U.classes l1 l3 = s at *
  by_cases hz : ¬ s = 0
  · as_aux_lemma =>
    have e : Hid (r = s) := Lib.hid (T2.out.bad hz)
    have hz' : (s != 0) = true := by simpa using hz
    clear T2 hz
    go_wp2
    go_ret
    exact ⟨congrArg (fun b => Ending.returned (Value.int .i64 b)) e.out.symm, hS.out.bel⟩
  replace hz : s = 0 := Decidable.not_not.1 hz
  subst hz
  have T3 := Lib.hid (T2.out.ok rfl)
  clear T2
  go_wp2
  clear a0 a1 a2 a3 a4
  go_loopw [23] (fun i wr => ∃ (k : Nat), k ≤ l2 ∧ i = .int .i64 k ∧ Hid (FE r (cRest U k)) ∧ Hid (V1 w wr U na nc ca cc ma mc oa oc l1 l2 l3 l4)) (fun i _ => l2 - (intOf i).toNat)
  case atStart => exact ⟨0, by omega, rfl, T3, hS⟩
  case round =>
    clear hS T3
    obtain ⟨k, hk, rfl, hT, hS⟩ := hrel
    by_cases hlt : k < l2
    · as_aux_lemma =>
      have hlt' : decide ((k : Int) < (l2 : Int)) = true := by simp; omega
      have p0 : (0 : Int) ≤ (k : Int) := by omega
      have p1 : (k : Int) < (l2 : Int) := by omega
      obtain ⟨x, hx⟩ : ∃ x, U.classes[k]? = some x := ⟨U.classes[k]'(by obtain ⟨h1, h2, h3, h4⟩ := gg.out; omega), by simp⟩
      obtain ⟨_, _, g, off, bv, rfl, d0, d1, d2, d3, pb⟩ := ClV.at hS.out.views.2.1 hx
      obtain ⟨ba, bc, rfl, _, _⟩ := pb.form
      have T := hT.out
      rw [cRest_next hx] at T
      have hS2 := Lib.hid (hS.out.up ((Below.refl _ _).alloc (Nat.le_refl _) (.cells #[.string x.nm, .int .i64 x.super, .int .i64 x.fields, .slice ba x.binds.length bc] 45)))
      have pb2 := Lib.hid (pb.up ((Below.refl _ _).alloc (Nat.le_refl _) (.cells #[.string x.nm, .int .i64 x.super, .int .i64 x.fields, .slice ba x.binds.length bc] 45)))
      clear hT pb hx
      by_cases hz : ¬ eBinds x.binds = 0
      · as_aux_lemma =>
        have e : Hid (r = 14) := Lib.hid (by rw [T.bad hz]; exact eBinds_14 hz)
        have hzh := Lib.hid hz
        clear T hz
        go_wp2_with fail
        refine (dof_c pb2.out).mono ?_
        rintro e1 w3 ⟨hor, hb3⟩
        obtain ⟨hno, rfl⟩ : ofD x.binds D0 = none ∧ e1 = .returned (.tuple #[.pointer none, .bool false]) := by
          rcases hor with ⟨D, b, h, _⟩ | ⟨h1, h2⟩
          · exact absurd (by unfold eBinds; rw [h]; rfl) hzh.out
          · exact ⟨h1, h2⟩
        replace hS := Lib.hid (hS2.out.up hb3)
        clear hS2 hb3 pb2 hor hno
        go_wp2
        go_ret
        exact ⟨congrArg (fun b => Ending.returned (Value.int .i64 b)) e.out.symm, hS.out.bel⟩
      replace hz : eBinds x.binds = 0 := Decidable.not_not.1 hz
      have hzh := Lib.hid hz
      have hT' := Lib.hid (T.ok hz)
      clear T hz
      go_wp2_with fail
      refine (dof_c pb2.out).mono ?_
      rintro e1 w3 ⟨hor, hb3⟩
      obtain ⟨bq, rfl⟩ : ∃ bq, e1 = .returned (.tuple #[.pointer (some ⟨bq, 0, none⟩), .bool true]) := by
        rcases hor with ⟨D, b, _, h, _⟩ | ⟨h1, h2⟩
        · exact ⟨b, h⟩
        · exact absurd hzh.out (by unfold eBinds; rw [h1]; decide)
      replace hS := Lib.hid (hS2.out.up hb3)
      clear hS2 hb3 pb2 hor
      go_wp2
      go_roundw
      case rel => exact ⟨k + 1, by omega, by go_num, hT', hS⟩
      case measure => simp [intOf]; omega
    · as_aux_lemma =>
      have hlt' : decide ((k : Int) < (l2 : Int)) = false := by simp; omega
      have e : Hid (r = 0) := Lib.hid (by
        have h := hT.out
        rw [cRest_last (by obtain ⟨h1, h2, h3, h4⟩ := gg.out; omega)] at h
        exact h.eq)
      go_wp2
      go_ret
      exact ⟨congrArg (fun b => Ending.returned (Value.int .i64 b)) e.out.symm, hS.out.bel⟩
end Wd
end Go.Proofs.YtgfdgdbkifkehaaGreat

/- The landed programs: a whole program copied. -/
namespace Go.Proofs.YtgfdgdbkifkehaaGreat
open Go.RowKit
set_option linter.unusedVariables false
set_option maxRecDepth 20000
namespace Wd
theorem CW.after {w wA w5 : World} {N : List ByteArray} {T : List (ClassA × Value)} {M : List (MethA × Value × Value)} {O : List (ObjA × Value)} {nv cv mv ov x0 x1 x2 x3 : Value} {main : Int} {i : Nat} (h : CW w wA N T M O nv cv mv ov x0 x1 x2 x3 main) (hi : i < 4) (hg : wA.grownBy w5 (rws N T M O nv cv mv ov i).v.ownBlock) : (∀ j v, wA.cell? ⟨w.heap.size + 2, j, none⟩ = some v → w5.cell? ⟨w.heap.size + 2, j, none⟩ = some v) ∧ ∀ j, w5.frozen? ⟨w.heap.size + 2, j, none⟩ = false := by
  obtain ⟨J, hc, _⟩ := h.ex
  have hb : w5.heap[w.heap.size + 2]? = wA.heap[w.heap.size + 2]? := hg.block _ hc.lt (fun e => by have := ((hc.own i hi).lt _ e.symm).1; omega)
  exact ⟨fun j v hv => (World.cell?_of_block (a := ⟨w.heap.size + 2, j, none⟩) hb).trans hv, fun j => (World.frozen?_of_block (a := ⟨w.heap.size + 2, j, none⟩) hb).trans (hc.fz j)⟩
theorem infoStrC : (Tryz.prog.info? 9).map (fun i => (i.zero, i.size, i.bytes)) = some (some (.string ByteArray.empty), 1, 16) := by kernel_rfl
theorem infoMtC : (Tryz.prog.info? 50).map (fun i => (i.zero, i.size, i.bytes)) = some (some (.agg #[.int .i64 0, .int .i64 0, .slice none 0 0, .slice none 0 0]), 4, 64) := by kernel_rfl
theorem ucopy_res {ts : Array Value} {w : World} {q : Nat} {v0 v1 v2 v3 v4 : Value} (h2 : ts.getD 2 undef = .pointer (some ⟨q, 0, none⟩)) (r0 : w.cell? ⟨q, 0, none⟩ = some v0) (r1 : w.cell? ⟨q, 1, none⟩ = some v1) (r2 : w.cell? ⟨q, 2, none⟩ = some v2) (r3 : w.cell? ⟨q, 3, none⟩ = some v3) (r4 : w.cell? ⟨q, 4, none⟩ = some v4) :
    (results Tryz.f29 ts).run Tryz.prog w = .ok (.agg #[v0, v1, v2, v3, v4]) w := by
  have h2' : ts[2]?.getD undef = .pointer (some ⟨q, 0, none⟩) := by rw [← Array.getD_eq_getD_getElem?]; exact h2
  simp [results, Tryz.results29, go_sem, h2', r0, r1, r2, r3, r4]
/-- a box of four, made at wr's end -/
structure Bx4 (wr W : World) (T : TypeId) (u0 u1 u2 u3 : Value) : Prop where
  mk ::
  h : W.heap[wr.heap.size]? = some (.cells #[u0, u1, u2, u3] T (0, 0))
  bel : Below wr.heap.size wr W
section
variable {wr W W2 : World} {T : TypeId} {u0 u1 u2 u3 : Value}
theorem Bx4.born : Bx4 wr (wr.alloc (.cells #[u0, u1, u2, u3] T)) T u0 u1 u2 u3 := ⟨heap_alloc_new _ _, (Below.refl _ _).alloc (Nat.le_refl _) _⟩
theorem Bx4.c0 (x : Bx4 wr W T u0 u1 u2 u3) : W.cell? ⟨wr.heap.size, 0, none⟩ = some u0 := cell_in x.h rfl
theorem Bx4.c1 (x : Bx4 wr W T u0 u1 u2 u3) : W.cell? ⟨wr.heap.size, 1, none⟩ = some u1 := cell_in x.h rfl
theorem Bx4.c2 (x : Bx4 wr W T u0 u1 u2 u3) : W.cell? ⟨wr.heap.size, 2, none⟩ = some u2 := cell_in x.h rfl
theorem Bx4.c3 (x : Bx4 wr W T u0 u1 u2 u3) : W.cell? ⟨wr.heap.size, 3, none⟩ = some u3 := cell_in x.h rfl
theorem Bx4.z (x : Bx4 wr W T u0 u1 u2 u3) (j : Nat) : W.frozen? ⟨wr.heap.size, j, none⟩ = false := loose_in x.h
theorem Bx4.lt (x : Bx4 wr W T u0 u1 u2 u3) : wr.heap.size < W.heap.size := World.block_lt_of_cell? _ _ x.c0
theorem Bx4.up (x : Bx4 wr W T u0 u1 u2 u3) (b : Below W.heap.size W W2) : Bx4 wr W2 T u0 u1 u2 u3 := ⟨(b.block _ x.lt).trans x.h, x.bel.trans (b.mono x.bel.size)⟩
theorem Bx4.set0 (x : Bx4 wr W T u0 u1 u2 u3) (v : Value) : Bx4 wr (W.setCell ⟨wr.heap.size, 0, none⟩ v) T v u1 u2 u3 := ⟨Lib.heap_setCell_same (i := 0) x.h _, x.bel.setCell (Nat.le_refl _) _⟩
theorem Bx4.set2 (x : Bx4 wr W T u0 u1 u2 u3) (v : Value) : Bx4 wr (W.setCell ⟨wr.heap.size, 2, none⟩ v) T u0 u1 v u3 := ⟨Lib.heap_setCell_same (i := 2) x.h _, x.bel.setCell (Nat.le_refl _) _⟩
theorem Bx4.set3 (x : Bx4 wr W T u0 u1 u2 u3) (v : Value) : Bx4 wr (W.setCell ⟨wr.heap.size, 3, none⟩ v) T u0 u1 u2 v := ⟨Lib.heap_setCell_same (i := 3) x.h _, x.bel.setCell (Nat.le_refl _) _⟩
end
/-- a box of two -/
structure Bx2 (wr W : World) (T : TypeId) (u0 u1 : Value) : Prop where
  mk ::
  h : W.heap[wr.heap.size]? = some (.cells #[u0, u1] T (0, 0))
  bel : Below wr.heap.size wr W
section
variable {wr W W2 : World} {T : TypeId} {u0 u1 : Value}
theorem Bx2.born : Bx2 wr (wr.alloc (.cells #[u0, u1] T)) T u0 u1 := ⟨heap_alloc_new _ _, (Below.refl _ _).alloc (Nat.le_refl _) _⟩
theorem Bx2.c0 (x : Bx2 wr W T u0 u1) : W.cell? ⟨wr.heap.size, 0, none⟩ = some u0 := cell_in x.h rfl
theorem Bx2.c1 (x : Bx2 wr W T u0 u1) : W.cell? ⟨wr.heap.size, 1, none⟩ = some u1 := cell_in x.h rfl
theorem Bx2.z (x : Bx2 wr W T u0 u1) (j : Nat) : W.frozen? ⟨wr.heap.size, j, none⟩ = false := loose_in x.h
theorem Bx2.lt (x : Bx2 wr W T u0 u1) : wr.heap.size < W.heap.size := World.block_lt_of_cell? _ _ x.c0
theorem Bx2.up (x : Bx2 wr W T u0 u1) (b : Below W.heap.size W W2) : Bx2 wr W2 T u0 u1 := ⟨(b.block _ x.lt).trans x.h, x.bel.trans (b.mono x.bel.size)⟩
theorem Bx2.set1 (x : Bx2 wr W T u0 u1) (v : Value) : Bx2 wr (W.setCell ⟨wr.heap.size, 1, none⟩ v) T u0 v := ⟨Lib.heap_setCell_same (i := 1) x.h _, x.bel.setCell (Nat.le_refl _) _⟩
end
/-- the boxes as they are made -/
theorem cw_born {w : World} {x0 x1 x2 x3 : Value} {m : Int} : CW w (((w.alloc (.cells #[x0, x1, x2, x3, .int .i64 m] 27)).alloc (.cells #[.slice none 0 0, .slice none 0 0, .slice none 0 0, .slice none 0 0, .int .i64 0] 27)).alloc (.cells #[.slice none 0 0, .slice none 0 0, .slice none 0 0, .slice none 0 0, .int .i64 m] 27)) [] [] [] [] (.slice none 0 0) (.slice none 0 0) (.slice none 0 0) (.slice none 0 0) x0 x1 x2 x3 m := by
  have s1 : (w.alloc (.cells #[x0, x1, x2, x3, .int .i64 m] 27)).heap.size = w.heap.size + 1 := by simp
  have s2 : ((w.alloc (.cells #[x0, x1, x2, x3, .int .i64 m] 27)).alloc (.cells #[.slice none 0 0, .slice none 0 0, .slice none 0 0, .slice none 0 0, .int .i64 0] 27)).heap.size = w.heap.size + 2 := by simp
  have h2 : (((w.alloc (.cells #[x0, x1, x2, x3, .int .i64 m] 27)).alloc (.cells #[.slice none 0 0, .slice none 0 0, .slice none 0 0, .slice none 0 0, .int .i64 0] 27)).alloc (.cells #[.slice none 0 0, .slice none 0 0, .slice none 0 0, .slice none 0 0, .int .i64 m] 27)).heap[w.heap.size + 2]? = some (.cells #[.slice none 0 0, .slice none 0 0, .slice none 0 0, .slice none 0 0, .int .i64 m] 27 (0, 0)) := by
    rw [← s2]; exact heap_alloc_new _ _
  have h1 : (((w.alloc (.cells #[x0, x1, x2, x3, .int .i64 m] 27)).alloc (.cells #[.slice none 0 0, .slice none 0 0, .slice none 0 0, .slice none 0 0, .int .i64 0] 27)).alloc (.cells #[.slice none 0 0, .slice none 0 0, .slice none 0 0, .slice none 0 0, .int .i64 m] 27)).heap[w.heap.size + 1]? = some uz5c := by
    rw [Below.heap_alloc _ _ _ (by rw [s2]; omega), ← s1]; exact heap_alloc_new _ _
  have h0 : (((w.alloc (.cells #[x0, x1, x2, x3, .int .i64 m] 27)).alloc (.cells #[.slice none 0 0, .slice none 0 0, .slice none 0 0, .slice none 0 0, .int .i64 0] 27)).alloc (.cells #[.slice none 0 0, .slice none 0 0, .slice none 0 0, .slice none 0 0, .int .i64 m] 27)).heap[w.heap.size]? = some (.cells #[x0, x1, x2, x3, .int .i64 m] 27 (0, 0)) := by
    rw [Below.heap_alloc _ _ _ (by rw [s2]; omega), Below.heap_alloc _ _ _ (by rw [s1]; omega)]; exact heap_alloc_new _ _
  have hb := (((Below.refl w.heap.size w).alloc (Nat.le_refl _) (.cells #[x0, x1, x2, x3, .int .i64 m] 27)).alloc (by rw [s1]; omega) (.cells #[.slice none 0 0, .slice none 0 0, .slice none 0 0, .slice none 0 0, .int .i64 0] 27)).alloc (by rw [s2]; omega) (.cells #[.slice none 0 0, .slice none 0 0, .slice none 0 0, .slice none 0 0, .int .i64 m] 27)
  refine ⟨⟨[], ⟨fun i hi => ?_, cell_in h2 rfl, fun j => loose_in h2, fun i hi => ?_, fun i j hi hj hn k hk => ?_, fun x hx => by cases hx⟩, fun x hx => (by cases hx), fun x hx => (by cases hx), fun x hx => (by cases hx)⟩, hb, h0, h1⟩
  · match i, hi with
    | 0, _ => exact cell_in h2 rfl
    | 1, _ => exact cell_in h2 rfl
    | 2, _ => exact cell_in h2 rfl
    | 3, _ => exact cell_in h2 rfl
  · match i, hi with
    | 0, _ => exact World.ownsRow_nil _ _ _ _
    | 1, _ => exact World.ownsRow_nil _ _ _ _
    | 2, _ => exact World.ownsRow_nil _ _ _ _
    | 3, _ => exact World.ownsRow_nil _ _ _ _
  · match i, hi with
    | 0, _ => cases hk
    | 1, _ => cases hk
    | 2, _ => cases hk
    | 3, _ => cases hk
set_option maxHeartbeats 64000000 in
theorem ucopy_c {w : World} {u : Value} {U : UnitA} (hu : UnK w u U) (hz : Sz U) :
    Calls Tryz.prog 29 #[u] w fun e w' => ∃ wr T M O nv cv mv ov x0 x1 x2 x3, e = .returned (.agg #[nv, cv, mv, ov, .int .i64 U.main]) ∧ T.map (·.1) = U.classes ∧ M.map (·.1) = U.methods ∧ O.map (·.1) = U.objects ∧ CW w wr U.names T M O nv cv mv ov x0 x1 x2 x3 U.main ∧ Cg (fun k => k = w.heap.size + 1) wr w' := by
  obtain ⟨i0, hi0, hi0z, hi0s, hi0b⟩ := info_parts infoStrC
  obtain ⟨i1, hi1, hi1z, hi1s, hi1b⟩ := info_parts infoCls
  obtain ⟨i2, hi2, hi2z, hi2s, hi2b⟩ := info_parts infoMtC
  obtain ⟨i3, hi3, hi3z, hi3s, hi3b⟩ := info_parts infoObj
  have hmx : 100000 ≤ maxLen := by decide
  obtain ⟨na, nc, ca, cc, ma, mc, oa, oc, l1, l2, l3, l4, rfl, hV, _, _, _, _⟩ := hu.v1
  obtain ⟨_, _, _, _, _, _, _, _, ee, hU⟩ := hu.ex
  obtain ⟨g1, g2, g3, g4⟩ := hV.lens
  subst g1; subst g2; subst g3; subst g4
  cases ee
  obtain ⟨l1, g1⟩ : ∃ n, n = U.names.length := ⟨_, rfl⟩
  obtain ⟨l2, g2⟩ : ∃ n, n = U.classes.length := ⟨_, rfl⟩
  obtain ⟨l3, g3⟩ : ∃ n, n = U.methods.length := ⟨_, rfl⟩
  obtain ⟨l4, g4⟩ : ∃ n, n = U.objects.length := ⟨_, rfl⟩
  have z1 : l1 ≤ 100000 := by rw [g1]; exact hz.nn
  have z2 : l2 ≤ 100000 := by rw [g2]; exact hz.nc
  have z3 : l3 ≤ 100000 := by rw [g3]; exact hz.nm
  have z4 : l4 ≤ 100000 := by rw [g4]; exact hz.no
  have gg := Lib.hid (And.intro g1 (And.intro g2 (And.intro g3 g4)))
  obtain ⟨v1, v2, v3, v4⟩ := hU
  rw [← g1] at v1 ⊢
  rw [← g2] at v2 ⊢
  rw [← g3] at v3 ⊢
  rw [← g4] at v4 ⊢
  replace v1 := Lib.hid v1
  replace v2 := Lib.hid v2
  replace v3 := Lib.hid v3
  replace v4 := Lib.hid v4
  replace hz := Lib.hid hz
  clear hV hu g1 g2 g3 g4
  have hS : Hid (CW w (((w.alloc (.cells #[.slice na l1 nc, .slice ca l2 cc, .slice ma l3 mc, .slice oa l4 oc, .int .i64 U.main] 27)).alloc (.cells #[.slice none 0 0, .slice none 0 0, .slice none 0 0, .slice none 0 0, .int .i64 0] 27)).alloc (.cells #[.slice none 0 0, .slice none 0 0, .slice none 0 0, .slice none 0 0, .int .i64 U.main] 27)) [] [] [] [] (.slice none 0 0) (.slice none 0 0) (.slice none 0 0) (.slice none 0 0) (.slice na l1 nc) (.slice ca l2 cc) (.slice ma l3 mc) (.slice oa l4 oc) U.main) := Lib.hid cw_born
  go_enter Tryz.func29, Tryz.ntmps29
  go_upto_region 2 with fail
  generalize (((w.alloc (.cells #[.slice na l1 nc, .slice ca l2 cc, .slice ma l3 mc, .slice oa l4 oc, .int .i64 U.main] 27)).alloc (.cells #[.slice none 0 0, .slice none 0 0, .slice none 0 0, .slice none 0 0, .int .i64 0] 27)).alloc (.cells #[.slice none 0 0, .slice none 0 0, .slice none 0 0, .slice none 0 0, .int .i64 U.main] 27)) = W at *
  obtain ⟨b0, b1, b2, b3, b4⟩ := hS.out.ubs
  go_wp2
  clear b0 b1 b2 b3 b4
  go_loopw [18] (fun i wr => ∃ (k : Nat) (a : Option Addr) (c : Nat), k ≤ l1 ∧ i = .int .i64 k ∧ Hid (CW w wr (U.names.take k) [] [] [] (.slice a k c) (.slice none 0 0) (.slice none 0 0) (.slice none 0 0) (.slice na l1 nc) (.slice ca l2 cc) (.slice ma l3 mc) (.slice oa l4 oc) U.main)) (fun i _ => l1 - (intOf i).toNat)
  case atStart => exact ⟨0, none, 0, by omega, rfl, hS⟩
  case round =>
    clear hS
    obtain ⟨k, a, c, hk, rfl, hS⟩ := hrel
    obtain ⟨b0, b1, b2, b3, b4⟩ := hS.out.ubs
    by_cases hlt : k < l1
    · as_aux_lemma =>
      have hlt' : decide ((k : Int) < (l1 : Int)) = true := by simp; omega
      have p0 : (0 : Int) ≤ (k : Int) := by omega
      have p1 : (k : Int) < (l1 : Int) := by omega
      obtain ⟨x, hx⟩ : ∃ x, U.names[k]? = some x := ⟨U.names[k]'(by have := gg.out.1; omega), by simp⟩
      obtain ⟨g, off, rfl, c0⟩ := NmV.at (v1.out.up hS.out.bel) hx
      have hNx : Hid (U.names.take k ++ [x] = U.names.take (k + 1)) := Lib.hid (take_next hx).symm
      have hNl : Hid ((U.names.take k).length = k) := Lib.hid (by rw [List.length_take]; have := gg.out.1; omega)
      have PC := Lib.hid (fun w => uclone_c x (hz.out.ns x (List.mem_of_getElem? hx)) w)
      clear hx v2 v3 v4 hz
      go_upto_region 5 with fail
      clear c0 b0 b1 b2 b3 b4
      have x0a := hS.out.cells.1
      replace hS := Lib.hid (hS.out.up ((Below.refl _ _).drew))
      refine wp_region_last (d := 7) (fuel := 7) (S := (fun wr' => wr'.cell? ⟨w.heap.size + 2, 0, none⟩ = some (.slice a k c))) (by kernel_rfl) (by kernel_rfl) rfl ?_ (fun hHeld => ?_)
      · (try dsimp only); exact x0a
      try simp only [Act.put, nA]
      refine tk (i := 0) (oi := ⟨some 22, .fieldAddr 27 (.tmp 3) 0, 0, "unit.go:81", #[], none⟩) ?_
      try simp only [Act.put, nA]
      refine tk (i := 1) (oi := ⟨some 23, .load 22 (.tmp 22), 22, "unit.go:81", #[⟨0, .data⟩], none⟩) ?_
      try simp only [Act.put, nA]
      refine tk (i := 2) (oi := ⟨some 24, .move (.tmp 5), 9, "unit.go:81", #[], none⟩) ?_
      try simp only [Act.put, nA]
      refine wpAnyH_ready (rs := [3]) (by kernel_rfl) (by simp) ?_
      refine AllReadyH.cons (o := ⟨some 25, .call { callee := .value (.func 64), args := #[.tmp 24], argTypes := #[9] }, 9, "unit.go:81", #[⟨2, .data⟩], none⟩) rfl (fun K9 hK => ?_) ?_
      · go_simp
        with_reducible refine (PC.out _).mono ?_
        rintro e y1 ⟨rfl, hb⟩
        have hS1 := Lib.hid (hS.out.up hb)
        have x0b := hS1.out.cells.1
        have hS2 := Lib.hid (hS1.out.up ((Below.refl y1.heap.size y1).alloc (Nat.le_refl _) (.cells #[.string x] 9)))
        have x0c := hS2.out.cells.1
        have own7 : Hid ((y1.alloc (.cells #[.string x] 9)).ownsRow (w.heap.size + 2 + 1) 9 1 (.slice a k c) k (strs (U.names.take k))) := Lib.hid (by have h := hS2.out.own0; rw [hNl.out] at h; exact h)
        have rd7 : Hid (∀ j u, (strs [x])[j]? = some u → (y1.alloc (.cells #[.string x] 9)).cell? ((⟨y1.heap.size, 0, none⟩ : Addr).add j) = some u) := Lib.hid (World.news_of_block (alloc_at _ _ _ rfl))
        have hb7 : Hid (w.heap.size + 2 + 1 ≤ (y1.alloc (.cells #[.string x] 9)).heap.size) := Lib.hid hS2.out.sz
        clear hb hS PC
        go_wp2_with fail
        refine hK.out _ _ ?_ ?_
        · (try dsimp only); exact x0b
        clear hK K9 hHeld; intro hHeld
        try simp only [Act.put, nA]
        refine wpAnyH_ready (rs := [4]) (by kernel_rfl) (by simp) ?_
        refine AllReadyH.cons (o := ⟨some 26, .buildSlice 22 1 #[(0, .tmp 25)], 22, "unit.go:81", #[⟨3, .data⟩], none⟩) rfl (fun K9 hK => ?_) ?_
        · go_simp
          refine hK.out _ _ ?_ ?_
          · (try dsimp only); exact x0c
          clear hK K9 hHeld; intro hHeld
          try simp only [Act.put, nA]
          refine wpAnyH_ready (rs := [5]) (by kernel_rfl) (by simp) ?_
          refine AllReadyH.cons (o := ⟨some 27, .call { callee := .builtin .append, args := #[.tmp 23, .tmp 26], argTypes := #[22, 22] }, 22, "unit.go:81", #[⟨1, .data⟩, ⟨4, .data⟩, ⟨3, .chain⟩], none⟩) rfl (fun K9 hK => ?_) ?_
          · refine step_append_lies _ rfl (.tmp 23) (.tmp 26) 22 rfl (w.heap.size + 2 + 1) 9 i0 (.string ByteArray.empty) 1 16 Tryz.underlying22 hi0 hi0z hi0s hi0b rfl (by decide) (.slice a k c) k _ rfl own7.out ⟨y1.heap.size, 0, none⟩ 1 1 (strs [x]) rfl rfl rd7.out (strs_one _) (by omega) (by omega) (by omega) hb7.out _ rfl ?_
            intro g1 cap1 wh hown1 hgrow1 hat1 hlt1
            have hN := Lib.hid (hS2.out.push0 (by rw [hNl.out]; exact hown1) hgrow1 (fun q hq => by have e1 : g1 = q := (by simpa [Value.ownBlock] using hq); rcases hat1 with e | e; exact Or.inl (by rw [← e1]; exact e); exact Or.inr (by rw [← e1]; exact e)))
            have hAf := hS2.out.after (i := 0) (by decide) hgrow1
            have x0h := hAf.1 0 _ x0c
            have z0h := hAf.2 0
            clear hown1 hgrow1 hat1 hlt1 hAf
            refine hK.out _ _ ?_ ?_
            · (try dsimp only); exact x0h
            clear hK K9 hHeld; intro hHeld
            try simp only [Act.put, nA]
            refine tk (i := 6) (oi := ⟨some 28, .fieldAddr 27 (.tmp 3) 0, 0, "unit.go:81", #[⟨0, .phase⟩, ⟨1, .phase⟩, ⟨2, .phase⟩, ⟨3, .phase⟩, ⟨4, .phase⟩, ⟨5, .phase⟩], none⟩) ?_
            try simp only [Act.put, nA]
            refine last_step (o := ⟨none, .store 22 (.tmp 28) (.tmp 27), 0, "unit.go:81", #[⟨6, .data⟩, ⟨5, .data⟩, ⟨5, .chain⟩, ⟨0, .phase⟩, ⟨1, .phase⟩, ⟨2, .phase⟩, ⟨3, .phase⟩, ⟨4, .phase⟩, ⟨5, .phase⟩], none⟩) rfl (by kernel_rfl) (fun K hK => ?_)
            go_simp
            refine hK.out _ _ ?_
            clear hK K
            try simp only [Act.put, nA]
            go_wp2
            go_roundw
            case rel => exact ⟨k + 1, _, _, by omega, by go_num, by rw [← hNx.out]; exact hN⟩
            case measure => simp [intOf]; omega
          exact AllReadyH.nil
        exact AllReadyH.nil
      exact AllReadyH.nil
    · as_aux_lemma =>
      have hlt' : decide ((k : Int) < (l1 : Int)) = false := by simp; omega
      have hS0 : Hid (CW w wr U.names [] [] [] (.slice a l1 c) (.slice none 0 0) (.slice none 0 0) (.slice none 0 0) (.slice na l1 nc) (.slice ca l2 cc) (.slice ma l3 mc) (.slice oa l4 oc) U.main) := Lib.hid (by
        have h := hS.out
        rw [show k = l1 by omega, gg.out.1, List.take_length, ← gg.out.1] at h
        exact h)
      obtain rfl : l1 = k := by omega
      clear hS hk hlt
      rename Hid (CW _ _ _ _ _ _ _ _ _ _ _ _ _ _ _) => hS
      obtain ⟨nv, hnv⟩ : ∃ v, v = Value.slice a l1 c := ⟨_, rfl⟩
      rw [← hnv] at hS
      clear hnv
      obtain ⟨b0, b1, b2, b3, b4⟩ := hS.out.ubs
      go_wp2
      clear b0 b1 b2 b3 b4
      go_loopw [33] (fun i wr => ∃ (k : Nat) (T : List (ClassA × Value)) (a : Option Addr) (c : Nat), k ≤ l2 ∧ i = .int .i64 k ∧ Hid (T.map (·.1) = U.classes.take k) ∧ Hid (CW w wr U.names T [] [] nv (.slice a k c) (.slice none 0 0) (.slice none 0 0) (.slice na l1 nc) (.slice ca l2 cc) (.slice ma l3 mc) (.slice oa l4 oc) U.main)) (fun i _ => l2 - (intOf i).toNat)
      case atStart => exact ⟨0, [], none, 0, by omega, rfl, Lib.hid rfl, hS⟩
      case round =>
        clear hS
        obtain ⟨k, T, a, c, hk, rfl, hT, hS⟩ := hrel
        obtain ⟨b0, b1, b2, b3, b4⟩ := hS.out.ubs
        by_cases hlt : k < l2
        · as_aux_lemma =>
          have hlt' : decide ((k : Int) < (l2 : Int)) = true := by simp; omega
          have p0 : (0 : Int) ≤ (k : Int) := by omega
          have p1 : (k : Int) < (l2 : Int) := by omega
          obtain ⟨x, hx⟩ : ∃ x, U.classes[k]? = some x := ⟨U.classes[k]'(by have := gg.out.2.1; omega), by simp⟩
          obtain ⟨_, _, g, off, bv, rfl, d0, d1, d2, d3, pb⟩ := ClV.at (v2.out.up hS.out.bel) hx
          obtain ⟨ba, bc, rfl, _, _⟩ := pb.form
          have hbd : x.binds.length ≤ 8796093022208 := hz.out.bs x (List.mem_of_getElem? hx)
          have PC := Lib.hid (fun w => uclone_c x.nm (hz.out.cs x (List.mem_of_getElem? hx)) w)
          have hTl : Hid (T.length = k) := Lib.hid (by have h := congrArg List.length hT.out; rw [List.length_map, List.length_take] at h; have := gg.out.2.1; omega)
          have hTx : Hid (∀ v : Value, (T ++ [(x, v)]).map (·.1) = U.classes.take (k + 1)) := Lib.hid (fun v => by rw [List.map_append, hT.out, take_next hx]; rfl)
          have hX : Hid (Bx4 wr (wr.alloc (.cells #[.string x.nm, .int .i64 x.super, .int .i64 x.fields, .slice ba x.binds.length bc] 45)) 45 (.string x.nm) (.int .i64 x.super) (.int .i64 x.fields) (.slice ba x.binds.length bc)) := Lib.hid Bx4.born
          clear hx hT v1 v2 v3 v4 hz gg
          go_upto_region 10 with fail
          clear b0 b1 b2 b3 b4 d0 d1 d2 d3
          generalize wr.alloc (.cells #[.string x.nm, .int .i64 x.super, .int .i64 x.fields, .slice ba x.binds.length bc] 45) = W1 at *
          have e0 := hX.out.c0
          replace pb := Lib.hid pb
          go_upto_region 11 with (first | (go_at_call 64; ((with_reducible refine (PC.out _).mono ?_); rintro e1 y1 ⟨rfl, hb⟩; replace hX := Lib.hid (hX.out.up hb); have f0 := hX.out.c0; have zf := hX.out.z 0; clear hb e0)))
          replace hX := Lib.hid (hX.out.set0 (.string x.nm))
          clear f0 zf PC
          generalize y1.setCell ⟨wr.heap.size, 0, none⟩ (.string x.nm) = W3 at *
          have e3 := hX.out.c3
          have PB := Lib.hid (ucpbind_c (pb.out.up hX.out.bel) hbd)
          have hS3 := Lib.hid (hS.out.up hX.out.bel)
          have hlt3 := Lib.hid hX.out.lt
          go_upto_region 12 with (first | (go_at_call 65; ((with_reducible refine PB.out.mono ?_); rintro e1 y2 ⟨v3, rfl, hO3, hb⟩; obtain ⟨a3, c3, rfl⟩ := row_shape hO3; replace hX := Lib.hid (hX.out.up hb); replace hO3 := Lib.hid hO3; have f3 := hX.out.c3; have zf := hX.out.z 3; clear hb e3)))
          replace hX := Lib.hid (hX.out.set3 (.slice a3 x.binds.length c3))
          replace hO3 := Lib.hid (row_set hO3.out ⟨wr.heap.size, 3, none⟩ (.slice a3 x.binds.length c3) (fun e => by have h1 := (hO3.out.lt _ e).1; have h2 := hlt3.out; simp only at h1; omega))
          clear f3 zf PB
          generalize y2.setCell ⟨wr.heap.size, 3, none⟩ (.slice a3 x.binds.length c3) = W5 at *
          have q0 := hX.out.c0
          have q1 := hX.out.c1
          have q2 := hX.out.c2
          have q3 := hX.out.c3
          have hS5 := Lib.hid (hS.out.up hX.out.bel)
          have x5 := hS5.out.cells.2.1
          have hS6 := Lib.hid (hS5.out.up ((Below.refl W5.heap.size W5).alloc (Nat.le_refl _) (.cells #[.string x.nm, .int .i64 x.super, .int .i64 x.fields, .slice a3 x.binds.length c3] 45)))
          have x6 := hS6.out.cells.2.1
          have own6 : Hid ((W5.alloc (.cells #[.string x.nm, .int .i64 x.super, .int .i64 x.fields, .slice a3 x.binds.length c3] 45)).ownsRow (w.heap.size + 2 + 1) 45 4 (.slice a k c) k (cl4s T)) := Lib.hid (by have h := hS6.out.own1; rw [hTl.out] at h; exact h)
          have hb6 : Hid (w.heap.size + 2 + 1 ≤ (W5.alloc (.cells #[.string x.nm, .int .i64 x.super, .int .i64 x.fields, .slice a3 x.binds.length c3] 45)).heap.size) := Lib.hid hS6.out.sz
          have hin : Hid ((W5.alloc (.cells #[.string x.nm, .int .i64 x.super, .int .i64 x.fields, .slice a3 x.binds.length c3] 45)).ownsRow (w.heap.size + 2 + 1) 53 2 (.slice a3 x.binds.length c3) x.binds.length (pr2 x.binds) ∧ ∀ j, j < 4 → ∀ q, (Value.slice a3 x.binds.length c3).ownBlock = some q → (rws U.names T [] [] nv (.slice a k c) (.slice none 0 0) (.slice none 0 0) j).v.ownBlock ≠ some q) := Lib.hid (hS3.out.new (Nat.le_refl _) (row_bel hO3.out ((Below.refl W5.heap.size W5).alloc (Nat.le_refl _) (.cells #[.string x.nm, .int .i64 x.super, .int .i64 x.fields, .slice a3 x.binds.length c3] 45))))
          clear hS3 hO3 hX hS5 hS hlt3 hbd
          go_wp2_with (first | (at_builtin; refine wpList_append_lies _ rfl (.tmp 46) (.tmp 48) 23 rfl (w.heap.size + 2 + 1) 45 i1 (.agg #[.string ByteArray.empty, .int .i64 0, .int .i64 0, .slice none 0 0]) 4 56 Tryz.underlying23 hi1 hi1z hi1s hi1b rfl (by decide) (.slice a k c) k _ (by simp [Act.eval]) own6.out ⟨W5.heap.size, 0, none⟩ 1 1 (cl4s [(x, .slice a3 x.binds.length c3)]) (by simp [Act.eval]) (by simp [cl4s, cl4]) (World.news_of_block (alloc_at _ _ _ rfl)) (cl4s_one _ (by intro y hy; rw [List.mem_singleton.1 hy]; exact ⟨_, _, _, rfl⟩)) (by omega) (by omega) (by omega) hb6.out _ rfl ?_; intro g1 cap1 w7 hown1 hgrow1 hat1 hlt1; have hAf := hS6.out.after (i := 1) (by decide) hgrow1; have x7 := hAf.1 1 _ x6; have z7 := hAf.2 1; have hP := Lib.hid (hS6.out.push1 (x := (x, .slice a3 x.binds.length c3)) hin.out (by rw [hTl.out]; exact hown1) hgrow1 (fun q hq => by have e1 : g1 = q := (by simpa [Value.ownBlock] using hq); rcases hat1 with e | e; exact Or.inl (by rw [← e1]; exact e); exact Or.inr (by rw [← e1]; exact e))); clear hown1 hgrow1 hat1 hlt1 hAf))
          go_roundw
          case rel => exact ⟨k + 1, _, _, _, by omega, by go_num, Lib.hid (hTx.out _), hP⟩
          case measure => simp [intOf]; omega
        · as_aux_lemma =>
          have hlt' : decide ((k : Int) < (l2 : Int)) = false := by simp; omega
          obtain rfl : l2 = k := by omega
          have hT1 : Hid (T.map (·.1) = U.classes) := Lib.hid (by have h := hT.out; rw [gg.out.2.1, List.take_length] at h; exact h)
          clear hT hk hlt
          obtain ⟨cv, hnv⟩ : ∃ v, v = Value.slice a l2 c := ⟨_, rfl⟩
          rw [← hnv] at hS
          clear hnv
          obtain ⟨b0, b1, b2, b3, b4⟩ := hS.out.ubs
          go_wp2
          clear b0 b1 b2 b3 b4
          go_loopw [55] (fun i wr => ∃ (k : Nat) (M : List (MethA × Value × Value)) (a : Option Addr) (c : Nat), k ≤ l3 ∧ i = .int .i64 k ∧ Hid (M.map (·.1) = U.methods.take k) ∧ Hid (CW w wr U.names T M [] nv cv (.slice a k c) (.slice none 0 0) (.slice na l1 nc) (.slice ca l2 cc) (.slice ma l3 mc) (.slice oa l4 oc) U.main)) (fun i _ => l3 - (intOf i).toNat)
          case atStart => exact ⟨0, [], none, 0, by omega, rfl, Lib.hid rfl, hS⟩
          case round =>
            clear hS
            obtain ⟨k, M, a, c, hk, rfl, hT, hS⟩ := hrel
            obtain ⟨b0, b1, b2, b3, b4⟩ := hS.out.ubs
            by_cases hlt : k < l3
            · as_aux_lemma =>
              have hlt' : decide ((k : Int) < (l3 : Int)) = true := by simp; omega
              have p0 : (0 : Int) ≤ (k : Int) := by omega
              have p1 : (k : Int) < (l3 : Int) := by omega
              obtain ⟨x, hx⟩ : ∃ x, U.methods[k]? = some x := ⟨U.methods[k]'(by have := gg.out.2.2.1; omega), by simp⟩
              obtain ⟨g, off, la, lc, ka, kc, rfl, d0, d1, d2, d3, pm⟩ := MtV.at (v3.out.up hS.out.bel) hx
              obtain ⟨_, _, _, _, em, pl, pk⟩ := pm.ex
              cases em
              have hbd := hz.out.ms x (List.mem_of_getElem? hx)
              replace pl := Lib.hid pl
              replace pk := Lib.hid pk
              have hTl : Hid (M.length = k) := Lib.hid (by have h := congrArg List.length hT.out; rw [List.length_map, List.length_take] at h; have := gg.out.2.2.1; omega)
              have hTx : Hid (∀ v v' : Value, (M ++ [(x, v, v')]).map (·.1) = U.methods.take (k + 1)) := Lib.hid (fun v v' => by rw [List.map_append, hT.out, take_next hx]; rfl)
              have hX : Hid (Bx4 wr (wr.alloc (.cells #[.int .i64 x.args, .int .i64 x.temps, .slice la x.lits.length lc, .slice ka x.code.length kc] 50)) 50 (.int .i64 x.args) (.int .i64 x.temps) (.slice la x.lits.length lc) (.slice ka x.code.length kc)) := Lib.hid Bx4.born
              clear hx hT v1 v2 v3 v4 hz gg
              go_upto_region 17 with fail
              clear b0 b1 b2 b3 b4 d0 d1 d2 d3
              generalize wr.alloc (.cells #[.int .i64 x.args, .int .i64 x.temps, .slice la x.lits.length lc, .slice ka x.code.length kc] 50) = W1 at *
              have e2 := hX.out.c2
              have PB := Lib.hid (ucpval_c (pl.out.up hX.out.bel) hbd.1)
              have hS3 := Lib.hid (hS.out.up hX.out.bel)
              have hlt3 := Lib.hid hX.out.lt
              go_upto_region 18 with (first | (go_at_call 66; ((with_reducible refine PB.out.mono ?_); rintro e1 y2 ⟨v3', rfl, hO3, hb⟩; obtain ⟨a3, c3, rfl⟩ := row_shape hO3; replace hX := Lib.hid (hX.out.up hb); replace hO3 := Lib.hid hO3; have f3 := hX.out.c2; have zf := hX.out.z 2; clear hb e2)))
              replace hX := Lib.hid (hX.out.set2 (.slice a3 x.lits.length c3))
              replace hO3 := Lib.hid (row_set hO3.out ⟨wr.heap.size, 2, none⟩ (.slice a3 x.lits.length c3) (fun e => by have h1 := (hO3.out.lt _ e).1; have h2 := hlt3.out; simp only at h1; omega))
              clear f3 zf PB
              generalize y2.setCell ⟨wr.heap.size, 2, none⟩ (.slice a3 x.lits.length c3) = W3 at *
              have e3 := hX.out.c3
              have PB := Lib.hid (ucpbyte_c (pk.out.up hX.out.bel) hbd.2)
              have hS4 := Lib.hid (hS.out.up hX.out.bel)
              have hlt4 := Lib.hid hX.out.lt
              go_upto_region 19 with (first | (go_at_call 67; ((with_reducible refine PB.out.mono ?_); rintro e1 y4 ⟨v4', rfl, hO4, hb⟩; obtain ⟨a4, c4, rfl⟩ := row_shape hO4; replace hX := Lib.hid (hX.out.up hb); replace hO3 := Lib.hid (row_bel hO3.out hb); replace hO4 := Lib.hid hO4; have f3 := hX.out.c3; have zf := hX.out.z 3; clear hb e3)))
              replace hX := Lib.hid (hX.out.set3 (.slice a4 x.code.length c4))
              replace hO3 := Lib.hid (row_set hO3.out ⟨wr.heap.size, 3, none⟩ (.slice a4 x.code.length c4) (fun e => by have h1 := (hO3.out.lt _ e).1; have h2 := hlt3.out; simp only at h1; omega))
              replace hO4 := Lib.hid (row_set hO4.out ⟨wr.heap.size, 3, none⟩ (.slice a4 x.code.length c4) (fun e => by have h1 := (hO4.out.lt _ e).1; have h2 := hlt4.out; simp only at h1; omega))
              clear f3 zf PB
              generalize y4.setCell ⟨wr.heap.size, 3, none⟩ (.slice a4 x.code.length c4) = W5 at *
              have q0 := hX.out.c0
              have q1 := hX.out.c1
              have q2 := hX.out.c2
              have q3 := hX.out.c3
              have hS5 := Lib.hid (hS.out.up hX.out.bel)
              have x5 := hS5.out.cells.2.2.1
              have hS6 := Lib.hid (hS5.out.up ((Below.refl W5.heap.size W5).alloc (Nat.le_refl _) (.cells #[.int .i64 x.args, .int .i64 x.temps, .slice a3 x.lits.length c3, .slice a4 x.code.length c4] 50)))
              have x6 := hS6.out.cells.2.2.1
              have own6 : Hid ((W5.alloc (.cells #[.int .i64 x.args, .int .i64 x.temps, .slice a3 x.lits.length c3, .slice a4 x.code.length c4] 50)).ownsRow (w.heap.size + 2 + 1) 50 4 (.slice a k c) k (mt4s M)) := Lib.hid (by have h := hS6.out.own2; rw [hTl.out] at h; exact h)
              have hb6 : Hid (w.heap.size + 2 + 1 ≤ (W5.alloc (.cells #[.int .i64 x.args, .int .i64 x.temps, .slice a3 x.lits.length c3, .slice a4 x.code.length c4] 50)).heap.size) := Lib.hid hS6.out.sz
              have hin : Hid ((W5.alloc (.cells #[.int .i64 x.args, .int .i64 x.temps, .slice a3 x.lits.length c3, .slice a4 x.code.length c4] 50)).ownsRow (w.heap.size + 2 + 1) 57 2 (.slice a3 x.lits.length c3) x.lits.length (pr2 x.lits) ∧ ∀ j, j < 4 → ∀ q, (Value.slice a3 x.lits.length c3).ownBlock = some q → (rws U.names T M [] nv cv (.slice a k c) (.slice none 0 0) j).v.ownBlock ≠ some q) := Lib.hid (hS3.out.new (Nat.le_refl _) (row_bel hO3.out ((Below.refl W5.heap.size W5).alloc (Nat.le_refl _) (.cells #[.int .i64 x.args, .int .i64 x.temps, .slice a3 x.lits.length c3, .slice a4 x.code.length c4] 50))))
              have hin2 : Hid ((W5.alloc (.cells #[.int .i64 x.args, .int .i64 x.temps, .slice a3 x.lits.length c3, .slice a4 x.code.length c4] 50)).ownsRow (w.heap.size + 2 + 1) 5 1 (.slice a4 x.code.length c4) x.code.length (bys x.code) ∧ ∀ j, j < 4 → ∀ q, (Value.slice a4 x.code.length c4).ownBlock = some q → (rws U.names T M [] nv cv (.slice a k c) (.slice none 0 0) j).v.ownBlock ≠ some q) := Lib.hid (hS4.out.new (Nat.le_refl _) (row_bel hO4.out ((Below.refl W5.heap.size W5).alloc (Nat.le_refl _) (.cells #[.int .i64 x.args, .int .i64 x.temps, .slice a3 x.lits.length c3, .slice a4 x.code.length c4] 50))))
              clear hS3 hO3 hX hS5 hS hlt3 hbd
              go_wp2_with (first | (at_builtin; refine wpList_append_lies _ rfl (.tmp 68) (.tmp 70) 24 rfl (w.heap.size + 2 + 1) 50 i2 (.agg #[.int .i64 0, .int .i64 0, .slice none 0 0, .slice none 0 0]) 4 64 Tryz.underlying24 hi2 hi2z hi2s hi2b rfl (by decide) (.slice a k c) k _ (by simp [Act.eval]) own6.out ⟨W5.heap.size, 0, none⟩ 1 1 (mt4s [(x, .slice a3 x.lits.length c3, .slice a4 x.code.length c4)]) (by simp [Act.eval]) (by simp [mt4s, mt4]) (World.news_of_block (alloc_at _ _ _ rfl)) (mt4s_one _ (by intro y hy; rw [List.mem_singleton.1 hy]; exact ⟨⟨_, _, _, rfl⟩, _, _, _, rfl⟩)) (by omega) (by omega) (by omega) hb6.out _ rfl ?_; intro g1 cap1 w7 hown1 hgrow1 hat1 hlt1; have hAf := hS6.out.after (i := 2) (by decide) hgrow1; have x7 := hAf.1 2 _ x6; have z7 := hAf.2 2; have hP := Lib.hid (hS6.out.push2 (x := (x, .slice a3 x.lits.length c3, .slice a4 x.code.length c4)) hin.out hin2.out (by rw [hTl.out]; exact hown1) hgrow1 (fun q hq => by have e1 : g1 = q := (by simpa [Value.ownBlock] using hq); rcases hat1 with e | e; exact Or.inl (by rw [← e1]; exact e); exact Or.inr (by rw [← e1]; exact e))); clear hown1 hgrow1 hat1 hlt1 hAf))
              go_roundw
              case rel => exact ⟨k + 1, _, _, _, by omega, by go_num, Lib.hid (hTx.out _ _), hP⟩
              case measure => simp [intOf]; omega
            · as_aux_lemma =>
              have hlt' : decide ((k : Int) < (l3 : Int)) = false := by simp; omega
              obtain rfl : l3 = k := by omega
              have hT2 : Hid (M.map (·.1) = U.methods) := Lib.hid (by have h := hT.out; rw [gg.out.2.2.1, List.take_length] at h; exact h)
              clear hT hk hlt
              obtain ⟨mv, hnv⟩ : ∃ v, v = Value.slice a l3 c := ⟨_, rfl⟩
              rw [← hnv] at hS
              clear hnv
              obtain ⟨b0, b1, b2, b3, b4⟩ := hS.out.ubs
              go_wp2
              clear b0 b1 b2 b3 b4
              go_loopw [77] (fun i wr => ∃ (k : Nat) (O : List (ObjA × Value)) (a : Option Addr) (c : Nat), k ≤ l4 ∧ i = .int .i64 k ∧ Hid (O.map (·.1) = U.objects.take k) ∧ Hid (CW w wr U.names T M O nv cv mv (.slice a k c) (.slice na l1 nc) (.slice ca l2 cc) (.slice ma l3 mc) (.slice oa l4 oc) U.main)) (fun i _ => l4 - (intOf i).toNat)
              case atStart => exact ⟨0, [], none, 0, by omega, rfl, Lib.hid rfl, hS⟩
              case round =>
                clear hS
                obtain ⟨k, O, a, c, hk, rfl, hT, hS⟩ := hrel
                obtain ⟨b0, b1, b2, b3, b4⟩ := hS.out.ubs
                by_cases hlt : k < l4
                · as_aux_lemma =>
                  have hlt' : decide ((k : Int) < (l4 : Int)) = true := by simp; omega
                  have p0 : (0 : Int) ≤ (k : Int) := by omega
                  have p1 : (k : Int) < (l4 : Int) := by omega
                  obtain ⟨x, hx⟩ : ∃ x, U.objects[k]? = some x := ⟨U.objects[k]'(by have := gg.out.2.2.2; omega), by simp⟩
                  obtain ⟨_, g, off, fv, rfl, d0, d1, pf⟩ := ObV.at (v4.out.up hS.out.bel) hx
                  obtain ⟨fa, fc, rfl, _, _⟩ := pf.form
                  have hbd : x.flds.length ≤ 8796093022208 := hz.out.os x (List.mem_of_getElem? hx)
                  replace pf := Lib.hid pf
                  have hTl : Hid (O.length = k) := Lib.hid (by have h := congrArg List.length hT.out; rw [List.length_map, List.length_take] at h; have := gg.out.2.2.2; omega)
                  have hTx : Hid (∀ v : Value, (O ++ [(x, v)]).map (·.1) = U.objects.take (k + 1)) := Lib.hid (fun v => by rw [List.map_append, hT.out, take_next hx]; rfl)
                  have hX : Hid (Bx2 wr (wr.alloc (.cells #[.int .i64 x.cls, .slice fa x.flds.length fc] 55)) 55 (.int .i64 x.cls) (.slice fa x.flds.length fc)) := Lib.hid Bx2.born
                  clear hx hT v1 v2 v3 v4 hz gg
                  go_upto_region 24 with fail
                  clear b0 b1 b2 b3 b4 d0 d1
                  generalize wr.alloc (.cells #[.int .i64 x.cls, .slice fa x.flds.length fc] 55) = W1 at *
                  have e1' := hX.out.c1
                  have PB := Lib.hid (ucpval_c (pf.out.up hX.out.bel) hbd)
                  have hS3 := Lib.hid (hS.out.up hX.out.bel)
                  have hlt3 := Lib.hid hX.out.lt
                  go_upto_region 25 with (first | (go_at_call 66; ((with_reducible refine PB.out.mono ?_); rintro e1 y2 ⟨v3', rfl, hO3, hb⟩; obtain ⟨a3, c3, rfl⟩ := row_shape hO3; replace hX := Lib.hid (hX.out.up hb); replace hO3 := Lib.hid hO3; have f3 := hX.out.c1; have zf := hX.out.z 1; clear hb e1')))
                  replace hX := Lib.hid (hX.out.set1 (.slice a3 x.flds.length c3))
                  replace hO3 := Lib.hid (row_set hO3.out ⟨wr.heap.size, 1, none⟩ (.slice a3 x.flds.length c3) (fun e => by have h1 := (hO3.out.lt _ e).1; have h2 := hlt3.out; simp only at h1; omega))
                  clear f3 zf PB
                  generalize y2.setCell ⟨wr.heap.size, 1, none⟩ (.slice a3 x.flds.length c3) = W5 at *
                  have q0 := hX.out.c0
                  have q1 := hX.out.c1
                  have hS5 := Lib.hid (hS.out.up hX.out.bel)
                  have x5 := hS5.out.cells.2.2.2.1
                  have hS6 := Lib.hid (hS5.out.up ((Below.refl W5.heap.size W5).alloc (Nat.le_refl _) (.cells #[.int .i64 x.cls, .slice a3 x.flds.length c3] 55)))
                  have x6 := hS6.out.cells.2.2.2.1
                  have own6 : Hid ((W5.alloc (.cells #[.int .i64 x.cls, .slice a3 x.flds.length c3] 55)).ownsRow (w.heap.size + 2 + 1) 55 2 (.slice a k c) k (ob2s O)) := Lib.hid (by have h := hS6.out.own3; rw [hTl.out] at h; exact h)
                  have hb6 : Hid (w.heap.size + 2 + 1 ≤ (W5.alloc (.cells #[.int .i64 x.cls, .slice a3 x.flds.length c3] 55)).heap.size) := Lib.hid hS6.out.sz
                  have hin : Hid ((W5.alloc (.cells #[.int .i64 x.cls, .slice a3 x.flds.length c3] 55)).ownsRow (w.heap.size + 2 + 1) 57 2 (.slice a3 x.flds.length c3) x.flds.length (pr2 x.flds) ∧ ∀ j, j < 4 → ∀ q, (Value.slice a3 x.flds.length c3).ownBlock = some q → (rws U.names T M O nv cv mv (.slice a k c) j).v.ownBlock ≠ some q) := Lib.hid (hS3.out.new (Nat.le_refl _) (row_bel hO3.out ((Below.refl W5.heap.size W5).alloc (Nat.le_refl _) (.cells #[.int .i64 x.cls, .slice a3 x.flds.length c3] 55))))
                  clear hS3 hO3 hX hS5 hS hlt3 hbd
                  go_wp2_with (first | (at_builtin; refine wpList_append_lies _ rfl (.tmp 86) (.tmp 88) 25 rfl (w.heap.size + 2 + 1) 55 i3 (.agg #[.int .i64 0, .slice none 0 0]) 2 32 Tryz.underlying25 hi3 hi3z hi3s hi3b rfl (by decide) (.slice a k c) k _ (by simp [Act.eval]) own6.out ⟨W5.heap.size, 0, none⟩ 1 1 (ob2s [(x, .slice a3 x.flds.length c3)]) (by simp [Act.eval]) (by simp [ob2s]) (World.news_of_block (alloc_at _ _ _ rfl)) (ob2s_one _ (by intro y hy; rw [List.mem_singleton.1 hy]; exact ⟨_, _, _, rfl⟩)) (by omega) (by omega) (by omega) hb6.out _ rfl ?_; intro g1 cap1 w7 hown1 hgrow1 hat1 hlt1; have hAf := hS6.out.after (i := 3) (by decide) hgrow1; have x7 := hAf.1 3 _ x6; have z7 := hAf.2 3; have hP := Lib.hid (hS6.out.push3 (x := (x, .slice a3 x.flds.length c3)) hin.out (by rw [hTl.out]; exact hown1) hgrow1 (fun q hq => by have e1 : g1 = q := (by simpa [Value.ownBlock] using hq); rcases hat1 with e | e; exact Or.inl (by rw [← e1]; exact e); exact Or.inr (by rw [← e1]; exact e))); clear hown1 hgrow1 hat1 hlt1 hAf))
                  go_roundw
                  case rel => exact ⟨k + 1, _, _, _, by omega, by go_num, Lib.hid (hTx.out _), hP⟩
                  case measure => simp [intOf]; omega
                · as_aux_lemma =>
                  have hlt' : decide ((k : Int) < (l4 : Int)) = false := by simp; omega
                  obtain rfl : l4 = k := by omega
                  have hT3 : Hid (O.map (·.1) = U.objects) := Lib.hid (by have h := hT.out; rw [gg.out.2.2.2, List.take_length] at h; exact h)
                  clear hT hk hlt
                  obtain ⟨ov, hnv⟩ : ∃ v, v = Value.slice a l4 c := ⟨_, rfl⟩
                  rw [← hnv] at hS
                  clear hnv
                  clear b0 b1 b2 b3 b4
                  obtain ⟨na', nc', e0⟩ := row_shape hS.out.own0
                  obtain ⟨ca', cc', e1⟩ := row_shape hS.out.own1
                  obtain ⟨ma', mc', e2⟩ := row_shape hS.out.own2
                  obtain ⟨oa', oc', e3⟩ := row_shape hS.out.own3
                  generalize U.names.length = m1 at *
                  generalize T.length = m2 at *
                  generalize M.length = m3 at *
                  generalize O.length = m4 at *
                  subst e0; subst e1; subst e2; subst e3
                  obtain ⟨x0, x1, x2, x3, x4⟩ := hS.out.cells
                  have hh := hS.out.res
                  have y0 : wr.cell? ⟨w.heap.size + 1, 0, none⟩ = some (.slice none 0 0) := cell_in hh rfl
                  have y1 : wr.cell? ⟨w.heap.size + 1, 1, none⟩ = some (.slice none 0 0) := cell_in hh rfl
                  have y2 : wr.cell? ⟨w.heap.size + 1, 2, none⟩ = some (.slice none 0 0) := cell_in hh rfl
                  have y3 : wr.cell? ⟨w.heap.size + 1, 3, none⟩ = some (.slice none 0 0) := cell_in hh rfl
                  have y4 : wr.cell? ⟨w.heap.size + 1, 4, none⟩ = some (.int .i64 0) := cell_in hh rfl
                  have qz : ∀ j, wr.frozen? ⟨w.heap.size + 1, j, none⟩ = false := fun j => loose_in hh
                  obtain ⟨r0, r1, r2, r3, r4⟩ := set5_at (v0 := .slice na' m1 nc') (v1 := .slice ca' m2 cc') (v2 := .slice ma' m3 mc') (v3 := .slice oa' m4 oc') (v4 := .int .i64 U.main) y0 y1 y2 y3 y4
                  have hcg := Lib.hid (set5_cg wr (w.heap.size + 1) (.slice na' m1 nc') (.slice ca' m2 cc') (.slice ma' m3 mc') (.slice oa' m4 oc') (.int .i64 U.main))
                  have ht : wr.there (w.heap.size + 1) 0 5 := by
                    intro j hj
                    rcases (show j = 0 ∨ j = 1 ∨ j = 2 ∨ j = 3 ∨ j = 4 by omega) with rfl | rfl | rfl | rfl | rfl
                    · exact ⟨by first | exact ⟨_, y0⟩ | (rw [Nat.zero_add, y0]; rfl), qz _⟩
                    · exact ⟨by first | exact ⟨_, y1⟩ | (rw [Nat.zero_add, y1]; rfl), qz _⟩
                    · exact ⟨by first | exact ⟨_, y2⟩ | (rw [Nat.zero_add, y2]; rfl), qz _⟩
                    · exact ⟨by first | exact ⟨_, y3⟩ | (rw [Nat.zero_add, y3]; rfl), qz _⟩
                    · exact ⟨by first | exact ⟨_, y4⟩ | (rw [Nat.zero_add, y4]; rfl), qz _⟩
                  replace ht := Lib.hid ht
                  have hr5 := Lib.hid (And.intro r0 (And.intro r1 (And.intro r2 (And.intro r3 r4))))
                  clear y0 y1 y2 y3 y4 qz r0 r1 r2 r3 r4 hh
                  have hrg : Hid (wr.rangeAt (w.heap.size + 2) 0 [.slice na' m1 nc', .slice ca' m2 cc', .slice ma' m3 mc', .slice oa' m4 oc', .int .i64 U.main]) := Lib.hid (range5 x0 x1 x2 x3 x4)
                  obtain ⟨dU, hdU, hrU⟩ := rowU
                  clear x0 x1 x2 x3 x4 hi0 hi0z hi0s hi0b hi1 hi1z hi1s hi1b hi2 hi2z hi2s hi2b hi3 hi3z hi3s hi3b
                  go_upto_region 27 with fail
                  refine wp_region_lit ?_
                  refine wpList_load_mid rfl 27 (.tmp 3) rfl (w.heap.size + 2) 0 rfl _ dU hrg.out hdU hrU infoU ?_
                  try simp only [Act.put, nA]
                  refine wpList_store_mid rfl 27 (.tmp 2) (.tmp 92) rfl (w.heap.size + 1) 0 #[.slice na' m1 nc', .slice ca' m2 cc', .slice ma' m3 mc', .slice oa' m4 oc', .int .i64 U.main] (by simp [Act.eval]) (by simp [Act.eval]) ht.out infoU (all_oneCell_toArray (cs := [.slice na' m1 nc', .slice ca' m2 cc', .slice ma' m3 mc', .slice oa' m4 oc', .int .i64 U.main]) (fun v hv => by simp only [List.mem_cons, List.not_mem_nil, or_false] at hv; rcases hv with rfl | rfl | rfl | rfl | rfl <;> rfl)) ?_
                  refine wpList_nil ?_
                  have hW9 : wr.setCells (w.heap.size + 1) 0 [.slice na' m1 nc', .slice ca' m2 cc', .slice ma' m3 mc', .slice oa' m4 oc', .int .i64 U.main] = set5 wr (w.heap.size + 1) (.slice na' m1 nc') (.slice ca' m2 cc') (.slice ma' m3 mc') (.slice oa' m4 oc') (.int .i64 U.main) := rfl
                  simp only [hW9]
                  clear hW9
                  obtain ⟨r0, r1, r2, r3, r4⟩ := hr5.out
                  generalize set5 wr (w.heap.size + 1) (.slice na' m1 nc') (.slice ca' m2 cc') (.slice ma' m3 mc') (.slice oa' m4 oc') (.int .i64 U.main) = W9 at *
                  rename (∀ (a : Act) (w : World), Code.wp _ _ _ a w → _) => hKr
                  refine hKr _ _ ?_
                  refine wp_ret ?_
                  refine bodyPost_ret (ucopy_res rfl r0 r1 r2 r3 r4) rfl ?_
                  exact ⟨wr, T, M, O, _, _, _, _, _, _, _, _, rfl, hT1.out, hT2.out, hT3.out, hS.out, hcg.out⟩
end Wd
end Go.Proofs.YtgfdgdbkifkehaaGreat

/- The landed programs: are two rows alike? -/
namespace Go.Proofs.YtgfdgdbkifkehaaGreat
open Go.RowKit
set_option linter.unusedVariables false
set_option maxRecDepth 20000
namespace Wd
set_option maxHeartbeats 8000000 in
theorem ueqval_c {w : World} {a b : Value} {A B : List (Int × Int)} (ha : PrV w a A) (hb : PrV w b B) :
    Calls Tryz.prog 69 #[a, b] w fun e w' => e = .returned (.bool (decide (A = B))) ∧ Below w.heap.size w w' := by
  obtain ⟨aa, ac, rfl, ha1, ha2⟩ := ha.form
  obtain ⟨ba, bc, rfl, hb1, hb2⟩ := hb.form
  have hle := len_le (Nat.le_trans ha1 ha2)
  by_cases hl : A.length = B.length
  · have hl' : ((A.length : Int) != (B.length : Int)) = false := by simp [hl]
    obtain ⟨n, hn⟩ : ∃ n, n = A.length := ⟨_, rfl⟩
    obtain ⟨m, hm⟩ : ∃ m, m = B.length := ⟨_, rfl⟩
    have hn' := Lib.hid hn
    have hm' := Lib.hid hm
    have hnm := Lib.hid (show n = m by omega)
    rw [← hn] at ha hle hl' ⊢
    rw [← hm] at hb hl' ⊢
    replace ha := Lib.hid ha
    replace hb := Lib.hid hb
    have hst := Lib.hid (EqR.start A B)
    clear hl hn hm ha1 ha2 hb1 hb2
    go_enter Tryz.func69, Tryz.ntmps69
    go_wp2
    go_loopw [13] (fun i wr => ∃ (k : Nat), k ≤ n ∧ i = .int .i64 k ∧ Hid (EqR A B k) ∧ Hid (Below w.heap.size w wr)) (fun i _ => n - (intOf i).toNat)
    case atStart => exact ⟨0, by omega, rfl, hst, Lib.hid (Below.refl _ _)⟩
    case round =>
      obtain ⟨k, hk, rfl, hE, hB⟩ := hrel
      by_cases hlt : k < n
      · have hlt' : decide ((k : Int) < (n : Int)) = true := by simp; omega
        have p0 : (0 : Int) ≤ (k : Int) := by omega
        have p1 : (k : Int) < (n : Int) := by omega
        have p2 : (k : Int) < (m : Int) := by have := hnm.out; omega
        obtain ⟨⟨x1, x2⟩, hx⟩ : ∃ x, A[k]? = some x := ⟨A[k]'(by have := hn'.out; omega), by simp⟩
        obtain ⟨⟨y1, y2⟩, hy⟩ : ∃ x, B[k]? = some x := ⟨B[k]'(by have := hm'.out; omega), by simp⟩
        obtain ⟨_, _, g, off, rfl, c0, c1⟩ := PrV.at (ha.out.up hB.out) hx
        obtain ⟨_, _, h, off2, rfl, d0, d1⟩ := PrV.at (hb.out.up hB.out) hy
        simp only at c0 c1 d0 d1
        have hxH := Lib.hid hx
        have hyH := Lib.hid hy
        have hB' := Lib.hid (hB.out.trans (((Below.refl wr.heap.size wr).drew).mono hB.out.size))
        clear hx hy hst hlt
        by_cases e1 : x1 = y1
        · by_cases e2 : x2 = y2
          · have f1 : (x1 == y1) = true := by simpa using e1
            have f2 : (x2 == y2) = true := by simpa using e2
            have hE' := Lib.hid (hE.out.step hxH.out hyH.out (by rw [e1, e2]))
            clear e1 e2
            go_upto_region 6 with fail
            refine wp_region_still_lit (by kernel_rfl) (by kernel_rfl) ?_
            iterate 9 still_step
            refine wpStill_nil ?_
            change Exit.then _ _ Exit.normal _ wr.drew
            go_wp2_with fail
            go_roundw
            case rel => exact ⟨k + 1, by omega, by go_num, hE', hB'⟩
            case measure => simp [intOf]; omega
          · have f1 : (x1 == y1) = true := by simpa using e1
            have f2 : (x2 == y2) = false := by simpa using e2
            have e := Lib.hid (eq_not hxH.out hyH.out (fun h => e2 (congrArg Prod.snd h)))
            clear e1 e2
            go_upto_region 6 with fail
            refine wp_region_still_lit (by kernel_rfl) (by kernel_rfl) ?_
            iterate 9 still_step
            refine wpStill_nil ?_
            change Exit.then _ _ Exit.normal _ wr.drew
            go_wp2_with fail
            go_ret
            exact ⟨congrArg (fun b => Ending.returned (Value.bool b)) e.out.symm, hB'.out⟩
        · have f1 : (x1 == y1) = false := by simpa using e1
          have e := Lib.hid (eq_not hxH.out hyH.out (fun h => e1 (congrArg Prod.fst h)))
          clear e1
          go_upto_region 6 with fail
          refine wp_region_still_lit (by kernel_rfl) (by kernel_rfl) ?_
          iterate 9 still_step
          refine wpStill_nil ?_
          change Exit.then _ _ Exit.normal _ wr.drew
          go_wp2_with fail
          go_ret
          exact ⟨congrArg (fun b => Ending.returned (Value.bool b)) e.out.symm, hB'.out⟩
      · have e := Lib.hid (EqR.last (A := A) (B := B) (n := n) (by have := hE.out; rw [show k = n by omega] at this; exact this) hn'.out (by rw [hnm.out]; exact hm'.out))
        have hlt' : decide ((k : Int) < (n : Int)) = false := by simp; omega
        go_wp2
        go_ret
        exact ⟨congrArg (fun b => Ending.returned (Value.bool b)) e.out.symm, hB.out⟩
  · have hl' : ((A.length : Int) != (B.length : Int)) = true := by simp; omega
    have e := Lib.hid (eq_len hl)
    clear hl
    go_enter Tryz.func69, Tryz.ntmps69
    go_wp2
    go_ret
    exact ⟨congrArg (fun b => Ending.returned (Value.bool b)) e.out.symm, Below.refl _ _⟩
set_option maxHeartbeats 8000000 in
theorem ueqbind_c {w : World} {a b : Value} {A B : List (Int × Int)} (ha : PrV w a A) (hb : PrV w b B) :
    Calls Tryz.prog 68 #[a, b] w fun e w' => e = .returned (.bool (decide (A = B))) ∧ Below w.heap.size w w' := by
  obtain ⟨aa, ac, rfl, ha1, ha2⟩ := ha.form
  obtain ⟨ba, bc, rfl, hb1, hb2⟩ := hb.form
  have hle := len_le (Nat.le_trans ha1 ha2)
  by_cases hl : A.length = B.length
  · have hl' : ((A.length : Int) != (B.length : Int)) = false := by simp [hl]
    obtain ⟨n, hn⟩ : ∃ n, n = A.length := ⟨_, rfl⟩
    obtain ⟨m, hm⟩ : ∃ m, m = B.length := ⟨_, rfl⟩
    have hn' := Lib.hid hn
    have hm' := Lib.hid hm
    have hnm := Lib.hid (show n = m by omega)
    rw [← hn] at ha hle hl' ⊢
    rw [← hm] at hb hl' ⊢
    replace ha := Lib.hid ha
    replace hb := Lib.hid hb
    have hst := Lib.hid (EqR.start A B)
    clear hl hn hm ha1 ha2 hb1 hb2
    go_enter Tryz.func68, Tryz.ntmps68
    go_wp2
    go_loopw [13] (fun i wr => ∃ (k : Nat), k ≤ n ∧ i = .int .i64 k ∧ Hid (EqR A B k) ∧ Hid (Below w.heap.size w wr)) (fun i _ => n - (intOf i).toNat)
    case atStart => exact ⟨0, by omega, rfl, hst, Lib.hid (Below.refl _ _)⟩
    case round =>
      obtain ⟨k, hk, rfl, hE, hB⟩ := hrel
      by_cases hlt : k < n
      · have hlt' : decide ((k : Int) < (n : Int)) = true := by simp; omega
        have p0 : (0 : Int) ≤ (k : Int) := by omega
        have p1 : (k : Int) < (n : Int) := by omega
        have p2 : (k : Int) < (m : Int) := by have := hnm.out; omega
        obtain ⟨⟨x1, x2⟩, hx⟩ : ∃ x, A[k]? = some x := ⟨A[k]'(by have := hn'.out; omega), by simp⟩
        obtain ⟨⟨y1, y2⟩, hy⟩ : ∃ x, B[k]? = some x := ⟨B[k]'(by have := hm'.out; omega), by simp⟩
        obtain ⟨_, _, g, off, rfl, c0, c1⟩ := PrV.at (ha.out.up hB.out) hx
        obtain ⟨_, _, h, off2, rfl, d0, d1⟩ := PrV.at (hb.out.up hB.out) hy
        simp only at c0 c1 d0 d1
        have hxH := Lib.hid hx
        have hyH := Lib.hid hy
        have hB' := Lib.hid (hB.out.trans (((Below.refl wr.heap.size wr).drew).mono hB.out.size))
        clear hx hy hst hlt
        by_cases e1 : x1 = y1
        · by_cases e2 : x2 = y2
          · have f1 : (x1 == y1) = true := by simpa using e1
            have f2 : (x2 == y2) = true := by simpa using e2
            have hE' := Lib.hid (hE.out.step hxH.out hyH.out (by rw [e1, e2]))
            clear e1 e2
            go_upto_region 6 with fail
            refine wp_region_still_lit (by kernel_rfl) (by kernel_rfl) ?_
            iterate 9 still_step
            refine wpStill_nil ?_
            change Exit.then _ _ Exit.normal _ wr.drew
            go_wp2_with fail
            go_roundw
            case rel => exact ⟨k + 1, by omega, by go_num, hE', hB'⟩
            case measure => simp [intOf]; omega
          · have f1 : (x1 == y1) = true := by simpa using e1
            have f2 : (x2 == y2) = false := by simpa using e2
            have e := Lib.hid (eq_not hxH.out hyH.out (fun h => e2 (congrArg Prod.snd h)))
            clear e1 e2
            go_upto_region 6 with fail
            refine wp_region_still_lit (by kernel_rfl) (by kernel_rfl) ?_
            iterate 9 still_step
            refine wpStill_nil ?_
            change Exit.then _ _ Exit.normal _ wr.drew
            go_wp2_with fail
            go_ret
            exact ⟨congrArg (fun b => Ending.returned (Value.bool b)) e.out.symm, hB'.out⟩
        · have f1 : (x1 == y1) = false := by simpa using e1
          have e := Lib.hid (eq_not hxH.out hyH.out (fun h => e1 (congrArg Prod.fst h)))
          clear e1
          go_upto_region 6 with fail
          refine wp_region_still_lit (by kernel_rfl) (by kernel_rfl) ?_
          iterate 9 still_step
          refine wpStill_nil ?_
          change Exit.then _ _ Exit.normal _ wr.drew
          go_wp2_with fail
          go_ret
          exact ⟨congrArg (fun b => Ending.returned (Value.bool b)) e.out.symm, hB'.out⟩
      · have e := Lib.hid (EqR.last (A := A) (B := B) (n := n) (by have := hE.out; rw [show k = n by omega] at this; exact this) hn'.out (by rw [hnm.out]; exact hm'.out))
        have hlt' : decide ((k : Int) < (n : Int)) = false := by simp; omega
        go_wp2
        go_ret
        exact ⟨congrArg (fun b => Ending.returned (Value.bool b)) e.out.symm, hB.out⟩
  · have hl' : ((A.length : Int) != (B.length : Int)) = true := by simp; omega
    have e := Lib.hid (eq_len hl)
    clear hl
    go_enter Tryz.func68, Tryz.ntmps68
    go_wp2
    go_ret
    exact ⟨congrArg (fun b => Ending.returned (Value.bool b)) e.out.symm, Below.refl _ _⟩
set_option maxHeartbeats 8000000 in
theorem ueqstr_c {w : World} {a b : Value} {A B : List ByteArray} (ha : NmV w a A) (hb : NmV w b B) :
    Calls Tryz.prog 31 #[a, b] w fun e w' => e = .returned (.bool (decide (A = B))) ∧ Below w.heap.size w w' := by
  obtain ⟨aa, ac, rfl, ha1, ha2, _⟩ := ha.ex
  obtain ⟨ba, bc, rfl, hb1, hb2, _⟩ := hb.ex
  have hle := len_le (Nat.le_trans ha1 ha2)
  by_cases hl : A.length = B.length
  · have hl' : ((A.length : Int) != (B.length : Int)) = false := by simp [hl]
    obtain ⟨n, hn⟩ : ∃ n, n = A.length := ⟨_, rfl⟩
    obtain ⟨m, hm⟩ : ∃ m, m = B.length := ⟨_, rfl⟩
    have hn' := Lib.hid hn
    have hm' := Lib.hid hm
    have hnm := Lib.hid (show n = m by omega)
    rw [← hn] at ha hle hl' ⊢
    rw [← hm] at hb hl' ⊢
    replace ha := Lib.hid ha
    replace hb := Lib.hid hb
    have hst := Lib.hid (EqR.start A B)
    clear hl hn hm ha1 ha2 hb1 hb2
    go_enter Tryz.func31, Tryz.ntmps31
    go_wp2
    go_loopw [13] (fun i wr => ∃ (k : Nat), k ≤ n ∧ i = .int .i64 k ∧ Hid (EqR A B k) ∧ Hid (Below w.heap.size w wr)) (fun i _ => n - (intOf i).toNat)
    case atStart => exact ⟨0, by omega, rfl, hst, Lib.hid (Below.refl _ _)⟩
    case round =>
      obtain ⟨k, hk, rfl, hE, hB⟩ := hrel
      by_cases hlt : k < n
      · have hlt' : decide ((k : Int) < (n : Int)) = true := by simp; omega
        have p0 : (0 : Int) ≤ (k : Int) := by omega
        have p1 : (k : Int) < (n : Int) := by omega
        have p2 : (k : Int) < (m : Int) := by have := hnm.out; omega
        obtain ⟨x1, hx⟩ : ∃ x, A[k]? = some x := ⟨A[k]'(by have := hn'.out; omega), by simp⟩
        obtain ⟨y1, hy⟩ : ∃ x, B[k]? = some x := ⟨B[k]'(by have := hm'.out; omega), by simp⟩
        obtain ⟨g, off, rfl, c0⟩ := NmV.at (ha.out.up hB.out) hx
        obtain ⟨h, off2, rfl, d0⟩ := NmV.at (hb.out.up hB.out) hy
        have hxH := Lib.hid hx
        have hyH := Lib.hid hy
        have hB' := Lib.hid (hB.out.trans (((Below.refl wr.heap.size wr).drew).mono hB.out.size))
        clear hx hy hst hlt
        by_cases e1 : x1 = y1
        · have f1 : (x1.toList == y1.toList) = true := bl_eq e1
          have hE' := Lib.hid (hE.out.step hxH.out hyH.out e1)
          clear e1
          go_upto_region 6 with fail
          go_region
          go_wp2
          go_roundw
          case rel => exact ⟨k + 1, by omega, by go_num, hE', hB'⟩
          case measure => simp [intOf]; omega
        · have f1 : (x1.toList == y1.toList) = false := bl_ne e1
          have e := Lib.hid (eq_not hxH.out hyH.out e1)
          clear e1
          go_upto_region 6 with fail
          go_region
          go_wp2
          go_ret
          exact ⟨congrArg (fun b => Ending.returned (Value.bool b)) e.out.symm, hB'.out⟩
      · have e := Lib.hid (EqR.last (A := A) (B := B) (n := n) (by have := hE.out; rw [show k = n by omega] at this; exact this) hn'.out (by rw [hnm.out]; exact hm'.out))
        have hlt' : decide ((k : Int) < (n : Int)) = false := by simp; omega
        go_wp2
        go_ret
        exact ⟨congrArg (fun b => Ending.returned (Value.bool b)) e.out.symm, hB.out⟩
  · have hl' : ((A.length : Int) != (B.length : Int)) = true := by simp; omega
    have e := Lib.hid (eq_len hl)
    clear hl
    go_enter Tryz.func31, Tryz.ntmps31
    go_wp2
    go_ret
    exact ⟨congrArg (fun b => Ending.returned (Value.bool b)) e.out.symm, Below.refl _ _⟩
set_option maxHeartbeats 8000000 in
theorem ueqbyte_c {w : World} {a b : Value} {A B : List Int} (ha : ByV w a A) (hb : ByV w b B) :
    Calls Tryz.prog 70 #[a, b] w fun e w' => e = .returned (.bool (decide (A = B))) ∧ Below w.heap.size w w' := by
  obtain ⟨aa, ac, rfl, ha1, ha2, _⟩ := ha.ex
  obtain ⟨ba, bc, rfl, hb1, hb2, _⟩ := hb.ex
  have hle := len_le (Nat.le_trans ha1 ha2)
  by_cases hl : A.length = B.length
  · have hl' : ((A.length : Int) != (B.length : Int)) = false := by simp [hl]
    obtain ⟨n, hn⟩ : ∃ n, n = A.length := ⟨_, rfl⟩
    obtain ⟨m, hm⟩ : ∃ m, m = B.length := ⟨_, rfl⟩
    have hn' := Lib.hid hn
    have hm' := Lib.hid hm
    have hnm := Lib.hid (show n = m by omega)
    rw [← hn] at ha hle hl' ⊢
    rw [← hm] at hb hl' ⊢
    replace ha := Lib.hid ha
    replace hb := Lib.hid hb
    have hst := Lib.hid (EqR.start A B)
    clear hl hn hm ha1 ha2 hb1 hb2
    go_enter Tryz.func70, Tryz.ntmps70
    go_wp2
    go_loopw [13] (fun i wr => ∃ (k : Nat), k ≤ n ∧ i = .int .i64 k ∧ Hid (EqR A B k) ∧ Hid (Below w.heap.size w wr)) (fun i _ => n - (intOf i).toNat)
    case atStart => exact ⟨0, by omega, rfl, hst, Lib.hid (Below.refl _ _)⟩
    case round =>
      obtain ⟨k, hk, rfl, hE, hB⟩ := hrel
      by_cases hlt : k < n
      · have hlt' : decide ((k : Int) < (n : Int)) = true := by simp; omega
        have p0 : (0 : Int) ≤ (k : Int) := by omega
        have p1 : (k : Int) < (n : Int) := by omega
        have p2 : (k : Int) < (m : Int) := by have := hnm.out; omega
        obtain ⟨x1, hx⟩ : ∃ x, A[k]? = some x := ⟨A[k]'(by have := hn'.out; omega), by simp⟩
        obtain ⟨y1, hy⟩ : ∃ x, B[k]? = some x := ⟨B[k]'(by have := hm'.out; omega), by simp⟩
        obtain ⟨_, g, off, rfl, c0⟩ := ByV.at (ha.out.up hB.out) hx
        obtain ⟨_, h, off2, rfl, d0⟩ := ByV.at (hb.out.up hB.out) hy
        have hxH := Lib.hid hx
        have hyH := Lib.hid hy
        have hB' := Lib.hid (hB.out.trans (((Below.refl wr.heap.size wr).drew).mono hB.out.size))
        clear hx hy hst hlt
        by_cases e1 : x1 = y1
        · have f1 : (x1 != y1) = false := by simpa using e1
          have hE' := Lib.hid (hE.out.step hxH.out hyH.out e1)
          clear e1
          go_upto_region 6 with fail
          go_region
          go_wp2
          go_roundw
          case rel => exact ⟨k + 1, by omega, by go_num, hE', hB'⟩
          case measure => simp [intOf]; omega
        · have f1 : (x1 != y1) = true := by simpa using e1
          have e := Lib.hid (eq_not hxH.out hyH.out e1)
          clear e1
          go_upto_region 6 with fail
          go_region
          go_wp2
          go_ret
          exact ⟨congrArg (fun b => Ending.returned (Value.bool b)) e.out.symm, hB'.out⟩
      · have e := Lib.hid (EqR.last (A := A) (B := B) (n := n) (by have := hE.out; rw [show k = n by omega] at this; exact this) hn'.out (by rw [hnm.out]; exact hm'.out))
        have hlt' : decide ((k : Int) < (n : Int)) = false := by simp; omega
        go_wp2
        go_ret
        exact ⟨congrArg (fun b => Ending.returned (Value.bool b)) e.out.symm, hB.out⟩
  · have hl' : ((A.length : Int) != (B.length : Int)) = true := by simp; omega
    have e := Lib.hid (eq_len hl)
    clear hl
    go_enter Tryz.func70, Tryz.ntmps70
    go_wp2
    go_ret
    exact ⟨congrArg (fun b => Ending.returned (Value.bool b)) e.out.symm, Below.refl _ _⟩
end Wd
end Go.Proofs.YtgfdgdbkifkehaaGreat

/- The landed programs: are two classes, two methods, two objects, two programs the same? -/
namespace Go.Proofs.YtgfdgdbkifkehaaGreat
open Go.RowKit
set_option linter.unusedVariables false
set_option maxRecDepth 20000
namespace Wd
/-- a class, by value -/
structure ClK (w : World) (v : Value) (c : ClassA) : Prop where
  mk ::
  ex : ∃ ba bc, v = .agg #[.string c.nm, .int .i64 c.super, .int .i64 c.fields, .slice ba c.binds.length bc] ∧ PrV w (.slice ba c.binds.length bc) c.binds
theorem ClK.up {w w1 : World} {v : Value} {c : ClassA} (h : ClK w v c) (b : Below w.heap.size w w1) : ClK w1 v c := by
  obtain ⟨ba, bc, e, p⟩ := h.ex
  exact ⟨ba, bc, e, p.up b⟩
theorem cls_eq (A B : ClassA) : decide (A = B) = (decide (A.nm = B.nm) && (decide (A.super = B.super) && (decide (A.fields = B.fields) && decide (A.binds = B.binds)))) := by
  cases A; cases B; simp [Bool.decide_and]
theorem met_eq (A B : MethA) : decide (A = B) = (decide (A.args = B.args) && (decide (A.temps = B.temps) && (decide (A.lits = B.lits) && decide (A.code = B.code)))) := by
  cases A; cases B; simp [Bool.decide_and]
theorem obj_eq (A B : ObjA) : decide (A = B) = (decide (A.cls = B.cls) && decide (A.flds = B.flds)) := by
  cases A; cases B; simp [Bool.decide_and]
set_option maxHeartbeats 16000000 in
theorem usclass_c {w : World} {a b : Value} {A B : ClassA} (ha : ClK w a A) (hb : ClK w b B) :
    Calls Tryz.prog 33 #[a, b] w fun e w' => e = .returned (.bool (decide (A = B))) ∧ Below w.heap.size w w' := by
  obtain ⟨ba, ca, rfl, ha0⟩ := ha.ex
  obtain ⟨bb, cb, rfl, hb0⟩ := hb.ex
  have hw1 := (Below.refl w.heap.size w).alloc (Nat.le_refl _) (.cells #[.string A.nm, .int .i64 A.super, .int .i64 A.fields, .slice ba A.binds.length ca] 45)
  have hw2 := hw1.alloc (by simp only [World.size_alloc]; omega) (.cells #[.string B.nm, .int .i64 B.super, .int .i64 B.fields, .slice bb B.binds.length cb] 45)
  have i1 : (w.alloc (.cells #[.string A.nm, .int .i64 A.super, .int .i64 A.fields, .slice ba A.binds.length ca] 45)).heap.size = w.heap.size + 1 := by simp
  have a0 : ((w.alloc (.cells #[.string A.nm, .int .i64 A.super, .int .i64 A.fields, .slice ba A.binds.length ca] 45)).alloc (.cells #[.string B.nm, .int .i64 B.super, .int .i64 B.fields, .slice bb B.binds.length cb] 45)).cell? ⟨w.heap.size, 0, none⟩ = some (.string A.nm) := (World.cell?_alloc_old _ _ _ (by simp)).trans (by simp)
  have a1 : ((w.alloc (.cells #[.string A.nm, .int .i64 A.super, .int .i64 A.fields, .slice ba A.binds.length ca] 45)).alloc (.cells #[.string B.nm, .int .i64 B.super, .int .i64 B.fields, .slice bb B.binds.length cb] 45)).cell? ⟨w.heap.size, 1, none⟩ = some (.int .i64 A.super) := (World.cell?_alloc_old _ _ _ (by simp)).trans (by simp)
  have a2 : ((w.alloc (.cells #[.string A.nm, .int .i64 A.super, .int .i64 A.fields, .slice ba A.binds.length ca] 45)).alloc (.cells #[.string B.nm, .int .i64 B.super, .int .i64 B.fields, .slice bb B.binds.length cb] 45)).cell? ⟨w.heap.size, 2, none⟩ = some (.int .i64 A.fields) := (World.cell?_alloc_old _ _ _ (by simp)).trans (by simp)
  have a3 : ((w.alloc (.cells #[.string A.nm, .int .i64 A.super, .int .i64 A.fields, .slice ba A.binds.length ca] 45)).alloc (.cells #[.string B.nm, .int .i64 B.super, .int .i64 B.fields, .slice bb B.binds.length cb] 45)).cell? ⟨w.heap.size, 3, none⟩ = some (.slice ba A.binds.length ca) := (World.cell?_alloc_old _ _ _ (by simp)).trans (by simp)
  have b0 : ((w.alloc (.cells #[.string A.nm, .int .i64 A.super, .int .i64 A.fields, .slice ba A.binds.length ca] 45)).alloc (.cells #[.string B.nm, .int .i64 B.super, .int .i64 B.fields, .slice bb B.binds.length cb] 45)).cell? ⟨w.heap.size + 1, 0, none⟩ = some (.string B.nm) := by rw [← i1]; simp
  have b1 : ((w.alloc (.cells #[.string A.nm, .int .i64 A.super, .int .i64 A.fields, .slice ba A.binds.length ca] 45)).alloc (.cells #[.string B.nm, .int .i64 B.super, .int .i64 B.fields, .slice bb B.binds.length cb] 45)).cell? ⟨w.heap.size + 1, 1, none⟩ = some (.int .i64 B.super) := by rw [← i1]; simp
  have b2 : ((w.alloc (.cells #[.string A.nm, .int .i64 A.super, .int .i64 A.fields, .slice ba A.binds.length ca] 45)).alloc (.cells #[.string B.nm, .int .i64 B.super, .int .i64 B.fields, .slice bb B.binds.length cb] 45)).cell? ⟨w.heap.size + 1, 2, none⟩ = some (.int .i64 B.fields) := by rw [← i1]; simp
  have b3 : ((w.alloc (.cells #[.string A.nm, .int .i64 A.super, .int .i64 A.fields, .slice ba A.binds.length ca] 45)).alloc (.cells #[.string B.nm, .int .i64 B.super, .int .i64 B.fields, .slice bb B.binds.length cb] 45)).cell? ⟨w.heap.size + 1, 3, none⟩ = some (.slice bb B.binds.length cb) := by rw [← i1]; simp
  have hW := Lib.hid hw2
  have P0 := Lib.hid (ueqbind_c (ha0.up hw2) (hb0.up hw2))
  have eq := Lib.hid (cls_eq A B)
  clear ha hb hw1 hw2 i1 ha0 hb0
  generalize decide (A = B) = r at *
  go_enter Tryz.func33, Tryz.ntmps33
  go_upto_region 1 with fail
  generalize ((w.alloc (.cells #[.string A.nm, .int .i64 A.super, .int .i64 A.fields, .slice ba A.binds.length ca] 45)).alloc (.cells #[.string B.nm, .int .i64 B.super, .int .i64 B.fields, .slice bb B.binds.length cb] 45)) = W at *
  by_cases g : ¬ A.nm = B.nm
  · as_aux_lemma =>
    have d0 : (A.nm.toList == B.nm.toList) = false := bl_ne g
    rw [decide_eq_false g] at eq
    have e : Hid (r = false) := Lib.hid (by rw [eq.out]; simp)
    clear g
    go_wp2
    go_ret
    exact ⟨congrArg (fun b => Ending.returned (Value.bool b)) e.out.symm, hW.out⟩
  replace g : A.nm = B.nm := Decidable.not_not.1 g
  have d0 : (A.nm.toList == B.nm.toList) = true := bl_eq g
  rw [decide_eq_true g, Bool.true_and] at eq
  clear g
  by_cases g : ¬ A.super = B.super
  · as_aux_lemma =>
    have d1 : (A.super == B.super) = false := by simpa using g
    rw [decide_eq_false g] at eq
    have e : Hid (r = false) := Lib.hid (by rw [eq.out]; simp)
    clear g
    go_wp2
    go_ret
    exact ⟨congrArg (fun b => Ending.returned (Value.bool b)) e.out.symm, hW.out⟩
  replace g : A.super = B.super := Decidable.not_not.1 g
  have d1 : (A.super == B.super) = true := by simpa using g
  rw [decide_eq_true g, Bool.true_and] at eq
  clear g
  by_cases g : ¬ A.fields = B.fields
  · as_aux_lemma =>
    have d2 : (A.fields == B.fields) = false := by simpa using g
    rw [decide_eq_false g] at eq
    have e : Hid (r = false) := Lib.hid (by rw [eq.out]; simp)
    clear g
    go_wp2
    go_ret
    exact ⟨congrArg (fun b => Ending.returned (Value.bool b)) e.out.symm, hW.out⟩
  replace g : A.fields = B.fields := Decidable.not_not.1 g
  have d2 : (A.fields == B.fields) = true := by simpa using g
  rw [decide_eq_true g, Bool.true_and] at eq
  clear g
  have PQ0 := P0
  clear P0
  generalize decide (A.binds = B.binds) = q at *
  go_wp2_with (first | (go_at_call 68; ((with_reducible refine (PQ0.out).mono ?_); rintro e1 w2 ⟨rfl, hb0⟩)))
  go_ret
  exact ⟨congrArg (fun b => Ending.returned (Value.bool b)) eq.out.symm, hW.out.trans (hb0.mono hW.out.size)⟩
set_option maxHeartbeats 16000000 in
theorem usmeth_c {w : World} {a b : Value} {A B : MethA} (ha : MeV w a A) (hb : MeV w b B) :
    Calls Tryz.prog 35 #[a, b] w fun e w' => e = .returned (.bool (decide (A = B))) ∧ Below w.heap.size w w' := by
  obtain ⟨la, ma, ka, na, rfl, ha0, ha1⟩ := ha.ex
  obtain ⟨lb, mb, kb, nb, rfl, hb0, hb1⟩ := hb.ex
  have hw1 := (Below.refl w.heap.size w).alloc (Nat.le_refl _) (.cells #[.int .i64 A.args, .int .i64 A.temps, .slice la A.lits.length ma, .slice ka A.code.length na] 50)
  have hw2 := hw1.alloc (by simp only [World.size_alloc]; omega) (.cells #[.int .i64 B.args, .int .i64 B.temps, .slice lb B.lits.length mb, .slice kb B.code.length nb] 50)
  have i1 : (w.alloc (.cells #[.int .i64 A.args, .int .i64 A.temps, .slice la A.lits.length ma, .slice ka A.code.length na] 50)).heap.size = w.heap.size + 1 := by simp
  have a0 : ((w.alloc (.cells #[.int .i64 A.args, .int .i64 A.temps, .slice la A.lits.length ma, .slice ka A.code.length na] 50)).alloc (.cells #[.int .i64 B.args, .int .i64 B.temps, .slice lb B.lits.length mb, .slice kb B.code.length nb] 50)).cell? ⟨w.heap.size, 0, none⟩ = some (.int .i64 A.args) := (World.cell?_alloc_old _ _ _ (by simp)).trans (by simp)
  have a1 : ((w.alloc (.cells #[.int .i64 A.args, .int .i64 A.temps, .slice la A.lits.length ma, .slice ka A.code.length na] 50)).alloc (.cells #[.int .i64 B.args, .int .i64 B.temps, .slice lb B.lits.length mb, .slice kb B.code.length nb] 50)).cell? ⟨w.heap.size, 1, none⟩ = some (.int .i64 A.temps) := (World.cell?_alloc_old _ _ _ (by simp)).trans (by simp)
  have a2 : ((w.alloc (.cells #[.int .i64 A.args, .int .i64 A.temps, .slice la A.lits.length ma, .slice ka A.code.length na] 50)).alloc (.cells #[.int .i64 B.args, .int .i64 B.temps, .slice lb B.lits.length mb, .slice kb B.code.length nb] 50)).cell? ⟨w.heap.size, 2, none⟩ = some (.slice la A.lits.length ma) := (World.cell?_alloc_old _ _ _ (by simp)).trans (by simp)
  have a3 : ((w.alloc (.cells #[.int .i64 A.args, .int .i64 A.temps, .slice la A.lits.length ma, .slice ka A.code.length na] 50)).alloc (.cells #[.int .i64 B.args, .int .i64 B.temps, .slice lb B.lits.length mb, .slice kb B.code.length nb] 50)).cell? ⟨w.heap.size, 3, none⟩ = some (.slice ka A.code.length na) := (World.cell?_alloc_old _ _ _ (by simp)).trans (by simp)
  have b0 : ((w.alloc (.cells #[.int .i64 A.args, .int .i64 A.temps, .slice la A.lits.length ma, .slice ka A.code.length na] 50)).alloc (.cells #[.int .i64 B.args, .int .i64 B.temps, .slice lb B.lits.length mb, .slice kb B.code.length nb] 50)).cell? ⟨w.heap.size + 1, 0, none⟩ = some (.int .i64 B.args) := by rw [← i1]; simp
  have b1 : ((w.alloc (.cells #[.int .i64 A.args, .int .i64 A.temps, .slice la A.lits.length ma, .slice ka A.code.length na] 50)).alloc (.cells #[.int .i64 B.args, .int .i64 B.temps, .slice lb B.lits.length mb, .slice kb B.code.length nb] 50)).cell? ⟨w.heap.size + 1, 1, none⟩ = some (.int .i64 B.temps) := by rw [← i1]; simp
  have b2 : ((w.alloc (.cells #[.int .i64 A.args, .int .i64 A.temps, .slice la A.lits.length ma, .slice ka A.code.length na] 50)).alloc (.cells #[.int .i64 B.args, .int .i64 B.temps, .slice lb B.lits.length mb, .slice kb B.code.length nb] 50)).cell? ⟨w.heap.size + 1, 2, none⟩ = some (.slice lb B.lits.length mb) := by rw [← i1]; simp
  have b3 : ((w.alloc (.cells #[.int .i64 A.args, .int .i64 A.temps, .slice la A.lits.length ma, .slice ka A.code.length na] 50)).alloc (.cells #[.int .i64 B.args, .int .i64 B.temps, .slice lb B.lits.length mb, .slice kb B.code.length nb] 50)).cell? ⟨w.heap.size + 1, 3, none⟩ = some (.slice kb B.code.length nb) := by rw [← i1]; simp
  have hW := Lib.hid hw2
  have P0 := Lib.hid (ueqval_c (ha0.up hw2) (hb0.up hw2))
  have P1 := Lib.hid (fun (w' : World) (b' : Below ((w.alloc (.cells #[.int .i64 A.args, .int .i64 A.temps, .slice la A.lits.length ma, .slice ka A.code.length na] 50)).alloc (.cells #[.int .i64 B.args, .int .i64 B.temps, .slice lb B.lits.length mb, .slice kb B.code.length nb] 50)).heap.size ((w.alloc (.cells #[.int .i64 A.args, .int .i64 A.temps, .slice la A.lits.length ma, .slice ka A.code.length na] 50)).alloc (.cells #[.int .i64 B.args, .int .i64 B.temps, .slice lb B.lits.length mb, .slice kb B.code.length nb] 50)) w') => ueqbyte_c ((ha1.up hw2).up b') ((hb1.up hw2).up b'))
  have eq := Lib.hid (met_eq A B)
  clear ha hb hw1 hw2 i1 ha0 hb0 ha1 hb1
  generalize decide (A = B) = r at *
  go_enter Tryz.func35, Tryz.ntmps35
  go_upto_region 1 with fail
  generalize ((w.alloc (.cells #[.int .i64 A.args, .int .i64 A.temps, .slice la A.lits.length ma, .slice ka A.code.length na] 50)).alloc (.cells #[.int .i64 B.args, .int .i64 B.temps, .slice lb B.lits.length mb, .slice kb B.code.length nb] 50)) = W at *
  by_cases g : ¬ A.args = B.args
  · as_aux_lemma =>
    have d0 : (A.args == B.args) = false := by simpa using g
    rw [decide_eq_false g] at eq
    have e : Hid (r = false) := Lib.hid (by rw [eq.out]; simp)
    clear g
    go_wp2
    go_ret
    exact ⟨congrArg (fun b => Ending.returned (Value.bool b)) e.out.symm, hW.out⟩
  replace g : A.args = B.args := Decidable.not_not.1 g
  have d0 : (A.args == B.args) = true := by simpa using g
  rw [decide_eq_true g, Bool.true_and] at eq
  clear g
  by_cases g : ¬ A.temps = B.temps
  · as_aux_lemma =>
    have d1 : (A.temps == B.temps) = false := by simpa using g
    rw [decide_eq_false g] at eq
    have e : Hid (r = false) := Lib.hid (by rw [eq.out]; simp)
    clear g
    go_wp2
    go_ret
    exact ⟨congrArg (fun b => Ending.returned (Value.bool b)) e.out.symm, hW.out⟩
  replace g : A.temps = B.temps := Decidable.not_not.1 g
  have d1 : (A.temps == B.temps) = true := by simpa using g
  rw [decide_eq_true g, Bool.true_and] at eq
  clear g
  cases q0 : decide (A.lits = B.lits) with
  | false =>
    as_aux_lemma =>
    have PQ0 := P0
    rw [q0] at PQ0 eq
    have e : Hid (r = false) := Lib.hid (by rw [eq.out]; simp)
    clear q0 P0
    go_wp2_with (first | (go_at_call 69; ((with_reducible refine (PQ0.out).mono ?_); rintro e1 w2 ⟨rfl, hb0⟩)))
    go_ret
    exact ⟨congrArg (fun b => Ending.returned (Value.bool b)) e.out.symm, hW.out.trans (hb0.mono hW.out.size)⟩
  | true =>
  rw [q0, Bool.true_and] at eq
  have PQ0 := P0
  rw [q0] at PQ0
  clear q0 P0
  generalize decide (A.code = B.code) = q at *
  go_wp2_with (first | (go_at_call 69; ((with_reducible refine (PQ0.out).mono ?_); rintro e1 w2 ⟨rfl, hb0⟩; have c3 := cell_up hb0 a3; have f3 := cell_up hb0 b3)) | (go_at_call 70; ((with_reducible refine (P1.out _ hb0).mono ?_); rintro e1 w3 ⟨rfl, hb1⟩)))
  go_ret
  exact ⟨congrArg (fun b => Ending.returned (Value.bool b)) eq.out.symm, hW.out.trans ((hb0.trans (hb1.mono hb0.size)).mono hW.out.size)⟩
set_option maxHeartbeats 16000000 in
theorem usobj_c {w : World} {a b : Value} {A B : ObjA} (ha : ObK w a A) (hb : ObK w b B) :
    Calls Tryz.prog 37 #[a, b] w fun e w' => e = .returned (.bool (decide (A = B))) ∧ Below w.heap.size w w' := by
  obtain ⟨fa, ca, rfl, ha0⟩ := ha.ex
  obtain ⟨fb, cb, rfl, hb0⟩ := hb.ex
  have hw1 := (Below.refl w.heap.size w).alloc (Nat.le_refl _) (.cells #[.int .i64 A.cls, .slice fa A.flds.length ca] 55)
  have hw2 := hw1.alloc (by simp only [World.size_alloc]; omega) (.cells #[.int .i64 B.cls, .slice fb B.flds.length cb] 55)
  have i1 : (w.alloc (.cells #[.int .i64 A.cls, .slice fa A.flds.length ca] 55)).heap.size = w.heap.size + 1 := by simp
  have a0 : ((w.alloc (.cells #[.int .i64 A.cls, .slice fa A.flds.length ca] 55)).alloc (.cells #[.int .i64 B.cls, .slice fb B.flds.length cb] 55)).cell? ⟨w.heap.size, 0, none⟩ = some (.int .i64 A.cls) := (World.cell?_alloc_old _ _ _ (by simp)).trans (by simp)
  have a1 : ((w.alloc (.cells #[.int .i64 A.cls, .slice fa A.flds.length ca] 55)).alloc (.cells #[.int .i64 B.cls, .slice fb B.flds.length cb] 55)).cell? ⟨w.heap.size, 1, none⟩ = some (.slice fa A.flds.length ca) := (World.cell?_alloc_old _ _ _ (by simp)).trans (by simp)
  have b0 : ((w.alloc (.cells #[.int .i64 A.cls, .slice fa A.flds.length ca] 55)).alloc (.cells #[.int .i64 B.cls, .slice fb B.flds.length cb] 55)).cell? ⟨w.heap.size + 1, 0, none⟩ = some (.int .i64 B.cls) := by rw [← i1]; simp
  have b1 : ((w.alloc (.cells #[.int .i64 A.cls, .slice fa A.flds.length ca] 55)).alloc (.cells #[.int .i64 B.cls, .slice fb B.flds.length cb] 55)).cell? ⟨w.heap.size + 1, 1, none⟩ = some (.slice fb B.flds.length cb) := by rw [← i1]; simp
  have hW := Lib.hid hw2
  have P0 := Lib.hid (ueqval_c (ha0.up hw2) (hb0.up hw2))
  have eq := Lib.hid (obj_eq A B)
  clear ha hb hw1 hw2 i1 ha0 hb0
  generalize decide (A = B) = r at *
  go_enter Tryz.func37, Tryz.ntmps37
  go_upto_region 1 with fail
  generalize ((w.alloc (.cells #[.int .i64 A.cls, .slice fa A.flds.length ca] 55)).alloc (.cells #[.int .i64 B.cls, .slice fb B.flds.length cb] 55)) = W at *
  by_cases g : ¬ A.cls = B.cls
  · as_aux_lemma =>
    have d0 : (A.cls == B.cls) = false := by simpa using g
    rw [decide_eq_false g] at eq
    have e : Hid (r = false) := Lib.hid (by rw [eq.out]; simp)
    clear g
    go_wp2
    go_ret
    exact ⟨congrArg (fun b => Ending.returned (Value.bool b)) e.out.symm, hW.out⟩
  replace g : A.cls = B.cls := Decidable.not_not.1 g
  have d0 : (A.cls == B.cls) = true := by simpa using g
  rw [decide_eq_true g, Bool.true_and] at eq
  clear g
  have PQ0 := P0
  clear P0
  generalize decide (A.flds = B.flds) = q at *
  go_wp2_with (first | (go_at_call 69; ((with_reducible refine (PQ0.out).mono ?_); rintro e1 w2 ⟨rfl, hb0⟩)))
  go_ret
  exact ⟨congrArg (fun b => Ending.returned (Value.bool b)) eq.out.symm, hW.out.trans (hb0.mono hW.out.size)⟩
end Wd
end Go.Proofs.YtgfdgdbkifkehaaGreat

/- The landed programs: are two rows of classes, of methods, of objects the same? -/
namespace Go.Proofs.YtgfdgdbkifkehaaGreat
open Go.RowKit
set_option linter.unusedVariables false
set_option maxRecDepth 20000
namespace Wd
set_option maxHeartbeats 16000000 in
theorem uefcls_c {w : World} {a b : Value} {A B : List ClassA} (ha : ClV w a A) (hb : ClV w b B) :
    Calls Tryz.prog 32 #[a, b, .func (.func 33) #[] #[]] w fun e w' => e = .returned (.bool (decide (A = B))) ∧ Below w.heap.size w w' := by
  obtain ⟨aa, ac, rfl, ha1, ha2, _⟩ := ha.ex
  obtain ⟨ba, bc, rfl, hb1, hb2, _⟩ := hb.ex
  have hle := len_le (Nat.le_trans ha1 ha2)
  by_cases hl : A.length = B.length
  · have hl' : ((A.length : Int) != (B.length : Int)) = false := by simp [hl]
    obtain ⟨n, hn⟩ : ∃ n, n = A.length := ⟨_, rfl⟩
    obtain ⟨m, hm⟩ : ∃ m, m = B.length := ⟨_, rfl⟩
    have hn' := Lib.hid hn
    have hm' := Lib.hid hm
    have hnm := Lib.hid (show n = m by omega)
    rw [← hn] at ha hle hl' ⊢
    rw [← hm] at hb hl' ⊢
    replace ha := Lib.hid ha
    replace hb := Lib.hid hb
    have hst := Lib.hid (EqR.start A B)
    clear hl hn hm ha1 ha2 hb1 hb2
    go_enter Tryz.func32, Tryz.ntmps32
    go_wp2
    go_loopw [17] (fun i wr => ∃ (k : Nat), k ≤ n ∧ i = .int .i64 k ∧ Hid (EqR A B k) ∧ Hid (Below w.heap.size w wr)) (fun i _ => n - (intOf i).toNat)
    case atStart => exact ⟨0, by omega, rfl, hst, Lib.hid (Below.refl _ _)⟩
    case round =>
      clear hst
      obtain ⟨k, hk, rfl, hE, hB⟩ := hrel
      by_cases hlt : k < n
      · have hlt' : decide ((k : Int) < (n : Int)) = true := by simp; omega
        have p0 : (0 : Int) ≤ (k : Int) := by omega
        have p1 : (k : Int) < (n : Int) := by omega
        have p2 : (k : Int) < (m : Int) := by have := hnm.out; omega
        obtain ⟨x, hx⟩ : ∃ x, A[k]? = some x := ⟨A[k]'(by have := hn'.out; omega), by simp⟩
        obtain ⟨y, hy⟩ : ∃ x, B[k]? = some x := ⟨B[k]'(by have := hm'.out; omega), by simp⟩
        obtain ⟨_, _, g1, o1, v1, rfl, c0, c1, c2, c3, p1⟩ := ClV.at (ha.out.up hB.out) hx
        obtain ⟨l1, m1, rfl, _, _⟩ := p1.form
        have kx : ClK wr (.agg #[.string x.nm, .int .i64 x.super, .int .i64 x.fields, .slice l1 x.binds.length m1]) x := ⟨_, _, rfl, p1⟩
        obtain ⟨_, _, g2, o2, v2, rfl, d0, d1, d2, d3, p2⟩ := ClV.at (hb.out.up hB.out) hy
        obtain ⟨l2, m2, rfl, _, _⟩ := p2.form
        have ky : ClK wr (.agg #[.string y.nm, .int .i64 y.super, .int .i64 y.fields, .slice l2 y.binds.length m2]) y := ⟨_, _, rfl, p2⟩
        have hxH := Lib.hid hx
        have hyH := Lib.hid hy
        have b1 := (Below.refl wr.heap.size wr).alloc (Nat.le_refl _) (.cells #[.string x.nm, .int .i64 x.super, .int .i64 x.fields, .slice l1 x.binds.length m1] 45)
        have b2 := b1.alloc (by simp only [World.size_alloc]; omega) (.cells #[.string y.nm, .int .i64 y.super, .int .i64 y.fields, .slice l2 y.binds.length m2] 45)
        replace d0 := cell_up b1 d0
        replace d1 := cell_up b1 d1
        replace d2 := cell_up b1 d2
        replace d3 := cell_up b1 d3
        have hB2 := Lib.hid (hB.out.trans (b2.mono hB.out.size))
        have PC := Lib.hid (usclass_c (kx.up b2) (ky.up b2))
        have eQ : ∀ q, decide (x = y) = q → Hid (decide (x = y) = q) := fun q h => Lib.hid h
        clear hx hy hlt b1 b2 kx ky
        cases q : decide (x = y) with
        | true =>
          as_aux_lemma =>
          have hE' := Lib.hid (hE.out.step hxH.out hyH.out (of_decide_eq_true q))
          rw [q] at PC
          clear q eQ
          go_wp2_with (first | (go_at_call 33; ((with_reducible refine PC.out.mono ?_); rintro e1 w2 ⟨rfl, hb3⟩)))
          go_roundw
          case rel => exact ⟨k + 1, by omega, by go_num, hE', Lib.hid (hB2.out.trans (hb3.mono hB2.out.size))⟩
          case measure => simp [intOf]; omega
        | false =>
          as_aux_lemma =>
          have e := Lib.hid (eq_not hxH.out hyH.out (of_decide_eq_false q))
          rw [q] at PC
          clear q eQ
          go_wp2_with (first | (go_at_call 33; ((with_reducible refine PC.out.mono ?_); rintro e1 w2 ⟨rfl, hb3⟩)))
          go_ret
          exact ⟨congrArg (fun b => Ending.returned (Value.bool b)) e.out.symm, hB2.out.trans (hb3.mono hB2.out.size)⟩
      · have e := Lib.hid (EqR.last (A := A) (B := B) (n := n) (by have := hE.out; rw [show k = n by omega] at this; exact this) hn'.out (by rw [hnm.out]; exact hm'.out))
        have hlt' : decide ((k : Int) < (n : Int)) = false := by simp; omega
        go_wp2
        go_ret
        exact ⟨congrArg (fun b => Ending.returned (Value.bool b)) e.out.symm, hB.out⟩
  · have hl' : ((A.length : Int) != (B.length : Int)) = true := by simp; omega
    have e := Lib.hid (eq_len hl)
    clear hl
    go_enter Tryz.func32, Tryz.ntmps32
    go_wp2
    go_ret
    exact ⟨congrArg (fun b => Ending.returned (Value.bool b)) e.out.symm, Below.refl _ _⟩
set_option maxHeartbeats 16000000 in
theorem uefmet_c {w : World} {a b : Value} {A B : List MethA} (ha : MtV w a A) (hb : MtV w b B) :
    Calls Tryz.prog 34 #[a, b, .func (.func 35) #[] #[]] w fun e w' => e = .returned (.bool (decide (A = B))) ∧ Below w.heap.size w w' := by
  obtain ⟨aa, ac, rfl, ha1, ha2, _⟩ := ha.ex
  obtain ⟨ba, bc, rfl, hb1, hb2, _⟩ := hb.ex
  have hle := len_le (Nat.le_trans ha1 ha2)
  by_cases hl : A.length = B.length
  · have hl' : ((A.length : Int) != (B.length : Int)) = false := by simp [hl]
    obtain ⟨n, hn⟩ : ∃ n, n = A.length := ⟨_, rfl⟩
    obtain ⟨m, hm⟩ : ∃ m, m = B.length := ⟨_, rfl⟩
    have hn' := Lib.hid hn
    have hm' := Lib.hid hm
    have hnm := Lib.hid (show n = m by omega)
    rw [← hn] at ha hle hl' ⊢
    rw [← hm] at hb hl' ⊢
    replace ha := Lib.hid ha
    replace hb := Lib.hid hb
    have hst := Lib.hid (EqR.start A B)
    clear hl hn hm ha1 ha2 hb1 hb2
    go_enter Tryz.func34, Tryz.ntmps34
    go_wp2
    go_loopw [17] (fun i wr => ∃ (k : Nat), k ≤ n ∧ i = .int .i64 k ∧ Hid (EqR A B k) ∧ Hid (Below w.heap.size w wr)) (fun i _ => n - (intOf i).toNat)
    case atStart => exact ⟨0, by omega, rfl, hst, Lib.hid (Below.refl _ _)⟩
    case round =>
      clear hst
      obtain ⟨k, hk, rfl, hE, hB⟩ := hrel
      by_cases hlt : k < n
      · have hlt' : decide ((k : Int) < (n : Int)) = true := by simp; omega
        have p0 : (0 : Int) ≤ (k : Int) := by omega
        have p1 : (k : Int) < (n : Int) := by omega
        have p2 : (k : Int) < (m : Int) := by have := hnm.out; omega
        obtain ⟨x, hx⟩ : ∃ x, A[k]? = some x := ⟨A[k]'(by have := hn'.out; omega), by simp⟩
        obtain ⟨y, hy⟩ : ∃ x, B[k]? = some x := ⟨B[k]'(by have := hm'.out; omega), by simp⟩
        obtain ⟨g1, o1, l1, m1, s1, t1, rfl, c0, c1, c2, c3, kx⟩ := MtV.at (ha.out.up hB.out) hx
        obtain ⟨g2, o2, l2, m2, s2, t2, rfl, d0, d1, d2, d3, ky⟩ := MtV.at (hb.out.up hB.out) hy
        have hxH := Lib.hid hx
        have hyH := Lib.hid hy
        have b1 := (Below.refl wr.heap.size wr).alloc (Nat.le_refl _) (.cells #[.int .i64 x.args, .int .i64 x.temps, .slice l1 x.lits.length m1, .slice s1 x.code.length t1] 50)
        have b2 := b1.alloc (by simp only [World.size_alloc]; omega) (.cells #[.int .i64 y.args, .int .i64 y.temps, .slice l2 y.lits.length m2, .slice s2 y.code.length t2] 50)
        replace d0 := cell_up b1 d0
        replace d1 := cell_up b1 d1
        replace d2 := cell_up b1 d2
        replace d3 := cell_up b1 d3
        have hB2 := Lib.hid (hB.out.trans (b2.mono hB.out.size))
        have PC := Lib.hid (usmeth_c (kx.up b2) (ky.up b2))
        have eQ : ∀ q, decide (x = y) = q → Hid (decide (x = y) = q) := fun q h => Lib.hid h
        clear hx hy hlt b1 b2 kx ky
        cases q : decide (x = y) with
        | true =>
          as_aux_lemma =>
          have hE' := Lib.hid (hE.out.step hxH.out hyH.out (of_decide_eq_true q))
          rw [q] at PC
          clear q eQ
          go_wp2_with (first | (go_at_call 35; ((with_reducible refine PC.out.mono ?_); rintro e1 w2 ⟨rfl, hb3⟩)))
          go_roundw
          case rel => exact ⟨k + 1, by omega, by go_num, hE', Lib.hid (hB2.out.trans (hb3.mono hB2.out.size))⟩
          case measure => simp [intOf]; omega
        | false =>
          as_aux_lemma =>
          have e := Lib.hid (eq_not hxH.out hyH.out (of_decide_eq_false q))
          rw [q] at PC
          clear q eQ
          go_wp2_with (first | (go_at_call 35; ((with_reducible refine PC.out.mono ?_); rintro e1 w2 ⟨rfl, hb3⟩)))
          go_ret
          exact ⟨congrArg (fun b => Ending.returned (Value.bool b)) e.out.symm, hB2.out.trans (hb3.mono hB2.out.size)⟩
      · have e := Lib.hid (EqR.last (A := A) (B := B) (n := n) (by have := hE.out; rw [show k = n by omega] at this; exact this) hn'.out (by rw [hnm.out]; exact hm'.out))
        have hlt' : decide ((k : Int) < (n : Int)) = false := by simp; omega
        go_wp2
        go_ret
        exact ⟨congrArg (fun b => Ending.returned (Value.bool b)) e.out.symm, hB.out⟩
  · have hl' : ((A.length : Int) != (B.length : Int)) = true := by simp; omega
    have e := Lib.hid (eq_len hl)
    clear hl
    go_enter Tryz.func34, Tryz.ntmps34
    go_wp2
    go_ret
    exact ⟨congrArg (fun b => Ending.returned (Value.bool b)) e.out.symm, Below.refl _ _⟩
set_option maxHeartbeats 16000000 in
theorem uefobj_c {w : World} {a b : Value} {A B : List ObjA} (ha : ObV w a A) (hb : ObV w b B) :
    Calls Tryz.prog 36 #[a, b, .func (.func 37) #[] #[]] w fun e w' => e = .returned (.bool (decide (A = B))) ∧ Below w.heap.size w w' := by
  obtain ⟨aa, ac, rfl, ha1, ha2, _⟩ := ha.ex
  obtain ⟨ba, bc, rfl, hb1, hb2, _⟩ := hb.ex
  have hle := len_le (Nat.le_trans ha1 ha2)
  by_cases hl : A.length = B.length
  · have hl' : ((A.length : Int) != (B.length : Int)) = false := by simp [hl]
    obtain ⟨n, hn⟩ : ∃ n, n = A.length := ⟨_, rfl⟩
    obtain ⟨m, hm⟩ : ∃ m, m = B.length := ⟨_, rfl⟩
    have hn' := Lib.hid hn
    have hm' := Lib.hid hm
    have hnm := Lib.hid (show n = m by omega)
    rw [← hn] at ha hle hl' ⊢
    rw [← hm] at hb hl' ⊢
    replace ha := Lib.hid ha
    replace hb := Lib.hid hb
    have hst := Lib.hid (EqR.start A B)
    clear hl hn hm ha1 ha2 hb1 hb2
    go_enter Tryz.func36, Tryz.ntmps36
    go_wp2
    go_loopw [17] (fun i wr => ∃ (k : Nat), k ≤ n ∧ i = .int .i64 k ∧ Hid (EqR A B k) ∧ Hid (Below w.heap.size w wr)) (fun i _ => n - (intOf i).toNat)
    case atStart => exact ⟨0, by omega, rfl, hst, Lib.hid (Below.refl _ _)⟩
    case round =>
      clear hst
      obtain ⟨k, hk, rfl, hE, hB⟩ := hrel
      by_cases hlt : k < n
      · have hlt' : decide ((k : Int) < (n : Int)) = true := by simp; omega
        have p0 : (0 : Int) ≤ (k : Int) := by omega
        have p1 : (k : Int) < (n : Int) := by omega
        have p2 : (k : Int) < (m : Int) := by have := hnm.out; omega
        obtain ⟨x, hx⟩ : ∃ x, A[k]? = some x := ⟨A[k]'(by have := hn'.out; omega), by simp⟩
        obtain ⟨y, hy⟩ : ∃ x, B[k]? = some x := ⟨B[k]'(by have := hm'.out; omega), by simp⟩
        obtain ⟨i1, g1, o1, v1, rfl, c0, c1, p1⟩ := ObV.at (ha.out.up hB.out) hx
        obtain ⟨l1, m1, rfl, _, _⟩ := p1.form
        have kx : ObK wr (.agg #[.int .i64 x.cls, .slice l1 x.flds.length m1]) x := ⟨i1, _, _, rfl, p1⟩
        obtain ⟨i2, g2, o2, v2, rfl, d0, d1, p2⟩ := ObV.at (hb.out.up hB.out) hy
        obtain ⟨l2, m2, rfl, _, _⟩ := p2.form
        have ky : ObK wr (.agg #[.int .i64 y.cls, .slice l2 y.flds.length m2]) y := ⟨i2, _, _, rfl, p2⟩
        have hxH := Lib.hid hx
        have hyH := Lib.hid hy
        have b1 := (Below.refl wr.heap.size wr).alloc (Nat.le_refl _) (.cells #[.int .i64 x.cls, .slice l1 x.flds.length m1] 55)
        have b2 := b1.alloc (by simp only [World.size_alloc]; omega) (.cells #[.int .i64 y.cls, .slice l2 y.flds.length m2] 55)
        replace d0 := cell_up b1 d0
        replace d1 := cell_up b1 d1
        have hB2 := Lib.hid (hB.out.trans (b2.mono hB.out.size))
        have PC := Lib.hid (usobj_c (kx.up b2) (ky.up b2))
        have eQ : ∀ q, decide (x = y) = q → Hid (decide (x = y) = q) := fun q h => Lib.hid h
        clear hx hy hlt b1 b2 kx ky
        cases q : decide (x = y) with
        | true =>
          as_aux_lemma =>
          have hE' := Lib.hid (hE.out.step hxH.out hyH.out (of_decide_eq_true q))
          rw [q] at PC
          clear q eQ
          go_wp2_with (first | (go_at_call 37; ((with_reducible refine PC.out.mono ?_); rintro e1 w2 ⟨rfl, hb3⟩)))
          go_roundw
          case rel => exact ⟨k + 1, by omega, by go_num, hE', Lib.hid (hB2.out.trans (hb3.mono hB2.out.size))⟩
          case measure => simp [intOf]; omega
        | false =>
          as_aux_lemma =>
          have e := Lib.hid (eq_not hxH.out hyH.out (of_decide_eq_false q))
          rw [q] at PC
          clear q eQ
          go_wp2_with (first | (go_at_call 37; ((with_reducible refine PC.out.mono ?_); rintro e1 w2 ⟨rfl, hb3⟩)))
          go_ret
          exact ⟨congrArg (fun b => Ending.returned (Value.bool b)) e.out.symm, hB2.out.trans (hb3.mono hB2.out.size)⟩
      · have e := Lib.hid (EqR.last (A := A) (B := B) (n := n) (by have := hE.out; rw [show k = n by omega] at this; exact this) hn'.out (by rw [hnm.out]; exact hm'.out))
        have hlt' : decide ((k : Int) < (n : Int)) = false := by simp; omega
        go_wp2
        go_ret
        exact ⟨congrArg (fun b => Ending.returned (Value.bool b)) e.out.symm, hB.out⟩
  · have hl' : ((A.length : Int) != (B.length : Int)) = true := by simp; omega
    have e := Lib.hid (eq_len hl)
    clear hl
    go_enter Tryz.func36, Tryz.ntmps36
    go_wp2
    go_ret
    exact ⟨congrArg (fun b => Ending.returned (Value.bool b)) e.out.symm, Below.refl _ _⟩
end Wd
end Go.Proofs.YtgfdgdbkifkehaaGreat

/- The landed programs: are two programs the same? -/
namespace Go.Proofs.YtgfdgdbkifkehaaGreat
open Go.RowKit
set_option linter.unusedVariables false
set_option maxRecDepth 20000
namespace Wd
/-- two programs lie boxed -/
structure U2 (w wr : World) (U V : UnitA) (na ka ma oa pa qa ra sa : Option Addr) (n1 n2 n3 n4 m1 m2 m3 m4 nc kc mc oc pc qc rc sc : Nat) : Prop where
  mk ::
  ca : wr.cell? ⟨w.heap.size, 0, none⟩ = some (.slice na n1 nc) ∧ wr.cell? ⟨w.heap.size, 1, none⟩ = some (.slice ka n2 kc) ∧ wr.cell? ⟨w.heap.size, 2, none⟩ = some (.slice ma n3 mc) ∧ wr.cell? ⟨w.heap.size, 3, none⟩ = some (.slice oa n4 oc) ∧ wr.cell? ⟨w.heap.size, 4, none⟩ = some (.int .i64 U.main)
  cb : wr.cell? ⟨w.heap.size + 1, 0, none⟩ = some (.slice pa m1 pc) ∧ wr.cell? ⟨w.heap.size + 1, 1, none⟩ = some (.slice qa m2 qc) ∧ wr.cell? ⟨w.heap.size + 1, 2, none⟩ = some (.slice ra m3 rc) ∧ wr.cell? ⟨w.heap.size + 1, 3, none⟩ = some (.slice sa m4 sc) ∧ wr.cell? ⟨w.heap.size + 1, 4, none⟩ = some (.int .i64 V.main)
  va : NmV wr (.slice na n1 nc) U.names ∧ ClV wr (.slice ka n2 kc) U.classes ∧ MtV wr (.slice ma n3 mc) U.methods ∧ ObV wr (.slice oa n4 oc) U.objects
  vb : NmV wr (.slice pa m1 pc) V.names ∧ ClV wr (.slice qa m2 qc) V.classes ∧ MtV wr (.slice ra m3 rc) V.methods ∧ ObV wr (.slice sa m4 sc) V.objects
  bel : Below w.heap.size w wr
theorem U2.up {w wr w2 : World} {U V : UnitA} {na ka ma oa pa qa ra sa : Option Addr} {n1 n2 n3 n4 m1 m2 m3 m4 nc kc mc oc pc qc rc sc : Nat} (h : U2 w wr U V na ka ma oa pa qa ra sa n1 n2 n3 n4 m1 m2 m3 m4 nc kc mc oc pc qc rc sc) (b : Below wr.heap.size wr w2) : U2 w w2 U V na ka ma oa pa qa ra sa n1 n2 n3 n4 m1 m2 m3 m4 nc kc mc oc pc qc rc sc := by
  obtain ⟨a0, a1, a2, a3, a4⟩ := h.ca
  obtain ⟨b0, b1, b2, b3, b4⟩ := h.cb
  obtain ⟨v0, v1, v2, v3⟩ := h.va
  obtain ⟨u0, u1, u2, u3⟩ := h.vb
  exact ⟨⟨cell_up b a0, cell_up b a1, cell_up b a2, cell_up b a3, cell_up b a4⟩, ⟨cell_up b b0, cell_up b b1, cell_up b b2, cell_up b b3, cell_up b b4⟩, ⟨v0.up b, v1.up b, v2.up b, v3.up b⟩, ⟨u0.up b, u1.up b, u2.up b, u3.up b⟩, h.bel.trans (b.mono h.bel.size)⟩
theorem u2_ex {w : World} {a b : Value} {U V : UnitA} (ha : UnK w a U) (hb : UnK w b V) : ∃ na ka ma oa pa qa ra sa n1 n2 n3 n4 m1 m2 m3 m4 nc kc mc oc pc qc rc sc, a = .agg #[.slice na n1 nc, .slice ka n2 kc, .slice ma n3 mc, .slice oa n4 oc, .int .i64 U.main] ∧ b = .agg #[.slice pa m1 pc, .slice qa m2 qc, .slice ra m3 rc, .slice sa m4 sc, .int .i64 V.main] ∧ U2 w ((w.alloc (.cells #[.slice na n1 nc, .slice ka n2 kc, .slice ma n3 mc, .slice oa n4 oc, .int .i64 U.main] 27)).alloc (.cells #[.slice pa m1 pc, .slice qa m2 qc, .slice ra m3 rc, .slice sa m4 sc, .int .i64 V.main] 27)) U V na ka ma oa pa qa ra sa n1 n2 n3 n4 m1 m2 m3 m4 nc kc mc oc pc qc rc sc := by
  obtain ⟨na, nc, ka, kc, ma, mc, oa, oc, rfl, v0, v1, v2, v3⟩ := ha.ex
  obtain ⟨pa, pc, qa, qc, ra, rc, sa, sc, rfl, u0, u1, u2, u3⟩ := hb.ex
  have hw1 := (Below.refl w.heap.size w).alloc (Nat.le_refl _) (.cells #[.slice na U.names.length nc, .slice ka U.classes.length kc, .slice ma U.methods.length mc, .slice oa U.objects.length oc, .int .i64 U.main] 27)
  have hw2 := hw1.alloc (by simp only [World.size_alloc]; omega) (.cells #[.slice pa V.names.length pc, .slice qa V.classes.length qc, .slice ra V.methods.length rc, .slice sa V.objects.length sc, .int .i64 V.main] 27)
  have i1 : (w.alloc (.cells #[.slice na U.names.length nc, .slice ka U.classes.length kc, .slice ma U.methods.length mc, .slice oa U.objects.length oc, .int .i64 U.main] 27)).heap.size = w.heap.size + 1 := by simp
  refine ⟨na, ka, ma, oa, pa, qa, ra, sa, _, _, _, _, _, _, _, _, nc, kc, mc, oc, pc, qc, rc, sc, rfl, rfl, ⟨⟨?_, ?_, ?_, ?_, ?_⟩, ⟨?_, ?_, ?_, ?_, ?_⟩, ⟨v0.up hw2, v1.up hw2, v2.up hw2, v3.up hw2⟩, ⟨u0.up hw2, u1.up hw2, u2.up hw2, u3.up hw2⟩, hw2⟩⟩
  · exact (World.cell?_alloc_old _ _ _ (by simp)).trans (by simp)
  · exact (World.cell?_alloc_old _ _ _ (by simp)).trans (by simp)
  · exact (World.cell?_alloc_old _ _ _ (by simp)).trans (by simp)
  · exact (World.cell?_alloc_old _ _ _ (by simp)).trans (by simp)
  · exact (World.cell?_alloc_old _ _ _ (by simp)).trans (by simp)
  · rw [← i1]; simp
  · rw [← i1]; simp
  · rw [← i1]; simp
  · rw [← i1]; simp
  · rw [← i1]; simp
set_option maxHeartbeats 32000000 in
theorem usameU_c {w : World} {a b : Value} {U V : UnitA} (ha : UnK w a U) (hb : UnK w b V) :
    Calls Tryz.prog 12 #[a, b] w fun e w' => e = .returned (.bool (sameU U V)) ∧ Below w.heap.size w w' := by
  obtain ⟨na, ka, ma, oa, pa, qa, ra, sa, n1, n2, n3, n4, m1, m2, m3, m4, nc, kc, mc, oc, pc, qc, rc, sc, rfl, rfl, hS⟩ := u2_ex ha hb
  clear ha hb
  have eq : Hid (sameU U V = (decide (U.main = V.main) && (decide (U.names = V.names) && (decide (U.classes = V.classes) && (decide (U.methods = V.methods) && decide (U.objects = V.objects)))))) := Lib.hid (by
    unfold sameU
    cases decide (U.main = V.main) <;> cases decide (U.names = V.names) <;> cases decide (U.classes = V.classes) <;> cases decide (U.methods = V.methods) <;> cases decide (U.objects = V.objects) <;> rfl)
  replace hS := Lib.hid hS
  generalize sameU U V = r at *
  have P1 := Lib.hid (fun (w' : World) (h1 : NmV w' (.slice na n1 nc) U.names) (h2 : NmV w' (.slice pa m1 pc) V.names) => ueqstr_c h1 h2)
  have P2 := Lib.hid (fun (w' : World) (h1 : ClV w' (.slice ka n2 kc) U.classes) (h2 : ClV w' (.slice qa m2 qc) V.classes) => uefcls_c h1 h2)
  have P3 := Lib.hid (fun (w' : World) (h1 : MtV w' (.slice ma n3 mc) U.methods) (h2 : MtV w' (.slice ra m3 rc) V.methods) => uefmet_c h1 h2)
  have P4 := Lib.hid (fun (w' : World) (h1 : ObV w' (.slice oa n4 oc) U.objects) (h2 : ObV w' (.slice sa m4 sc) V.objects) => uefobj_c h1 h2)
  go_enter Tryz.func12, Tryz.ntmps12
  go_upto_region 1 with fail
  generalize ((w.alloc (.cells #[.slice na n1 nc, .slice ka n2 kc, .slice ma n3 mc, .slice oa n4 oc, .int .i64 U.main] 27)).alloc (.cells #[.slice pa m1 pc, .slice qa m2 qc, .slice ra m3 rc, .slice sa m4 sc, .int .i64 V.main] 27)) = W at *
  obtain ⟨a0, a1, a2, a3, a4⟩ := hS.out.ca
  obtain ⟨b0, b1, b2, b3, b4⟩ := hS.out.cb
  by_cases g : ¬ U.main = V.main
  · as_aux_lemma =>
    have d : (U.main == V.main) = false := by simpa using g
    rw [decide_eq_false g] at eq
    have e : Hid (r = false) := Lib.hid (by rw [eq.out]; rfl)
    clear g
    go_wp2
    go_ret
    exact ⟨congrArg (fun b => Ending.returned (Value.bool b)) e.out.symm, hS.out.bel⟩
  replace g : U.main = V.main := Decidable.not_not.1 g
  have d : (U.main == V.main) = true := by simpa using g
  rw [decide_eq_true g, Bool.true_and] at eq
  clear g
  go_wp2_with fail
  refine (P1.out _ hS.out.va.1 hS.out.vb.1).mono ?_
  rintro e w2 ⟨rfl, hq⟩
  replace hS := Lib.hid (hS.out.up hq)
  clear hq a0 a1 a2 a3 a4 b0 b1 b2 b3 b4 P1
  obtain ⟨a0, a1, a2, a3, a4⟩ := hS.out.ca
  obtain ⟨b0, b1, b2, b3, b4⟩ := hS.out.cb
  generalize decide (U.names = V.names) = q at *
  cases q with
  | false =>
    as_aux_lemma =>
    have e : Hid (r = false) := Lib.hid (by rw [eq.out]; rfl)
    go_wp2
    go_ret
    exact ⟨congrArg (fun b => Ending.returned (Value.bool b)) e.out.symm, hS.out.bel⟩
  | true =>
  rw [Bool.true_and] at eq
  go_wp2_with fail
  refine (P2.out _ hS.out.va.2.1 hS.out.vb.2.1).mono ?_
  rintro e w3 ⟨rfl, hq⟩
  replace hS := Lib.hid (hS.out.up hq)
  clear hq a0 a1 a2 a3 a4 b0 b1 b2 b3 b4 P2
  obtain ⟨a0, a1, a2, a3, a4⟩ := hS.out.ca
  obtain ⟨b0, b1, b2, b3, b4⟩ := hS.out.cb
  generalize decide (U.classes = V.classes) = q at *
  cases q with
  | false =>
    as_aux_lemma =>
    have e : Hid (r = false) := Lib.hid (by rw [eq.out]; rfl)
    go_wp2
    go_ret
    exact ⟨congrArg (fun b => Ending.returned (Value.bool b)) e.out.symm, hS.out.bel⟩
  | true =>
  rw [Bool.true_and] at eq
  go_wp2_with fail
  refine (P3.out _ hS.out.va.2.2.1 hS.out.vb.2.2.1).mono ?_
  rintro e w4 ⟨rfl, hq⟩
  replace hS := Lib.hid (hS.out.up hq)
  clear hq a0 a1 a2 a3 a4 b0 b1 b2 b3 b4 P3
  obtain ⟨a0, a1, a2, a3, a4⟩ := hS.out.ca
  obtain ⟨b0, b1, b2, b3, b4⟩ := hS.out.cb
  generalize decide (U.methods = V.methods) = q at *
  cases q with
  | false =>
    as_aux_lemma =>
    have e : Hid (r = false) := Lib.hid (by rw [eq.out]; rfl)
    go_wp2
    go_ret
    exact ⟨congrArg (fun b => Ending.returned (Value.bool b)) e.out.symm, hS.out.bel⟩
  | true =>
  rw [Bool.true_and] at eq
  go_wp2_with fail
  refine (P4.out _ hS.out.va.2.2.2 hS.out.vb.2.2.2).mono ?_
  rintro e w5 ⟨rfl, hq⟩
  replace hS := Lib.hid (hS.out.up hq)
  clear hq a0 a1 a2 a3 a4 b0 b1 b2 b3 b4 P4
  obtain ⟨a0, a1, a2, a3, a4⟩ := hS.out.ca
  obtain ⟨b0, b1, b2, b3, b4⟩ := hS.out.cb
  generalize decide (U.objects = V.objects) = q at *
  go_wp2
  go_ret
  exact ⟨congrArg (fun b => Ending.returned (Value.bool b)) eq.out.symm, hS.out.bel⟩
end Wd
end Go.Proofs.YtgfdgdbkifkehaaGreat

/- What the laws ask of the package's instructions. -/
namespace Go.Proofs.YtgfdgdbkifkehaaGreat
open Go.RowKit
set_option linter.unusedVariables false
set_option maxRecDepth 20000
namespace Wd
theorem range4 {w : World} {q : Nat} {a b c d : Value} (h0 : w.cell? ⟨q, 0, none⟩ = some a) (h1 : w.cell? ⟨q, 1, none⟩ = some b) (h2 : w.cell? ⟨q, 2, none⟩ = some c) (h3 : w.cell? ⟨q, 3, none⟩ = some d) : w.rangeAt q 0 [a, b, c, d] := by
  intro j v hj
  match j, hj with
  | 0, hj => simp at hj; subst hj; exact h0
  | 1, hj => simp at hj; subst hj; exact h1
  | 2, hj => simp at hj; subst hj; exact h2
  | 3, hj => simp at hj; subst hj; exact h3
  | j + 4, hj => simp at hj
theorem MeB.range {w : World} {q : Nat} {v : Value} {m : MethA} {la ca : Option Addr} {lc cc : Nat} (h : MeB w q v m la ca lc cc) : w.rangeAt q 0 [.int .i64 m.args, .int .i64 m.temps, .slice la m.lits.length lc, .slice ca m.code.length cc] := range4 h.c0 h.c1 h.c2 h.c3
/-- what same holds at its comparisons -/
structure SmS (w0 wr : World) (q q2 q7 : Nat) (v u : Value) (m : MethA) (U : UnitA) (la ca na ka ma oa : Option Addr) (lc cc nc kc mc oc : Nat) (x y : Int) : Prop where
  ms : MSt w0 wr q q2 v u m U la ca na ka ma oa lc cc nc kc mc oc
  x0 : wr.cell? ⟨q7, 0, none⟩ = some (.int .i64 x)
  x1 : wr.cell? ⟨q7, 1, none⟩ = some (.int .i64 y)
theorem SmS.up {w0 w w1 : World} {q q2 q7 : Nat} {v u : Value} {m : MethA} {U : UnitA} {la ca na ka ma oa : Option Addr} {lc cc nc kc mc oc : Nat} {x y : Int} (h : SmS w0 w q q2 q7 v u m U la ca na ka ma oa lc cc nc kc mc oc x y) (b : Below w.heap.size w w1) : SmS w0 w1 q q2 q7 v u m U la ca na ka ma oa lc cc nc kc mc oc x y :=
  ⟨h.ms.up b, cell_up b h.x0, cell_up b h.x1⟩
theorem SmS.born {w0 w : World} {q q2 : Nat} {v u : Value} {m : MethA} {U : UnitA} {la ca na ka ma oa : Option Addr} {lc cc nc kc mc oc : Nat} (h : MSt w0 w q q2 v u m U la ca na ka ma oa lc cc nc kc mc oc) (x y : Int) (T : TypeId) : SmS w0 (w.alloc (.cells #[.int .i64 x, .int .i64 y] T)) q q2 w.heap.size v u m U la ca na ka ma oa lc cc nc kc mc oc x y :=
  ⟨h.up ((Below.refl _ _).alloc (Nat.le_refl _) _), by simp, by simp⟩
end Wd
end Go.Proofs.YtgfdgdbkifkehaaGreat
