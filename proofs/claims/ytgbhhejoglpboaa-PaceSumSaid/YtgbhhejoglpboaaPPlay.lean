/- What the laws ask of a pace, whoever keeps it: play. -/
import Derived.Test.YtgbhhejoglpboaaPLaw
namespace Go.Proofs.Ytgbhhejoglpboaa
open Go.RowKit
set_option linter.unusedVariables false
namespace Wd
/-- the numbers of a list that came in, in the world at hand and in any that only grew -/
def Nums (w0 : World) (ad : Option Addr) (len : Nat) : Prop := ∀ wr, Below w0.heap.size w0 wr → ∀ k, k < len → ∃ (g off : Nat) (x : Int), ad = some ⟨g, off, none⟩ ∧ (-9223372036854775808 ≤ x ∧ x ≤ 9223372036854775807) ∧ wr.cell? ⟨g, off + k, none⟩ = some (.int .i64 x)
set_option maxHeartbeats 16000000 in
theorem play_c {PA : PAt} (K : PaceK PA) (k : Int) (j0 : -9223372036854775808 ≤ k) (j1 : k ≤ 9223372036854775807) (ad : Option Addr) (len cap : Nat) (w : World) (HA : Nums w ad len) :
    Calls Try.prog 8 #[.int .i64 k, .slice ad len cap] w fun e w' => e = .returned (.bool true) ∧ Below w.heap.size w w' := by
  replace HA := Lib.hid HA
  obtain ⟨c0, c1⟩ := clamp_bd k
  have NW := K.new (w := w) k j0 j1
  by_cases hk1 : 16 < k
  · rw [show clampK k = 16 by unfold clampK; omega] at NW
    clear c0 c1
    go_enter Try.func8, Try.ntmps8
    go_wp2_with fail
    refine NW.mono ?_
    clear NW
    rintro e w1 ⟨p, F, rfl, hp, hF, hb⟩
    have hs := Lib.hid (PS.mk hp hb hF)
    clear hp hb hF
    go_wp2
    go_loopw [7, 8] (fun v s wr => ∃ i : Nat, i ≤ len ∧ i ≤ 100 ∧ s = .int .i64 i ∧ ∃ debt, v = .int .i64 debt ∧ Hid (PS PA w wr p 16 debt F)) (fun _ s _ => 100 - (intOf s).toNat)
    case atStart => exact ⟨0, by omega, by omega, rfl, 0, rfl, hs⟩
    case round =>
      clear hs
      obtain ⟨i, hi, hi2, rfl, debt, rfl, hst⟩ := hrel
      obtain ⟨_, _, b0, b1⟩ := K.bd hst.out.pa
      by_cases hlt : i < len ∧ i < 100
      · obtain ⟨g, off, x, rfl, ⟨x0, x1⟩, cx⟩ := HA.out _ hst.out.bel i hlt.1
        have d1 : decide ((i : Int) < (len : Int)) = true := by simp; omega
        have d2 : decide ((i : Int) < 100) = true := by simp; omega
        have p0 : (0 : Int) ≤ (i : Int) := by omega
        have p1 : (i : Int) < (len : Int) := by omega
        have hm : Int.tmod (i : Int) 4 = ((i % 4 : Nat) : Int) := by rw [show (4 : Int) = ((4 : Nat) : Int) from rfl, ← Int.ofNat_tmod]
        have wm : IntKind.i64.wrap ((i % 4 : Nat) : Int) = ((i % 4 : Nat) : Int) := by rw [IntKind.wrap_i64]; omega
        obtain ⟨t, ht⟩ : ∃ t, t = i % 4 := ⟨_, rfl⟩
        rw [← ht] at hm wm
        by_cases t3 : t = 3
        · have e3 : (((t : Nat) : Int) == 3) = true := by simp; omega
          clear ht t3
          by_cases ha : 1048576 < x
          · have hh : held x = 1048576 := by unfold held; omega
            have ws : IntKind.i64.wrap (debt - 1048576) = debt - 1048576 := by rw [IntKind.wrap_i64]; omega
            have w0 : IntKind.i64.wrap debt = debt := by rw [IntKind.wrap_i64]; omega
            have P := K.did x hst.out.pa x0 x1
            by_cases hc : 0 > debt - 1048576
            · have e : didD debt x = 0 := by unfold didD; rw [hh]; omega
              rw [e] at P
              clear e
              replace hh := Lib.hid hh
              go_wp2_with fail
              refine P.mono ?_
              clear P
              rintro e w4 ⟨rfl, hp, hcc⟩
              have s4 := Lib.hid (hst.out.ch hp hcc)
              clear hst hp hcc
              go_wp2_with fail
              refine (K.debt s4.out.pa).mono ?_
              rintro e w5 ⟨rfl, hb5⟩
              have s5 := Lib.hid (s4.out.keep K hb5)
              clear hb5
              go_wp2
              go_roundw
              case rel => exact ⟨i + 1, by omega, by omega, by go_num, _, rfl, s5⟩
              case measure => simp [intOf]; omega
            · have e : didD debt x = debt - 1048576 := by unfold didD; rw [hh]; omega
              rw [e] at P
              clear e
              replace hh := Lib.hid hh
              go_wp2_with fail
              refine P.mono ?_
              clear P
              rintro e w4 ⟨rfl, hp, hcc⟩
              have s4 := Lib.hid (hst.out.ch hp hcc)
              clear hst hp hcc
              go_wp2_with fail
              refine (K.debt s4.out.pa).mono ?_
              rintro e w5 ⟨rfl, hb5⟩
              have s5 := Lib.hid (s4.out.keep K hb5)
              clear hb5
              go_wp2
              go_roundw
              case rel => exact ⟨i + 1, by omega, by omega, by go_num, _, rfl, s5⟩
              case measure => simp [intOf]; omega
          · by_cases hb : 0 > x
            · have hh : held x = 0 := by unfold held; omega
              have ws : IntKind.i64.wrap (debt - 0) = debt - 0 := by rw [IntKind.wrap_i64]; omega
              have w0 : IntKind.i64.wrap debt = debt := by rw [IntKind.wrap_i64]; omega
              have P := K.did x hst.out.pa x0 x1
              by_cases hc : 0 > debt
              · have e : didD debt x = 0 := by unfold didD; rw [hh]; omega
                rw [e] at P
                clear e
                replace hh := Lib.hid hh
                go_wp2_with fail
                refine P.mono ?_
                clear P
                rintro e w4 ⟨rfl, hp, hcc⟩
                have s4 := Lib.hid (hst.out.ch hp hcc)
                clear hst hp hcc
                go_wp2_with fail
                refine (K.debt s4.out.pa).mono ?_
                rintro e w5 ⟨rfl, hb5⟩
                have s5 := Lib.hid (s4.out.keep K hb5)
                clear hb5
                go_wp2
                go_roundw
                case rel => exact ⟨i + 1, by omega, by omega, by go_num, _, rfl, s5⟩
                case measure => simp [intOf]; omega
              · have e : didD debt x = debt := by unfold didD; rw [hh]; omega
                rw [e] at P
                clear e
                replace hh := Lib.hid hh
                go_wp2_with fail
                refine P.mono ?_
                clear P
                rintro e w4 ⟨rfl, hp, hcc⟩
                have s4 := Lib.hid (hst.out.ch hp hcc)
                clear hst hp hcc
                go_wp2_with fail
                refine (K.debt s4.out.pa).mono ?_
                rintro e w5 ⟨rfl, hb5⟩
                have s5 := Lib.hid (s4.out.keep K hb5)
                clear hb5
                go_wp2
                go_roundw
                case rel => exact ⟨i + 1, by omega, by omega, by go_num, _, rfl, s5⟩
                case measure => simp [intOf]; omega
            · have hh : held x = x := by unfold held; omega
              have ws : IntKind.i64.wrap (debt - x) = debt - x := by rw [IntKind.wrap_i64]; omega
              have w0 : IntKind.i64.wrap debt = debt := by rw [IntKind.wrap_i64]; omega
              have P := K.did x hst.out.pa x0 x1
              by_cases hc : 0 > debt - x
              · have e : didD debt x = 0 := by unfold didD; rw [hh]; omega
                rw [e] at P
                clear e
                replace hh := Lib.hid hh
                go_wp2_with fail
                refine P.mono ?_
                clear P
                rintro e w4 ⟨rfl, hp, hcc⟩
                have s4 := Lib.hid (hst.out.ch hp hcc)
                clear hst hp hcc
                go_wp2_with fail
                refine (K.debt s4.out.pa).mono ?_
                rintro e w5 ⟨rfl, hb5⟩
                have s5 := Lib.hid (s4.out.keep K hb5)
                clear hb5
                go_wp2
                go_roundw
                case rel => exact ⟨i + 1, by omega, by omega, by go_num, _, rfl, s5⟩
                case measure => simp [intOf]; omega
              · have e : didD debt x = debt - x := by unfold didD; rw [hh]; omega
                rw [e] at P
                clear e
                replace hh := Lib.hid hh
                go_wp2_with fail
                refine P.mono ?_
                clear P
                rintro e w4 ⟨rfl, hp, hcc⟩
                have s4 := Lib.hid (hst.out.ch hp hcc)
                clear hst hp hcc
                go_wp2_with fail
                refine (K.debt s4.out.pa).mono ?_
                rintro e w5 ⟨rfl, hb5⟩
                have s5 := Lib.hid (s4.out.keep K hb5)
                clear hb5
                go_wp2
                go_roundw
                case rel => exact ⟨i + 1, by omega, by omega, by go_num, _, rfl, s5⟩
                case measure => simp [intOf]; omega
        · have e3 : (((t : Nat) : Int) == 3) = false := by simp; omega
          by_cases t2 : t = 2
          · have e2 : (((t : Nat) : Int) == 2) = true := by simp; omega
            clear ht t3 t2
            obtain ⟨r, hr, r0, r1, _⟩ := tmod_split x 5 (by omega)
            by_cases hr0 : r = 0
            · have e5 : (r == 0) = true := by simp [hr0]
              clear hr0
              go_wp2_with fail
              refine (K.rest hst.out.pa).mono ?_
              rintro e w4 ⟨rfl, hp, hcc⟩
              have s4 := Lib.hid (hst.out.ch hp hcc)
              clear hst hp hcc
              go_wp2_with fail
              refine (K.debt s4.out.pa).mono ?_
              rintro e w5 ⟨rfl, hb5⟩
              have s5 := Lib.hid (s4.out.keep K hb5)
              clear hb5
              go_wp2
              go_roundw
              case rel => exact ⟨i + 1, by omega, by omega, by go_num, _, rfl, s5⟩
              case measure => simp [intOf]; omega
            · have e5 : (r == 0) = false := by simpa using hr0
              clear hr0
              go_wp2_with fail
              refine (K.debt hst.out.pa).mono ?_
              rintro e w5 ⟨rfl, hb5⟩
              have s5 := Lib.hid (hst.out.keep K hb5)
              clear hb5
              go_wp2
              go_roundw
              case rel => exact ⟨i + 1, by omega, by omega, by go_num, _, rfl, s5⟩
              case measure => simp [intOf]; omega
          · have e2 : (((t : Nat) : Int) == 2) = false := by simp; omega
            clear ht t3 t2
            by_cases ha : 1048576 < x
            · have hh : held x = 1048576 := by unfold held; omega
              have wp : IntKind.i64.wrap 16777216 = 16777216 := by rw [IntKind.wrap_i64]; omega
              have wd : IntKind.i64.wrap (debt + 16777216) = debt + 16777216 := by rw [IntKind.wrap_i64]; omega
              have G := K.give x hst.out.pa x0 x1
              by_cases hc : 1099511627776 < debt + 16777216
              · have e : giveD 16 debt x = 1099511627776 := by unfold giveD; rw [hh]; omega
                rw [e] at G
                clear e
                replace hh := Lib.hid hh
                go_wp2_with fail
                refine G.mono ?_
                clear G
                rintro e w4 ⟨rfl, hp, hcc⟩
                have s4 := Lib.hid (hst.out.ch hp hcc)
                clear hst hp hcc
                go_wp2_with fail
                refine (K.debt s4.out.pa).mono ?_
                rintro e w5 ⟨rfl, hb5⟩
                have s5 := Lib.hid (s4.out.keep K hb5)
                clear hb5
                go_wp2
                go_roundw
                case rel => exact ⟨i + 1, by omega, by omega, by go_num, _, rfl, s5⟩
                case measure => simp [intOf]; omega
              · have e : giveD 16 debt x = debt + 16777216 := by unfold giveD; rw [hh]; omega
                rw [e] at G
                clear e
                replace hh := Lib.hid hh
                go_wp2_with fail
                refine G.mono ?_
                clear G
                rintro e w4 ⟨rfl, hp, hcc⟩
                have s4 := Lib.hid (hst.out.ch hp hcc)
                have e9 : (debt + 16777216 != debt + 16777216) = false := by simp
                clear hst hp hcc
                go_wp2_with fail
                refine (K.debt s4.out.pa).mono ?_
                rintro e w5 ⟨rfl, hb5⟩
                have s5 := Lib.hid (s4.out.keep K hb5)
                clear hb5
                go_wp2
                go_roundw
                case rel => exact ⟨i + 1, by omega, by omega, by go_num, _, rfl, s5⟩
                case measure => simp [intOf]; omega
            · by_cases hb : 0 > x
              · have hh : held x = 0 := by unfold held; omega
                have wd : IntKind.i64.wrap debt = debt := by rw [IntKind.wrap_i64]; omega
                have G := K.give x hst.out.pa x0 x1
                by_cases hc : 1099511627776 < debt
                · have e : giveD 16 debt x = 1099511627776 := by unfold giveD; rw [hh, Int.mul_zero]; omega
                  rw [e] at G
                  clear e
                  replace hh := Lib.hid hh
                  go_wp2_with fail
                  refine G.mono ?_
                  clear G
                  rintro e w4 ⟨rfl, hp, hcc⟩
                  have s4 := Lib.hid (hst.out.ch hp hcc)
                  clear hst hp hcc
                  go_wp2_with fail
                  refine (K.debt s4.out.pa).mono ?_
                  rintro e w5 ⟨rfl, hb5⟩
                  have s5 := Lib.hid (s4.out.keep K hb5)
                  clear hb5
                  go_wp2
                  go_roundw
                  case rel => exact ⟨i + 1, by omega, by omega, by go_num, _, rfl, s5⟩
                  case measure => simp [intOf]; omega
                · have e : giveD 16 debt x = debt := by unfold giveD; rw [hh, Int.mul_zero]; omega
                  rw [e] at G
                  clear e
                  replace hh := Lib.hid hh
                  go_wp2_with fail
                  refine G.mono ?_
                  clear G
                  rintro e w4 ⟨rfl, hp, hcc⟩
                  have s4 := Lib.hid (hst.out.ch hp hcc)
                  have e9 : (debt != debt) = false := by simp
                  clear hst hp hcc
                  go_wp2_with fail
                  refine (K.debt s4.out.pa).mono ?_
                  rintro e w5 ⟨rfl, hb5⟩
                  have s5 := Lib.hid (s4.out.keep K hb5)
                  clear hb5
                  go_wp2
                  go_roundw
                  case rel => exact ⟨i + 1, by omega, by omega, by go_num, _, rfl, s5⟩
                  case measure => simp [intOf]; omega
              · have hh : held x = x := by unfold held; omega
                obtain ⟨q0, q1⟩ := prod_bd (k := 16) (h := x) (by omega) (by omega) (by omega)
                obtain ⟨P, hP⟩ : ∃ P : Int, (16 : Int) * x = P := ⟨_, rfl⟩
                rw [hP] at q0 q1
                have wp : IntKind.i64.wrap P = P := by rw [IntKind.wrap_i64]; omega
                have wd : IntKind.i64.wrap (debt + P) = debt + P := by rw [IntKind.wrap_i64]; omega
                have G := K.give x hst.out.pa x0 x1
                by_cases hc : 1099511627776 < debt + P
                · have e : giveD 16 debt x = 1099511627776 := by unfold giveD; rw [hh, hP]; omega
                  rw [e] at G
                  clear e
                  replace hh := Lib.hid hh
                  go_wp2_with fail
                  refine G.mono ?_
                  clear G
                  rintro e w4 ⟨rfl, hp, hcc⟩
                  have s4 := Lib.hid (hst.out.ch hp hcc)
                  clear hst hp hcc
                  go_wp2_with fail
                  refine (K.debt s4.out.pa).mono ?_
                  rintro e w5 ⟨rfl, hb5⟩
                  have s5 := Lib.hid (s4.out.keep K hb5)
                  clear hb5
                  go_wp2
                  go_roundw
                  case rel => exact ⟨i + 1, by omega, by omega, by go_num, _, rfl, s5⟩
                  case measure => simp [intOf]; omega
                · have e : giveD 16 debt x = debt + P := by unfold giveD; rw [hh, hP]; omega
                  rw [e] at G
                  clear e
                  replace hh := Lib.hid hh
                  go_wp2_with fail
                  refine G.mono ?_
                  clear G
                  rintro e w4 ⟨rfl, hp, hcc⟩
                  have s4 := Lib.hid (hst.out.ch hp hcc)
                  have e9 : (debt + P != debt + P) = false := by simp
                  clear hst hp hcc
                  go_wp2_with fail
                  refine (K.debt s4.out.pa).mono ?_
                  rintro e w5 ⟨rfl, hb5⟩
                  have s5 := Lib.hid (s4.out.keep K hb5)
                  clear hb5
                  go_wp2
                  go_roundw
                  case rel => exact ⟨i + 1, by omega, by omega, by go_num, _, rfl, s5⟩
                  case measure => simp [intOf]; omega
      · by_cases hl1 : i < len
        · have d1 : decide ((i : Int) < (len : Int)) = true := by simp; omega
          have d2 : decide ((i : Int) < 100) = false := by simp; omega
          go_wp2
          go_ret
          exact ⟨rfl, hst.out.bel⟩
        · have d1 : decide ((i : Int) < (len : Int)) = false := by simp; omega
          go_wp2
          go_ret
          exact ⟨rfl, hst.out.bel⟩
  · by_cases hk2 : 1 > k
    · rw [show clampK k = 1 by unfold clampK; omega] at NW
      clear c0 c1
      go_enter Try.func8, Try.ntmps8
      go_wp2_with fail
      refine NW.mono ?_
      clear NW
      rintro e w1 ⟨p, F, rfl, hp, hF, hb⟩
      have hs := Lib.hid (PS.mk hp hb hF)
      clear hp hb hF
      go_wp2
      go_loopw [7, 8] (fun v s wr => ∃ i : Nat, i ≤ len ∧ i ≤ 100 ∧ s = .int .i64 i ∧ ∃ debt, v = .int .i64 debt ∧ Hid (PS PA w wr p 1 debt F)) (fun _ s _ => 100 - (intOf s).toNat)
      case atStart => exact ⟨0, by omega, by omega, rfl, 0, rfl, hs⟩
      case round =>
        clear hs
        obtain ⟨i, hi, hi2, rfl, debt, rfl, hst⟩ := hrel
        obtain ⟨_, _, b0, b1⟩ := K.bd hst.out.pa
        by_cases hlt : i < len ∧ i < 100
        · obtain ⟨g, off, x, rfl, ⟨x0, x1⟩, cx⟩ := HA.out _ hst.out.bel i hlt.1
          have d1 : decide ((i : Int) < (len : Int)) = true := by simp; omega
          have d2 : decide ((i : Int) < 100) = true := by simp; omega
          have p0 : (0 : Int) ≤ (i : Int) := by omega
          have p1 : (i : Int) < (len : Int) := by omega
          have hm : Int.tmod (i : Int) 4 = ((i % 4 : Nat) : Int) := by rw [show (4 : Int) = ((4 : Nat) : Int) from rfl, ← Int.ofNat_tmod]
          have wm : IntKind.i64.wrap ((i % 4 : Nat) : Int) = ((i % 4 : Nat) : Int) := by rw [IntKind.wrap_i64]; omega
          obtain ⟨t, ht⟩ : ∃ t, t = i % 4 := ⟨_, rfl⟩
          rw [← ht] at hm wm
          by_cases t3 : t = 3
          · have e3 : (((t : Nat) : Int) == 3) = true := by simp; omega
            clear ht t3
            by_cases ha : 1048576 < x
            · have hh : held x = 1048576 := by unfold held; omega
              have ws : IntKind.i64.wrap (debt - 1048576) = debt - 1048576 := by rw [IntKind.wrap_i64]; omega
              have w0 : IntKind.i64.wrap debt = debt := by rw [IntKind.wrap_i64]; omega
              have P := K.did x hst.out.pa x0 x1
              by_cases hc : 0 > debt - 1048576
              · have e : didD debt x = 0 := by unfold didD; rw [hh]; omega
                rw [e] at P
                clear e
                replace hh := Lib.hid hh
                go_wp2_with fail
                refine P.mono ?_
                clear P
                rintro e w4 ⟨rfl, hp, hcc⟩
                have s4 := Lib.hid (hst.out.ch hp hcc)
                clear hst hp hcc
                go_wp2_with fail
                refine (K.debt s4.out.pa).mono ?_
                rintro e w5 ⟨rfl, hb5⟩
                have s5 := Lib.hid (s4.out.keep K hb5)
                clear hb5
                go_wp2
                go_roundw
                case rel => exact ⟨i + 1, by omega, by omega, by go_num, _, rfl, s5⟩
                case measure => simp [intOf]; omega
              · have e : didD debt x = debt - 1048576 := by unfold didD; rw [hh]; omega
                rw [e] at P
                clear e
                replace hh := Lib.hid hh
                go_wp2_with fail
                refine P.mono ?_
                clear P
                rintro e w4 ⟨rfl, hp, hcc⟩
                have s4 := Lib.hid (hst.out.ch hp hcc)
                clear hst hp hcc
                go_wp2_with fail
                refine (K.debt s4.out.pa).mono ?_
                rintro e w5 ⟨rfl, hb5⟩
                have s5 := Lib.hid (s4.out.keep K hb5)
                clear hb5
                go_wp2
                go_roundw
                case rel => exact ⟨i + 1, by omega, by omega, by go_num, _, rfl, s5⟩
                case measure => simp [intOf]; omega
            · by_cases hb : 0 > x
              · have hh : held x = 0 := by unfold held; omega
                have ws : IntKind.i64.wrap (debt - 0) = debt - 0 := by rw [IntKind.wrap_i64]; omega
                have w0 : IntKind.i64.wrap debt = debt := by rw [IntKind.wrap_i64]; omega
                have P := K.did x hst.out.pa x0 x1
                by_cases hc : 0 > debt
                · have e : didD debt x = 0 := by unfold didD; rw [hh]; omega
                  rw [e] at P
                  clear e
                  replace hh := Lib.hid hh
                  go_wp2_with fail
                  refine P.mono ?_
                  clear P
                  rintro e w4 ⟨rfl, hp, hcc⟩
                  have s4 := Lib.hid (hst.out.ch hp hcc)
                  clear hst hp hcc
                  go_wp2_with fail
                  refine (K.debt s4.out.pa).mono ?_
                  rintro e w5 ⟨rfl, hb5⟩
                  have s5 := Lib.hid (s4.out.keep K hb5)
                  clear hb5
                  go_wp2
                  go_roundw
                  case rel => exact ⟨i + 1, by omega, by omega, by go_num, _, rfl, s5⟩
                  case measure => simp [intOf]; omega
                · have e : didD debt x = debt := by unfold didD; rw [hh]; omega
                  rw [e] at P
                  clear e
                  replace hh := Lib.hid hh
                  go_wp2_with fail
                  refine P.mono ?_
                  clear P
                  rintro e w4 ⟨rfl, hp, hcc⟩
                  have s4 := Lib.hid (hst.out.ch hp hcc)
                  clear hst hp hcc
                  go_wp2_with fail
                  refine (K.debt s4.out.pa).mono ?_
                  rintro e w5 ⟨rfl, hb5⟩
                  have s5 := Lib.hid (s4.out.keep K hb5)
                  clear hb5
                  go_wp2
                  go_roundw
                  case rel => exact ⟨i + 1, by omega, by omega, by go_num, _, rfl, s5⟩
                  case measure => simp [intOf]; omega
              · have hh : held x = x := by unfold held; omega
                have ws : IntKind.i64.wrap (debt - x) = debt - x := by rw [IntKind.wrap_i64]; omega
                have w0 : IntKind.i64.wrap debt = debt := by rw [IntKind.wrap_i64]; omega
                have P := K.did x hst.out.pa x0 x1
                by_cases hc : 0 > debt - x
                · have e : didD debt x = 0 := by unfold didD; rw [hh]; omega
                  rw [e] at P
                  clear e
                  replace hh := Lib.hid hh
                  go_wp2_with fail
                  refine P.mono ?_
                  clear P
                  rintro e w4 ⟨rfl, hp, hcc⟩
                  have s4 := Lib.hid (hst.out.ch hp hcc)
                  clear hst hp hcc
                  go_wp2_with fail
                  refine (K.debt s4.out.pa).mono ?_
                  rintro e w5 ⟨rfl, hb5⟩
                  have s5 := Lib.hid (s4.out.keep K hb5)
                  clear hb5
                  go_wp2
                  go_roundw
                  case rel => exact ⟨i + 1, by omega, by omega, by go_num, _, rfl, s5⟩
                  case measure => simp [intOf]; omega
                · have e : didD debt x = debt - x := by unfold didD; rw [hh]; omega
                  rw [e] at P
                  clear e
                  replace hh := Lib.hid hh
                  go_wp2_with fail
                  refine P.mono ?_
                  clear P
                  rintro e w4 ⟨rfl, hp, hcc⟩
                  have s4 := Lib.hid (hst.out.ch hp hcc)
                  clear hst hp hcc
                  go_wp2_with fail
                  refine (K.debt s4.out.pa).mono ?_
                  rintro e w5 ⟨rfl, hb5⟩
                  have s5 := Lib.hid (s4.out.keep K hb5)
                  clear hb5
                  go_wp2
                  go_roundw
                  case rel => exact ⟨i + 1, by omega, by omega, by go_num, _, rfl, s5⟩
                  case measure => simp [intOf]; omega
          · have e3 : (((t : Nat) : Int) == 3) = false := by simp; omega
            by_cases t2 : t = 2
            · have e2 : (((t : Nat) : Int) == 2) = true := by simp; omega
              clear ht t3 t2
              obtain ⟨r, hr, r0, r1, _⟩ := tmod_split x 5 (by omega)
              by_cases hr0 : r = 0
              · have e5 : (r == 0) = true := by simp [hr0]
                clear hr0
                go_wp2_with fail
                refine (K.rest hst.out.pa).mono ?_
                rintro e w4 ⟨rfl, hp, hcc⟩
                have s4 := Lib.hid (hst.out.ch hp hcc)
                clear hst hp hcc
                go_wp2_with fail
                refine (K.debt s4.out.pa).mono ?_
                rintro e w5 ⟨rfl, hb5⟩
                have s5 := Lib.hid (s4.out.keep K hb5)
                clear hb5
                go_wp2
                go_roundw
                case rel => exact ⟨i + 1, by omega, by omega, by go_num, _, rfl, s5⟩
                case measure => simp [intOf]; omega
              · have e5 : (r == 0) = false := by simpa using hr0
                clear hr0
                go_wp2_with fail
                refine (K.debt hst.out.pa).mono ?_
                rintro e w5 ⟨rfl, hb5⟩
                have s5 := Lib.hid (hst.out.keep K hb5)
                clear hb5
                go_wp2
                go_roundw
                case rel => exact ⟨i + 1, by omega, by omega, by go_num, _, rfl, s5⟩
                case measure => simp [intOf]; omega
            · have e2 : (((t : Nat) : Int) == 2) = false := by simp; omega
              clear ht t3 t2
              by_cases ha : 1048576 < x
              · have hh : held x = 1048576 := by unfold held; omega
                have wp : IntKind.i64.wrap 1048576 = 1048576 := by rw [IntKind.wrap_i64]; omega
                have wd : IntKind.i64.wrap (debt + 1048576) = debt + 1048576 := by rw [IntKind.wrap_i64]; omega
                have G := K.give x hst.out.pa x0 x1
                by_cases hc : 1099511627776 < debt + 1048576
                · have e : giveD 1 debt x = 1099511627776 := by unfold giveD; rw [hh]; omega
                  rw [e] at G
                  clear e
                  replace hh := Lib.hid hh
                  go_wp2_with fail
                  refine G.mono ?_
                  clear G
                  rintro e w4 ⟨rfl, hp, hcc⟩
                  have s4 := Lib.hid (hst.out.ch hp hcc)
                  clear hst hp hcc
                  go_wp2_with fail
                  refine (K.debt s4.out.pa).mono ?_
                  rintro e w5 ⟨rfl, hb5⟩
                  have s5 := Lib.hid (s4.out.keep K hb5)
                  clear hb5
                  go_wp2
                  go_roundw
                  case rel => exact ⟨i + 1, by omega, by omega, by go_num, _, rfl, s5⟩
                  case measure => simp [intOf]; omega
                · have e : giveD 1 debt x = debt + 1048576 := by unfold giveD; rw [hh]; omega
                  rw [e] at G
                  clear e
                  replace hh := Lib.hid hh
                  go_wp2_with fail
                  refine G.mono ?_
                  clear G
                  rintro e w4 ⟨rfl, hp, hcc⟩
                  have s4 := Lib.hid (hst.out.ch hp hcc)
                  have e9 : (debt + 1048576 != debt + 1048576) = false := by simp
                  clear hst hp hcc
                  go_wp2_with fail
                  refine (K.debt s4.out.pa).mono ?_
                  rintro e w5 ⟨rfl, hb5⟩
                  have s5 := Lib.hid (s4.out.keep K hb5)
                  clear hb5
                  go_wp2
                  go_roundw
                  case rel => exact ⟨i + 1, by omega, by omega, by go_num, _, rfl, s5⟩
                  case measure => simp [intOf]; omega
              · by_cases hb : 0 > x
                · have hh : held x = 0 := by unfold held; omega
                  have wd : IntKind.i64.wrap debt = debt := by rw [IntKind.wrap_i64]; omega
                  have G := K.give x hst.out.pa x0 x1
                  by_cases hc : 1099511627776 < debt
                  · have e : giveD 1 debt x = 1099511627776 := by unfold giveD; rw [hh, Int.mul_zero]; omega
                    rw [e] at G
                    clear e
                    replace hh := Lib.hid hh
                    go_wp2_with fail
                    refine G.mono ?_
                    clear G
                    rintro e w4 ⟨rfl, hp, hcc⟩
                    have s4 := Lib.hid (hst.out.ch hp hcc)
                    clear hst hp hcc
                    go_wp2_with fail
                    refine (K.debt s4.out.pa).mono ?_
                    rintro e w5 ⟨rfl, hb5⟩
                    have s5 := Lib.hid (s4.out.keep K hb5)
                    clear hb5
                    go_wp2
                    go_roundw
                    case rel => exact ⟨i + 1, by omega, by omega, by go_num, _, rfl, s5⟩
                    case measure => simp [intOf]; omega
                  · have e : giveD 1 debt x = debt := by unfold giveD; rw [hh, Int.mul_zero]; omega
                    rw [e] at G
                    clear e
                    replace hh := Lib.hid hh
                    go_wp2_with fail
                    refine G.mono ?_
                    clear G
                    rintro e w4 ⟨rfl, hp, hcc⟩
                    have s4 := Lib.hid (hst.out.ch hp hcc)
                    have e9 : (debt != debt) = false := by simp
                    clear hst hp hcc
                    go_wp2_with fail
                    refine (K.debt s4.out.pa).mono ?_
                    rintro e w5 ⟨rfl, hb5⟩
                    have s5 := Lib.hid (s4.out.keep K hb5)
                    clear hb5
                    go_wp2
                    go_roundw
                    case rel => exact ⟨i + 1, by omega, by omega, by go_num, _, rfl, s5⟩
                    case measure => simp [intOf]; omega
                · have hh : held x = x := by unfold held; omega
                  have wp : IntKind.i64.wrap x = x := by rw [IntKind.wrap_i64]; omega
                  have wd : IntKind.i64.wrap (debt + x) = debt + x := by rw [IntKind.wrap_i64]; omega
                  have G := K.give x hst.out.pa x0 x1
                  by_cases hc : 1099511627776 < debt + x
                  · have e : giveD 1 debt x = 1099511627776 := by unfold giveD; rw [hh]; omega
                    rw [e] at G
                    clear e
                    replace hh := Lib.hid hh
                    go_wp2_with fail
                    refine G.mono ?_
                    clear G
                    rintro e w4 ⟨rfl, hp, hcc⟩
                    have s4 := Lib.hid (hst.out.ch hp hcc)
                    clear hst hp hcc
                    go_wp2_with fail
                    refine (K.debt s4.out.pa).mono ?_
                    rintro e w5 ⟨rfl, hb5⟩
                    have s5 := Lib.hid (s4.out.keep K hb5)
                    clear hb5
                    go_wp2
                    go_roundw
                    case rel => exact ⟨i + 1, by omega, by omega, by go_num, _, rfl, s5⟩
                    case measure => simp [intOf]; omega
                  · have e : giveD 1 debt x = debt + x := by unfold giveD; rw [hh]; omega
                    rw [e] at G
                    clear e
                    replace hh := Lib.hid hh
                    go_wp2_with fail
                    refine G.mono ?_
                    clear G
                    rintro e w4 ⟨rfl, hp, hcc⟩
                    have s4 := Lib.hid (hst.out.ch hp hcc)
                    have e9 : (debt + x != debt + x) = false := by simp
                    clear hst hp hcc
                    go_wp2_with fail
                    refine (K.debt s4.out.pa).mono ?_
                    rintro e w5 ⟨rfl, hb5⟩
                    have s5 := Lib.hid (s4.out.keep K hb5)
                    clear hb5
                    go_wp2
                    go_roundw
                    case rel => exact ⟨i + 1, by omega, by omega, by go_num, _, rfl, s5⟩
                    case measure => simp [intOf]; omega
        · by_cases hl1 : i < len
          · have d1 : decide ((i : Int) < (len : Int)) = true := by simp; omega
            have d2 : decide ((i : Int) < 100) = false := by simp; omega
            go_wp2
            go_ret
            exact ⟨rfl, hst.out.bel⟩
          · have d1 : decide ((i : Int) < (len : Int)) = false := by simp; omega
            go_wp2
            go_ret
            exact ⟨rfl, hst.out.bel⟩
    · rw [show clampK k = k by unfold clampK; omega] at NW
      clear c0 c1
      go_enter Try.func8, Try.ntmps8
      go_wp2_with fail
      refine NW.mono ?_
      clear NW
      rintro e w1 ⟨p, F, rfl, hp, hF, hb⟩
      have hs := Lib.hid (PS.mk hp hb hF)
      clear hp hb hF
      go_wp2
      go_loopw [7, 8] (fun v s wr => ∃ i : Nat, i ≤ len ∧ i ≤ 100 ∧ s = .int .i64 i ∧ ∃ debt, v = .int .i64 debt ∧ Hid (PS PA w wr p k debt F)) (fun _ s _ => 100 - (intOf s).toNat)
      case atStart => exact ⟨0, by omega, by omega, rfl, 0, rfl, hs⟩
      case round =>
        clear hs
        obtain ⟨i, hi, hi2, rfl, debt, rfl, hst⟩ := hrel
        obtain ⟨_, _, b0, b1⟩ := K.bd hst.out.pa
        by_cases hlt : i < len ∧ i < 100
        · obtain ⟨g, off, x, rfl, ⟨x0, x1⟩, cx⟩ := HA.out _ hst.out.bel i hlt.1
          have d1 : decide ((i : Int) < (len : Int)) = true := by simp; omega
          have d2 : decide ((i : Int) < 100) = true := by simp; omega
          have p0 : (0 : Int) ≤ (i : Int) := by omega
          have p1 : (i : Int) < (len : Int) := by omega
          have hm : Int.tmod (i : Int) 4 = ((i % 4 : Nat) : Int) := by rw [show (4 : Int) = ((4 : Nat) : Int) from rfl, ← Int.ofNat_tmod]
          have wm : IntKind.i64.wrap ((i % 4 : Nat) : Int) = ((i % 4 : Nat) : Int) := by rw [IntKind.wrap_i64]; omega
          obtain ⟨t, ht⟩ : ∃ t, t = i % 4 := ⟨_, rfl⟩
          rw [← ht] at hm wm
          by_cases t3 : t = 3
          · have e3 : (((t : Nat) : Int) == 3) = true := by simp; omega
            clear ht t3
            by_cases ha : 1048576 < x
            · have hh : held x = 1048576 := by unfold held; omega
              have ws : IntKind.i64.wrap (debt - 1048576) = debt - 1048576 := by rw [IntKind.wrap_i64]; omega
              have w0 : IntKind.i64.wrap debt = debt := by rw [IntKind.wrap_i64]; omega
              have P := K.did x hst.out.pa x0 x1
              by_cases hc : 0 > debt - 1048576
              · have e : didD debt x = 0 := by unfold didD; rw [hh]; omega
                rw [e] at P
                clear e
                replace hh := Lib.hid hh
                go_wp2_with fail
                refine P.mono ?_
                clear P
                rintro e w4 ⟨rfl, hp, hcc⟩
                have s4 := Lib.hid (hst.out.ch hp hcc)
                clear hst hp hcc
                go_wp2_with fail
                refine (K.debt s4.out.pa).mono ?_
                rintro e w5 ⟨rfl, hb5⟩
                have s5 := Lib.hid (s4.out.keep K hb5)
                clear hb5
                go_wp2
                go_roundw
                case rel => exact ⟨i + 1, by omega, by omega, by go_num, _, rfl, s5⟩
                case measure => simp [intOf]; omega
              · have e : didD debt x = debt - 1048576 := by unfold didD; rw [hh]; omega
                rw [e] at P
                clear e
                replace hh := Lib.hid hh
                go_wp2_with fail
                refine P.mono ?_
                clear P
                rintro e w4 ⟨rfl, hp, hcc⟩
                have s4 := Lib.hid (hst.out.ch hp hcc)
                clear hst hp hcc
                go_wp2_with fail
                refine (K.debt s4.out.pa).mono ?_
                rintro e w5 ⟨rfl, hb5⟩
                have s5 := Lib.hid (s4.out.keep K hb5)
                clear hb5
                go_wp2
                go_roundw
                case rel => exact ⟨i + 1, by omega, by omega, by go_num, _, rfl, s5⟩
                case measure => simp [intOf]; omega
            · by_cases hb : 0 > x
              · have hh : held x = 0 := by unfold held; omega
                have ws : IntKind.i64.wrap (debt - 0) = debt - 0 := by rw [IntKind.wrap_i64]; omega
                have w0 : IntKind.i64.wrap debt = debt := by rw [IntKind.wrap_i64]; omega
                have P := K.did x hst.out.pa x0 x1
                by_cases hc : 0 > debt
                · have e : didD debt x = 0 := by unfold didD; rw [hh]; omega
                  rw [e] at P
                  clear e
                  replace hh := Lib.hid hh
                  go_wp2_with fail
                  refine P.mono ?_
                  clear P
                  rintro e w4 ⟨rfl, hp, hcc⟩
                  have s4 := Lib.hid (hst.out.ch hp hcc)
                  clear hst hp hcc
                  go_wp2_with fail
                  refine (K.debt s4.out.pa).mono ?_
                  rintro e w5 ⟨rfl, hb5⟩
                  have s5 := Lib.hid (s4.out.keep K hb5)
                  clear hb5
                  go_wp2
                  go_roundw
                  case rel => exact ⟨i + 1, by omega, by omega, by go_num, _, rfl, s5⟩
                  case measure => simp [intOf]; omega
                · have e : didD debt x = debt := by unfold didD; rw [hh]; omega
                  rw [e] at P
                  clear e
                  replace hh := Lib.hid hh
                  go_wp2_with fail
                  refine P.mono ?_
                  clear P
                  rintro e w4 ⟨rfl, hp, hcc⟩
                  have s4 := Lib.hid (hst.out.ch hp hcc)
                  clear hst hp hcc
                  go_wp2_with fail
                  refine (K.debt s4.out.pa).mono ?_
                  rintro e w5 ⟨rfl, hb5⟩
                  have s5 := Lib.hid (s4.out.keep K hb5)
                  clear hb5
                  go_wp2
                  go_roundw
                  case rel => exact ⟨i + 1, by omega, by omega, by go_num, _, rfl, s5⟩
                  case measure => simp [intOf]; omega
              · have hh : held x = x := by unfold held; omega
                have ws : IntKind.i64.wrap (debt - x) = debt - x := by rw [IntKind.wrap_i64]; omega
                have w0 : IntKind.i64.wrap debt = debt := by rw [IntKind.wrap_i64]; omega
                have P := K.did x hst.out.pa x0 x1
                by_cases hc : 0 > debt - x
                · have e : didD debt x = 0 := by unfold didD; rw [hh]; omega
                  rw [e] at P
                  clear e
                  replace hh := Lib.hid hh
                  go_wp2_with fail
                  refine P.mono ?_
                  clear P
                  rintro e w4 ⟨rfl, hp, hcc⟩
                  have s4 := Lib.hid (hst.out.ch hp hcc)
                  clear hst hp hcc
                  go_wp2_with fail
                  refine (K.debt s4.out.pa).mono ?_
                  rintro e w5 ⟨rfl, hb5⟩
                  have s5 := Lib.hid (s4.out.keep K hb5)
                  clear hb5
                  go_wp2
                  go_roundw
                  case rel => exact ⟨i + 1, by omega, by omega, by go_num, _, rfl, s5⟩
                  case measure => simp [intOf]; omega
                · have e : didD debt x = debt - x := by unfold didD; rw [hh]; omega
                  rw [e] at P
                  clear e
                  replace hh := Lib.hid hh
                  go_wp2_with fail
                  refine P.mono ?_
                  clear P
                  rintro e w4 ⟨rfl, hp, hcc⟩
                  have s4 := Lib.hid (hst.out.ch hp hcc)
                  clear hst hp hcc
                  go_wp2_with fail
                  refine (K.debt s4.out.pa).mono ?_
                  rintro e w5 ⟨rfl, hb5⟩
                  have s5 := Lib.hid (s4.out.keep K hb5)
                  clear hb5
                  go_wp2
                  go_roundw
                  case rel => exact ⟨i + 1, by omega, by omega, by go_num, _, rfl, s5⟩
                  case measure => simp [intOf]; omega
          · have e3 : (((t : Nat) : Int) == 3) = false := by simp; omega
            by_cases t2 : t = 2
            · have e2 : (((t : Nat) : Int) == 2) = true := by simp; omega
              clear ht t3 t2
              obtain ⟨r, hr, r0, r1, _⟩ := tmod_split x 5 (by omega)
              by_cases hr0 : r = 0
              · have e5 : (r == 0) = true := by simp [hr0]
                clear hr0
                go_wp2_with fail
                refine (K.rest hst.out.pa).mono ?_
                rintro e w4 ⟨rfl, hp, hcc⟩
                have s4 := Lib.hid (hst.out.ch hp hcc)
                clear hst hp hcc
                go_wp2_with fail
                refine (K.debt s4.out.pa).mono ?_
                rintro e w5 ⟨rfl, hb5⟩
                have s5 := Lib.hid (s4.out.keep K hb5)
                clear hb5
                go_wp2
                go_roundw
                case rel => exact ⟨i + 1, by omega, by omega, by go_num, _, rfl, s5⟩
                case measure => simp [intOf]; omega
              · have e5 : (r == 0) = false := by simpa using hr0
                clear hr0
                go_wp2_with fail
                refine (K.debt hst.out.pa).mono ?_
                rintro e w5 ⟨rfl, hb5⟩
                have s5 := Lib.hid (hst.out.keep K hb5)
                clear hb5
                go_wp2
                go_roundw
                case rel => exact ⟨i + 1, by omega, by omega, by go_num, _, rfl, s5⟩
                case measure => simp [intOf]; omega
            · have e2 : (((t : Nat) : Int) == 2) = false := by simp; omega
              clear ht t3 t2
              by_cases ha : 1048576 < x
              · have hh : held x = 1048576 := by unfold held; omega
                obtain ⟨q0, q1⟩ := prod_bd (k := k) (h := 1048576) (by omega) (by omega) (by omega)
                obtain ⟨P, hP⟩ : ∃ P : Int, (k : Int) * 1048576 = P := ⟨_, rfl⟩
                rw [hP] at q0 q1
                have wp : IntKind.i64.wrap P = P := by rw [IntKind.wrap_i64]; omega
                have wd : IntKind.i64.wrap (debt + P) = debt + P := by rw [IntKind.wrap_i64]; omega
                have G := K.give x hst.out.pa x0 x1
                by_cases hc : 1099511627776 < debt + P
                · have e : giveD k debt x = 1099511627776 := by unfold giveD; rw [hh, hP]; omega
                  rw [e] at G
                  clear e
                  replace hh := Lib.hid hh
                  go_wp2_with fail
                  refine G.mono ?_
                  clear G
                  rintro e w4 ⟨rfl, hp, hcc⟩
                  have s4 := Lib.hid (hst.out.ch hp hcc)
                  clear hst hp hcc
                  go_wp2_with fail
                  refine (K.debt s4.out.pa).mono ?_
                  rintro e w5 ⟨rfl, hb5⟩
                  have s5 := Lib.hid (s4.out.keep K hb5)
                  clear hb5
                  go_wp2
                  go_roundw
                  case rel => exact ⟨i + 1, by omega, by omega, by go_num, _, rfl, s5⟩
                  case measure => simp [intOf]; omega
                · have e : giveD k debt x = debt + P := by unfold giveD; rw [hh, hP]; omega
                  rw [e] at G
                  clear e
                  replace hh := Lib.hid hh
                  go_wp2_with fail
                  refine G.mono ?_
                  clear G
                  rintro e w4 ⟨rfl, hp, hcc⟩
                  have s4 := Lib.hid (hst.out.ch hp hcc)
                  have e9 : (debt + P != debt + P) = false := by simp
                  clear hst hp hcc
                  go_wp2_with fail
                  refine (K.debt s4.out.pa).mono ?_
                  rintro e w5 ⟨rfl, hb5⟩
                  have s5 := Lib.hid (s4.out.keep K hb5)
                  clear hb5
                  go_wp2
                  go_roundw
                  case rel => exact ⟨i + 1, by omega, by omega, by go_num, _, rfl, s5⟩
                  case measure => simp [intOf]; omega
              · by_cases hb : 0 > x
                · have hh : held x = 0 := by unfold held; omega
                  have wd : IntKind.i64.wrap debt = debt := by rw [IntKind.wrap_i64]; omega
                  have G := K.give x hst.out.pa x0 x1
                  by_cases hc : 1099511627776 < debt
                  · have e : giveD k debt x = 1099511627776 := by unfold giveD; rw [hh, Int.mul_zero]; omega
                    rw [e] at G
                    clear e
                    replace hh := Lib.hid hh
                    go_wp2_with fail
                    refine G.mono ?_
                    clear G
                    rintro e w4 ⟨rfl, hp, hcc⟩
                    have s4 := Lib.hid (hst.out.ch hp hcc)
                    clear hst hp hcc
                    go_wp2_with fail
                    refine (K.debt s4.out.pa).mono ?_
                    rintro e w5 ⟨rfl, hb5⟩
                    have s5 := Lib.hid (s4.out.keep K hb5)
                    clear hb5
                    go_wp2
                    go_roundw
                    case rel => exact ⟨i + 1, by omega, by omega, by go_num, _, rfl, s5⟩
                    case measure => simp [intOf]; omega
                  · have e : giveD k debt x = debt := by unfold giveD; rw [hh, Int.mul_zero]; omega
                    rw [e] at G
                    clear e
                    replace hh := Lib.hid hh
                    go_wp2_with fail
                    refine G.mono ?_
                    clear G
                    rintro e w4 ⟨rfl, hp, hcc⟩
                    have s4 := Lib.hid (hst.out.ch hp hcc)
                    have e9 : (debt != debt) = false := by simp
                    clear hst hp hcc
                    go_wp2_with fail
                    refine (K.debt s4.out.pa).mono ?_
                    rintro e w5 ⟨rfl, hb5⟩
                    have s5 := Lib.hid (s4.out.keep K hb5)
                    clear hb5
                    go_wp2
                    go_roundw
                    case rel => exact ⟨i + 1, by omega, by omega, by go_num, _, rfl, s5⟩
                    case measure => simp [intOf]; omega
                · have hh : held x = x := by unfold held; omega
                  obtain ⟨q0, q1⟩ := prod_bd (k := k) (h := x) (by omega) (by omega) (by omega)
                  obtain ⟨P, hP⟩ : ∃ P : Int, (k : Int) * x = P := ⟨_, rfl⟩
                  rw [hP] at q0 q1
                  have wp : IntKind.i64.wrap P = P := by rw [IntKind.wrap_i64]; omega
                  have wd : IntKind.i64.wrap (debt + P) = debt + P := by rw [IntKind.wrap_i64]; omega
                  have G := K.give x hst.out.pa x0 x1
                  by_cases hc : 1099511627776 < debt + P
                  · have e : giveD k debt x = 1099511627776 := by unfold giveD; rw [hh, hP]; omega
                    rw [e] at G
                    clear e
                    replace hh := Lib.hid hh
                    go_wp2_with fail
                    refine G.mono ?_
                    clear G
                    rintro e w4 ⟨rfl, hp, hcc⟩
                    have s4 := Lib.hid (hst.out.ch hp hcc)
                    clear hst hp hcc
                    go_wp2_with fail
                    refine (K.debt s4.out.pa).mono ?_
                    rintro e w5 ⟨rfl, hb5⟩
                    have s5 := Lib.hid (s4.out.keep K hb5)
                    clear hb5
                    go_wp2
                    go_roundw
                    case rel => exact ⟨i + 1, by omega, by omega, by go_num, _, rfl, s5⟩
                    case measure => simp [intOf]; omega
                  · have e : giveD k debt x = debt + P := by unfold giveD; rw [hh, hP]; omega
                    rw [e] at G
                    clear e
                    replace hh := Lib.hid hh
                    go_wp2_with fail
                    refine G.mono ?_
                    clear G
                    rintro e w4 ⟨rfl, hp, hcc⟩
                    have s4 := Lib.hid (hst.out.ch hp hcc)
                    have e9 : (debt + P != debt + P) = false := by simp
                    clear hst hp hcc
                    go_wp2_with fail
                    refine (K.debt s4.out.pa).mono ?_
                    rintro e w5 ⟨rfl, hb5⟩
                    have s5 := Lib.hid (s4.out.keep K hb5)
                    clear hb5
                    go_wp2
                    go_roundw
                    case rel => exact ⟨i + 1, by omega, by omega, by go_num, _, rfl, s5⟩
                    case measure => simp [intOf]; omega
        · by_cases hl1 : i < len
          · have d1 : decide ((i : Int) < (len : Int)) = true := by simp; omega
            have d2 : decide ((i : Int) < 100) = false := by simp; omega
            go_wp2
            go_ret
            exact ⟨rfl, hst.out.bel⟩
          · have d1 : decide ((i : Int) < (len : Int)) = false := by simp; omega
            go_wp2
            go_ret
            exact ⟨rfl, hst.out.bel⟩
end Wd
end Go.Proofs.Ytgbhhejoglpboaa
