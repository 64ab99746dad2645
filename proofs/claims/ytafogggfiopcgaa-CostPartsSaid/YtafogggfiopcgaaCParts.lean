/- What the laws ask of a meter: CostParts. -/
import Derived.Test.YtafogggfiopcgaaCBits
namespace Go.Proofs.Ytafogggfiopcgaa
open Go.RowKit
set_option linter.unusedVariables false
namespace Wd
set_option maxHeartbeats 16000000 in
set_option maxRecDepth 20000 in
theorem parts_any {CA : CAt} (K : CostK CA) (ad : Option Addr) (len cap : Nat) (w : World) (HA : Nums w ad len) (hlen : len ≤ maxLen) :
    Calls Try.prog 6 #[.slice ad len cap] w fun e w' => e = .returned (.bool true) ∧ Below w.heap.size w w' := by
  have htop : top = 1152921504606846976 := rfl
  replace HA := Lib.hid HA
  go_enter Try.func6, Try.ntmps6
  go_wp2_with fail
  refine K.new.mono ?_
  rintro e w1 ⟨p, F, rfl, hp, hF, hb⟩
  have hs : CS CA w w1 p 0 0 0 F := ⟨hp, hb, hF⟩
  replace hs := Lib.hid hs
  clear hp hF hb
  go_wp2
  go_loopw [4, 5, 6] (fun a b s wr => ∃ i : Nat, i ≤ len ∧ i ≤ 60 ∧ s = .int .i64 i ∧ ∃ t l m : Int, a = .int .i64 l ∧ b = .int .i64 m ∧ t ≤ 65535 * (i : Int) ∧ Hid (CS CA w wr p t l m F)) (fun _ _ s _ => 60 - (intOf s).toNat)
  case atStart => exact ⟨0, by omega, by omega, rfl, 0, 0, 0, rfl, rfl, by omega, hs⟩
  case round =>
    clear hs
    obtain ⟨i, hi, hi2, rfl, t, l, m, rfl, rfl, tb, hst⟩ := hrel
    obtain ⟨l0, lt, tt, m0, m1⟩ := K.bd hst.out.ca
    rw [htop] at tt m1
    by_cases hlt : i < len ∧ i < 60
    · obtain ⟨g, off, x, rfl, ⟨x0, x1⟩, cx0⟩ := HA.out w (Below.refl _ _) i hlt.1
      have hg := World.block_lt_of_cell? w _ cx0
      have CX : Hid (∀ wX, Below w.heap.size w wX → wX.cell? ⟨g, off + i, none⟩ = some (.int .i64 x)) := Lib.hid (fun wX hX => (hX.cell hg).trans cx0)
      have cx := CX.out _ hst.out.bel
      clear cx0 hg
      have d1 : decide ((i : Int) < (len : Int)) = true := by simp; omega
      have d2 : decide ((i : Int) < 60) = true := by simp; omega
      have p1 : (i : Int) < (len : Int) := by omega
      have hw : IntKind.i64.wrap ((i : Int) + 1) = (i : Int) + 1 := by rw [IntKind.wrap_i64]; omega
      obtain ⟨c, hc, c0, c1⟩ := msk (i64_and65535 x) (by omega)
      obtain ⟨y, hy, y0, y1⟩ := msk (i64_and1 x) (by omega)
      have hh : held c = c := by unfold held; omega
      have P := K.add c hst.out.ca ⟨by omega, by omega⟩ (by rw [htop, hh]; omega)
      rw [hh] at P
      clear hh
      have tb2 : t + c ≤ 65535 * ((i + 1 : Nat) : Int) := by omega
      go_wp2_with fail
      refine P.mono ?_
      clear P
      rintro e w2 ⟨rfl, hp, hc2⟩
      have s2 := Lib.hid (hst.out.ch hp hc2)
      clear hst hp hc2 cx
      have cx := CX.out _ s2.out.bel
      by_cases r2 : y = 0
      · have e2 : (y == 0) = true := by simp; omega
        clear r2
        go_wp2_with fail
        refine (K.mark s2.out.ca).mono ?_
        rintro e w3 ⟨rfl, hp, hc2⟩
        have s3 := s2.out.ch hp hc2
        clear s2 hp hc2 cx
        have wl : IntKind.i64.wrap (l + (t + c - l)) = t + c := by rw [IntKind.wrap_i64]; omega
        by_cases hx : m < t + c - l
        · have hx' : t + c - l > m := hx
          have em : max m (t + c - l) = t + c - l := by omega
          rw [em] at s3
          replace s3 := Lib.hid s3
          clear em
          go_wp2
          go_roundw
          case rel => exact ⟨i + 1, by omega, by omega, by go_num, _, _, _, rfl, rfl, tb2, s3⟩
          case measure => simp [intOf]; omega
        · have hx' : ¬ (t + c - l > m) := hx
          have em : max m (t + c - l) = m := by omega
          rw [em] at s3
          replace s3 := Lib.hid s3
          clear em
          go_wp2
          go_roundw
          case rel => exact ⟨i + 1, by omega, by omega, by go_num, _, _, _, rfl, rfl, tb2, s3⟩
          case measure => simp [intOf]; omega
      · have e2 : (y == 0) = false := by simp; omega
        clear r2
        go_wp2
        go_roundw
        case rel => exact ⟨i + 1, by omega, by omega, by go_num, _, _, _, rfl, rfl, tb2, s2⟩
        case measure => simp [intOf]; omega
    · have e1 : max m (t - l) ≥ m := by omega
      obtain ⟨mm, hmm, hm1, hm2⟩ : ∃ mm, max m (t - l) = mm ∧ m ≤ mm ∧ mm ≤ 1152921504606846976 := ⟨_, rfl, e1, by omega⟩
      have dm : decide (mm ≥ m) = true := by simpa using hm1
      have dm' : decide (m ≤ mm) = true := by simpa using hm1
      have wl : IntKind.i64.wrap (l + (t - l)) = t := by rw [IntKind.wrap_i64]; omega
      have emz : max mm (t - t) = mm := by omega
      clear e1
      have d : ¬ (i < len) ∨ (i < len ∧ ¬ (i < 60)) := by omega
      rcases d with q1 | ⟨q1, q2⟩
      · have d1 : decide ((i : Int) < (len : Int)) = false := by simp; omega
        go_wp2_with fail
        refine (K.mark hst.out.ca).mono ?_
        rintro e w3 ⟨rfl, hp, hc2⟩
        have s3 := hst.out.ch hp hc2
        rw [hmm] at s3
        replace s3 := Lib.hid s3
        clear hst hp hc2 hmm
        go_wp2_with fail
        refine (K.total s3.out.ca).mono ?_
        rintro e w4 ⟨rfl, hb4⟩
        have s4 := Lib.hid (s3.out.keep K hb4)
        clear s3 hb4
        go_wp2_with fail
        refine (K.most s4.out.ca).mono ?_
        rintro e w5 ⟨rfl, hb5⟩
        have s5 := Lib.hid (s4.out.keep K hb5)
        clear s4 hb5
        go_wp2_with fail
        have P := K.mark s5.out.ca
        rw [show t - t = 0 by omega] at P
        refine P.mono ?_
        clear P
        rintro e w6 ⟨rfl, hp, hc2⟩
        have s6 := Lib.hid (s5.out.ch hp hc2)
        clear s5 hp hc2
        go_wp2_with fail
        refine (known_any K w6).mono ?_
        rintro e w7 ⟨rfl, hbk⟩
        have hbl := Lib.hid (s6.out.bel.trans (hbk.mono s6.out.bel.size))
        clear s6 hbk
        go_wp2
        go_ret
        exact ⟨rfl, hbl.out⟩
      · have d1 : decide ((i : Int) < (len : Int)) = true := by simp; omega
        have d2 : decide ((i : Int) < 60) = false := by simp; omega
        go_wp2_with fail
        refine (K.mark hst.out.ca).mono ?_
        rintro e w3 ⟨rfl, hp, hc2⟩
        have s3 := hst.out.ch hp hc2
        rw [hmm] at s3
        replace s3 := Lib.hid s3
        clear hst hp hc2 hmm
        go_wp2_with fail
        refine (K.total s3.out.ca).mono ?_
        rintro e w4 ⟨rfl, hb4⟩
        have s4 := Lib.hid (s3.out.keep K hb4)
        clear s3 hb4
        go_wp2_with fail
        refine (K.most s4.out.ca).mono ?_
        rintro e w5 ⟨rfl, hb5⟩
        have s5 := Lib.hid (s4.out.keep K hb5)
        clear s4 hb5
        go_wp2_with fail
        have P := K.mark s5.out.ca
        rw [show t - t = 0 by omega] at P
        refine P.mono ?_
        clear P
        rintro e w6 ⟨rfl, hp, hc2⟩
        have s6 := Lib.hid (s5.out.ch hp hc2)
        clear s5 hp hc2
        go_wp2_with fail
        refine (known_any K w6).mono ?_
        rintro e w7 ⟨rfl, hbk⟩
        have hbl := Lib.hid (s6.out.bel.trans (hbk.mono s6.out.bel.size))
        clear s6 hbk
        go_wp2
        go_ret
        exact ⟨rfl, hbl.out⟩
end Wd
end Go.Proofs.Ytafogggfiopcgaa
