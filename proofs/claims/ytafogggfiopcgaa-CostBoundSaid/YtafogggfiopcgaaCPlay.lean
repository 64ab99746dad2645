/- What the laws ask of a meter: play. -/
import Derived.Test.YtafogggfiopcgaaCBounds
namespace Go.Proofs.Ytafogggfiopcgaa
open Go.RowKit
set_option linter.unusedVariables false
namespace Wd
/-- the numbers of a list that came in, in the world at hand and in any that only grew -/
def Nums (w0 : World) (ad : Option Addr) (len : Nat) : Prop := ∀ wr, Below w0.heap.size w0 wr → ∀ k, k < len → ∃ (g off : Nat) (x : Int), ad = some ⟨g, off, none⟩ ∧ (-9223372036854775808 ≤ x ∧ x ≤ 9223372036854775807) ∧ wr.cell? ⟨g, off + k, none⟩ = some (.int .i64 x)
set_option maxHeartbeats 16000000 in
set_option maxRecDepth 20000 in
theorem play_any {CA : CAt} (K : CostK CA) (ad : Option Addr) (len cap : Nat) (w : World) (HA : Nums w ad len) (hlen : len ≤ maxLen) :
    Calls Try.prog 9 #[.slice ad len cap] w fun e w' => e = .returned (.bool true) ∧ Below w.heap.size w w' := by
  have htop : top = 1152921504606846976 := rfl
  replace HA := Lib.hid HA
  go_enter Try.func9, Try.ntmps9
  go_wp2_with fail
  refine K.new.mono ?_
  rintro e w1 ⟨p, F, rfl, hp, hF, hb⟩
  have hs : CS CA w w1 p 0 0 0 F := ⟨hp, hb, hF⟩
  replace hs := Lib.hid hs
  clear hp hF hb
  go_wp2
  go_loopw [4, 5, 6, 7] (fun a b c s wr => ∃ i : Nat, i ≤ len ∧ i ≤ 100 ∧ s = .int .i64 i ∧ ∃ t l m : Int, a = .int .i64 t ∧ b = .int .i64 l ∧ c = .int .i64 m ∧ t ≤ 1048576 * (i : Int) ∧ Hid (CS CA w wr p t l m F)) (fun _ _ _ s _ => 100 - (intOf s).toNat)
  case atStart => exact ⟨0, by omega, by omega, rfl, 0, 0, 0, rfl, rfl, rfl, by omega, hs⟩
  case round =>
    clear hs
    obtain ⟨i, hi, hi2, rfl, t, l, m, rfl, rfl, rfl, tb, hst⟩ := hrel
    obtain ⟨l0, lt, tt, m0, m1⟩ := K.bd hst.out.ca
    rw [htop] at tt m1
    by_cases hlt : i < len ∧ i < 100
    · obtain ⟨g, off, x, rfl, ⟨x0, x1⟩, cx0⟩ := HA.out w (Below.refl _ _) i hlt.1
      have hg := World.block_lt_of_cell? w _ cx0
      have CX : Hid (∀ wX, Below w.heap.size w wX → wX.cell? ⟨g, off + i, none⟩ = some (.int .i64 x)) := Lib.hid (fun wX hX => (hX.cell hg).trans cx0)
      have cx := CX.out _ hst.out.bel
      clear cx0 hg
      have d1 : decide ((i : Int) < (len : Int)) = true := by simp; omega
      have d2 : decide ((i : Int) < 100) = true := by simp; omega
      have p1 : (i : Int) < (len : Int) := by omega
      have hw : IntKind.i64.wrap ((i : Int) + 1) = (i : Int) + 1 := by rw [IntKind.wrap_i64]; omega
      have hm : Int.tmod (i : Int) 3 = ((i % 3 : Nat) : Int) := by rw [show (3 : Int) = ((3 : Nat) : Int) from rfl, ← Int.ofNat_tmod]
      obtain ⟨h0, h1⟩ := held_bd x
      have P := K.add x hst.out.ca ⟨x0, x1⟩ (by rw [htop]; omega)
      obtain ⟨r, hr⟩ : ∃ r, r = i % 3 := ⟨_, rfl⟩
      rw [← hr] at hm
      clear hr
      by_cases ha : 1048576 < x
      · have hh : held x = 1048576 := by unfold held; omega
        have wt : IntKind.i64.wrap (t + 1048576) = t + 1048576 := by rw [IntKind.wrap_i64]; omega
        rw [hh] at P
        have tb2 : t + 1048576 ≤ 1048576 * ((i + 1 : Nat) : Int) := by omega
        have tl2 : l ≤ t + 1048576 := by omega
        have tt2 : t + 1048576 ≤ 1152921504606846976 := by omega
        clear hh h0 h1
        go_wp2_with fail
        refine P.mono ?_
        clear P
        rintro e w2 ⟨rfl, hp, hc⟩
        have s2 := Lib.hid (hst.out.ch hp hc)
        clear hst hp hc cx
        have cx := CX.out _ s2.out.bel
        by_cases r2 : r = 2
        · have e2 : ((r : Int) == 2) = true := by simp; omega
          clear r2
          go_wp2_with fail
          refine (K.mark s2.out.ca).mono ?_
          rintro e w3 ⟨rfl, hp, hc⟩
          have s3 := s2.out.ch hp hc
          clear s2 hp hc cx
          have wl : IntKind.i64.wrap (t + 1048576 - l) = t + 1048576 - l := by rw [IntKind.wrap_i64]; omega
          generalize t + 1048576 = T at *
          clear wt
          by_cases hx : m < T - l
          · have hx' : T - l > m := hx
            have em : max m (T - l) = T - l := by omega
            rw [em] at s3
            replace s3 := Lib.hid s3
            clear em
            go_wp2_with fail
            refine (K.total s3.out.ca).mono ?_
            rintro e w4 ⟨rfl, hb4⟩
            have s4 := Lib.hid (s3.out.keep K hb4)
            clear s3 hb4
            go_wp2_with fail
            refine (K.most s4.out.ca).mono ?_
            rintro e w5 ⟨rfl, hb5⟩
            have s5 := Lib.hid (s4.out.keep K hb5)
            clear s4 hb5
            go_wp2
            go_roundw
            case rel => exact ⟨i + 1, by omega, by omega, by go_num, _, _, _, rfl, rfl, rfl, tb2, s5⟩
            case measure => simp [intOf]; omega
          · have hx' : ¬ (T - l > m) := hx
            have em : max m (T - l) = m := by omega
            rw [em] at s3
            replace s3 := Lib.hid s3
            clear em
            go_wp2_with fail
            refine (K.total s3.out.ca).mono ?_
            rintro e w4 ⟨rfl, hb4⟩
            have s4 := Lib.hid (s3.out.keep K hb4)
            clear s3 hb4
            go_wp2_with fail
            refine (K.most s4.out.ca).mono ?_
            rintro e w5 ⟨rfl, hb5⟩
            have s5 := Lib.hid (s4.out.keep K hb5)
            clear s4 hb5
            go_wp2
            go_roundw
            case rel => exact ⟨i + 1, by omega, by omega, by go_num, _, _, _, rfl, rfl, rfl, tb2, s5⟩
            case measure => simp [intOf]; omega

        · have e2 : ((r : Int) == 2) = false := by simp; omega
          clear r2
          go_wp2_with fail
          generalize t + 1048576 = T at *
          clear wt
          refine (K.total s2.out.ca).mono ?_
          rintro e w4 ⟨rfl, hb4⟩
          have s4 := Lib.hid (s2.out.keep K hb4)
          clear s2 hb4
          go_wp2_with fail
          refine (K.most s4.out.ca).mono ?_
          rintro e w5 ⟨rfl, hb5⟩
          have s5 := Lib.hid (s4.out.keep K hb5)
          clear s4 hb5
          go_wp2
          go_roundw
          case rel => exact ⟨i + 1, by omega, by omega, by go_num, _, _, _, rfl, rfl, rfl, tb2, s5⟩
          case measure => simp [intOf]; omega

      · by_cases hb : 0 > x
        · have hh : held x = 0 := by unfold held; omega
          rw [hh, show t + 0 = t by omega] at P
          have wt : IntKind.i64.wrap t = t := by rw [IntKind.wrap_i64]; omega
          have tb2 : t ≤ 1048576 * ((i + 1 : Nat) : Int) := by omega
          have tl2 : l ≤ t := by omega
          have tt2 : t ≤ 1152921504606846976 := by omega
          clear hh h0 h1
          go_wp2_with fail
          refine P.mono ?_
          clear P
          rintro e w2 ⟨rfl, hp, hc⟩
          have s2 := Lib.hid (hst.out.ch hp hc)
          clear hst hp hc cx
          have cx := CX.out _ s2.out.bel
          by_cases r2 : r = 2
          · have e2 : ((r : Int) == 2) = true := by simp; omega
            clear r2
            go_wp2_with fail
            refine (K.mark s2.out.ca).mono ?_
            rintro e w3 ⟨rfl, hp, hc⟩
            have s3 := s2.out.ch hp hc
            clear s2 hp hc cx
            have wl : IntKind.i64.wrap (t - l) = t - l := by rw [IntKind.wrap_i64]; omega
            generalize t = T at *
            clear wt
            by_cases hx : m < T - l
            · have hx' : T - l > m := hx
              have em : max m (T - l) = T - l := by omega
              rw [em] at s3
              replace s3 := Lib.hid s3
              clear em
              go_wp2_with fail
              refine (K.total s3.out.ca).mono ?_
              rintro e w4 ⟨rfl, hb4⟩
              have s4 := Lib.hid (s3.out.keep K hb4)
              clear s3 hb4
              go_wp2_with fail
              refine (K.most s4.out.ca).mono ?_
              rintro e w5 ⟨rfl, hb5⟩
              have s5 := Lib.hid (s4.out.keep K hb5)
              clear s4 hb5
              go_wp2
              go_roundw
              case rel => exact ⟨i + 1, by omega, by omega, by go_num, _, _, _, rfl, rfl, rfl, tb2, s5⟩
              case measure => simp [intOf]; omega
            · have hx' : ¬ (T - l > m) := hx
              have em : max m (T - l) = m := by omega
              rw [em] at s3
              replace s3 := Lib.hid s3
              clear em
              go_wp2_with fail
              refine (K.total s3.out.ca).mono ?_
              rintro e w4 ⟨rfl, hb4⟩
              have s4 := Lib.hid (s3.out.keep K hb4)
              clear s3 hb4
              go_wp2_with fail
              refine (K.most s4.out.ca).mono ?_
              rintro e w5 ⟨rfl, hb5⟩
              have s5 := Lib.hid (s4.out.keep K hb5)
              clear s4 hb5
              go_wp2
              go_roundw
              case rel => exact ⟨i + 1, by omega, by omega, by go_num, _, _, _, rfl, rfl, rfl, tb2, s5⟩
              case measure => simp [intOf]; omega

          · have e2 : ((r : Int) == 2) = false := by simp; omega
            clear r2
            go_wp2_with fail
            generalize t = T at *
            clear wt
            refine (K.total s2.out.ca).mono ?_
            rintro e w4 ⟨rfl, hb4⟩
            have s4 := Lib.hid (s2.out.keep K hb4)
            clear s2 hb4
            go_wp2_with fail
            refine (K.most s4.out.ca).mono ?_
            rintro e w5 ⟨rfl, hb5⟩
            have s5 := Lib.hid (s4.out.keep K hb5)
            clear s4 hb5
            go_wp2
            go_roundw
            case rel => exact ⟨i + 1, by omega, by omega, by go_num, _, _, _, rfl, rfl, rfl, tb2, s5⟩
            case measure => simp [intOf]; omega

        · have hh : held x = x := by unfold held; omega
          have wt : IntKind.i64.wrap (t + x) = t + x := by rw [IntKind.wrap_i64]; omega
          rw [hh] at P
          have tb2 : t + x ≤ 1048576 * ((i + 1 : Nat) : Int) := by omega
          have tl2 : l ≤ t + x := by omega
          have tt2 : t + x ≤ 1152921504606846976 := by omega
          clear hh h0 h1
          go_wp2_with fail
          refine P.mono ?_
          clear P
          rintro e w2 ⟨rfl, hp, hc⟩
          have s2 := Lib.hid (hst.out.ch hp hc)
          clear hst hp hc cx
          have cx := CX.out _ s2.out.bel
          by_cases r2 : r = 2
          · have e2 : ((r : Int) == 2) = true := by simp; omega
            clear r2
            go_wp2_with fail
            refine (K.mark s2.out.ca).mono ?_
            rintro e w3 ⟨rfl, hp, hc⟩
            have s3 := s2.out.ch hp hc
            clear s2 hp hc cx
            have wl : IntKind.i64.wrap (t + x - l) = t + x - l := by rw [IntKind.wrap_i64]; omega
            generalize t + x = T at *
            clear wt
            by_cases hx : m < T - l
            · have hx' : T - l > m := hx
              have em : max m (T - l) = T - l := by omega
              rw [em] at s3
              replace s3 := Lib.hid s3
              clear em
              go_wp2_with fail
              refine (K.total s3.out.ca).mono ?_
              rintro e w4 ⟨rfl, hb4⟩
              have s4 := Lib.hid (s3.out.keep K hb4)
              clear s3 hb4
              go_wp2_with fail
              refine (K.most s4.out.ca).mono ?_
              rintro e w5 ⟨rfl, hb5⟩
              have s5 := Lib.hid (s4.out.keep K hb5)
              clear s4 hb5
              go_wp2
              go_roundw
              case rel => exact ⟨i + 1, by omega, by omega, by go_num, _, _, _, rfl, rfl, rfl, tb2, s5⟩
              case measure => simp [intOf]; omega
            · have hx' : ¬ (T - l > m) := hx
              have em : max m (T - l) = m := by omega
              rw [em] at s3
              replace s3 := Lib.hid s3
              clear em
              go_wp2_with fail
              refine (K.total s3.out.ca).mono ?_
              rintro e w4 ⟨rfl, hb4⟩
              have s4 := Lib.hid (s3.out.keep K hb4)
              clear s3 hb4
              go_wp2_with fail
              refine (K.most s4.out.ca).mono ?_
              rintro e w5 ⟨rfl, hb5⟩
              have s5 := Lib.hid (s4.out.keep K hb5)
              clear s4 hb5
              go_wp2
              go_roundw
              case rel => exact ⟨i + 1, by omega, by omega, by go_num, _, _, _, rfl, rfl, rfl, tb2, s5⟩
              case measure => simp [intOf]; omega

          · have e2 : ((r : Int) == 2) = false := by simp; omega
            clear r2
            go_wp2_with fail
            generalize t + x = T at *
            clear wt
            refine (K.total s2.out.ca).mono ?_
            rintro e w4 ⟨rfl, hb4⟩
            have s4 := Lib.hid (s2.out.keep K hb4)
            clear s2 hb4
            go_wp2_with fail
            refine (K.most s4.out.ca).mono ?_
            rintro e w5 ⟨rfl, hb5⟩
            have s5 := Lib.hid (s4.out.keep K hb5)
            clear s4 hb5
            go_wp2
            go_roundw
            case rel => exact ⟨i + 1, by omega, by omega, by go_num, _, _, _, rfl, rfl, rfl, tb2, s5⟩
            case measure => simp [intOf]; omega

    · by_cases hl1 : i < len
      · have d1 : decide ((i : Int) < (len : Int)) = true := by simp; omega
        have d2 : decide ((i : Int) < 100) = false := by simp; omega
        have hl2 : ¬ (i < 100) := by omega
        go_wp2
        go_ret
        exact ⟨rfl, hst.out.bel⟩
      · have d1 : decide ((i : Int) < (len : Int)) = false := by simp; omega
        go_wp2
        go_ret
        exact ⟨rfl, hst.out.bel⟩
end Wd
end Go.Proofs.Ytafogggfiopcgaa
