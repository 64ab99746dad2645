/- What the laws ask of a pace, whoever keeps it: PaceRest, PaceDebt, PaceSum. -/
import Derived.Test.YtgbhhejoglpboaaPPlay
namespace Go.Proofs.Ytgbhhejoglpboaa
open Go.RowKit
set_option linter.unusedVariables false
namespace Wd
theorem i64_and3 (n : Int) : bits .and .i64 n 3 = n % 4 := by
  have hm : (BitVec.ofInt 64 3).toNat = 2 ^ 2 - 1 := by decide
  have key : (BitVec.ofInt 64 n &&& BitVec.ofInt 64 3).toNat = (n % ((2 ^ 64 : Nat) : Int)).toNat % 2 ^ 2 := by
    rw [BitVec.toNat_and, BitVec.toNat_ofInt, hm, Nat.and_two_pow_sub_one_eq_mod]
  show IntKind.i64.wrap ((BitVec.ofInt 64 n &&& BitVec.ofInt 64 3).toNat : Nat) = n % 4
  rw [IntKind.wrap_i64, key]
  omega
theorem i64_and7 (n : Int) : bits .and .i64 n 7 = n % 8 := by
  have hm : (BitVec.ofInt 64 7).toNat = 2 ^ 3 - 1 := by decide
  have key : (BitVec.ofInt 64 n &&& BitVec.ofInt 64 7).toNat = (n % ((2 ^ 64 : Nat) : Int)).toNat % 2 ^ 3 := by
    rw [BitVec.toNat_and, BitVec.toNat_ofInt, hm, Nat.and_two_pow_sub_one_eq_mod]
  show IntKind.i64.wrap ((BitVec.ofInt 64 n &&& BitVec.ofInt 64 7).toNat : Nat) = n % 8
  rw [IntKind.wrap_i64, key]
  omega
theorem i64_and15 (n : Int) : bits .and .i64 n 15 = n % 16 := by
  have hm : (BitVec.ofInt 64 15).toNat = 2 ^ 4 - 1 := by decide
  have key : (BitVec.ofInt 64 n &&& BitVec.ofInt 64 15).toNat = (n % ((2 ^ 64 : Nat) : Int)).toNat % 2 ^ 4 := by
    rw [BitVec.toNat_and, BitVec.toNat_ofInt, hm, Nat.and_two_pow_sub_one_eq_mod]
  show IntKind.i64.wrap ((BitVec.ofInt 64 n &&& BitVec.ofInt 64 15).toNat : Nat) = n % 16
  rw [IntKind.wrap_i64, key]
  omega
theorem i64_and31 (n : Int) : bits .and .i64 n 31 = n % 32 := by
  have hm : (BitVec.ofInt 64 31).toNat = 2 ^ 5 - 1 := by decide
  have key : (BitVec.ofInt 64 n &&& BitVec.ofInt 64 31).toNat = (n % ((2 ^ 64 : Nat) : Int)).toNat % 2 ^ 5 := by
    rw [BitVec.toNat_and, BitVec.toNat_ofInt, hm, Nat.and_two_pow_sub_one_eq_mod]
  show IntKind.i64.wrap ((BitVec.ofInt 64 n &&& BitVec.ofInt 64 31).toNat : Nat) = n % 32
  rw [IntKind.wrap_i64, key]
  omega
theorem i64_and63 (n : Int) : bits .and .i64 n 63 = n % 64 := by
  have hm : (BitVec.ofInt 64 63).toNat = 2 ^ 6 - 1 := by decide
  have key : (BitVec.ofInt 64 n &&& BitVec.ofInt 64 63).toNat = (n % ((2 ^ 64 : Nat) : Int)).toNat % 2 ^ 6 := by
    rw [BitVec.toNat_and, BitVec.toNat_ofInt, hm, Nat.and_two_pow_sub_one_eq_mod]
  show IntKind.i64.wrap ((BitVec.ofInt 64 n &&& BitVec.ofInt 64 63).toNat : Nat) = n % 64
  rw [IntKind.wrap_i64, key]
  omega
theorem i64_and127 (n : Int) : bits .and .i64 n 127 = n % 128 := by
  have hm : (BitVec.ofInt 64 127).toNat = 2 ^ 7 - 1 := by decide
  have key : (BitVec.ofInt 64 n &&& BitVec.ofInt 64 127).toNat = (n % ((2 ^ 64 : Nat) : Int)).toNat % 2 ^ 7 := by
    rw [BitVec.toNat_and, BitVec.toNat_ofInt, hm, Nat.and_two_pow_sub_one_eq_mod]
  show IntKind.i64.wrap ((BitVec.ofInt 64 n &&& BitVec.ofInt 64 127).toNat : Nat) = n % 128
  rw [IntKind.wrap_i64, key]
  omega
/-- two paces of the package's, of the call's own, apart: what the first one owes; the second one owes nothing -/
structure Two (PA : PAt) (w0 wr : World) (p p2 : Nat) (k d : Int) (F F2 : Nat → Prop) : Prop where
  ps : PS PA w0 wr p k d F
  pb : PA wr p2 k 0 F2
  dis : ∀ b, F b → F2 b → False
  f2 : ∀ b, F2 b → w0.heap.size ≤ b
/-- the same, when the second one owes as much as e -/
def Duo (PA : PAt) (w0 wr : World) (p p2 : Nat) (k d e : Int) (F F2 : Nat → Prop) : Prop := PS PA w0 wr p k d F ∧ PA wr p2 k e F2 ∧ (∀ b, F b → F2 b → False) ∧ ∀ b, F2 b → w0.heap.size ≤ b
section
variable {PA : PAt} {w0 wr w1 : World} {p p2 : Nat} {k d d' e e' : Int} {F F2 : Nat → Prop}
theorem Two.ch (K : PaceK PA) (h : Two PA w0 wr p p2 k d F F2) (hp : PA w1 p k d' F) (c : Ch F wr w1) : Two PA w0 w1 p p2 k d' F F2 :=
  ⟨h.ps.ch hp c, K.keep h.pb (fun b hb => c.block b (K.lt h.pb b hb) (fun hF => h.dis b hF hb)), h.dis, h.f2⟩
theorem Two.chb (K : PaceK PA) (h : Two PA w0 wr p p2 k d F F2) (hp : PA w1 p2 k e F2) (c : Ch F2 wr w1) : Duo PA w0 w1 p p2 k d e F F2 :=
  ⟨⟨K.keep h.ps.pa (fun b hb => c.block b (K.lt h.ps.pa b hb) (fun hF => h.dis b hb hF)), h.ps.bel.trans ⟨c.os, c.tape, c.output, c.size, fun b hb => c.block b (Nat.lt_of_lt_of_le hb h.ps.bel.size) (fun hF => by have := h.f2 b hF; omega)⟩, h.ps.fF⟩, hp, h.dis, h.f2⟩
theorem Duo.keep (K : PaceK PA) (h : Duo PA w0 wr p p2 k d e F F2) (g : Below wr.heap.size wr w1) : Duo PA w0 w1 p p2 k d e F F2 :=
  ⟨h.1.keep K g, K.keep h.2.1 (fun b hb => g.block b (K.lt h.2.1 b hb)), h.2.2⟩
theorem Duo.ch (K : PaceK PA) (h : Duo PA w0 wr p p2 k d e F F2) (hp : PA w1 p k d' F) (c : Ch F wr w1) : Duo PA w0 w1 p p2 k d' e F F2 :=
  ⟨h.1.ch hp c, K.keep h.2.1 (fun b hb => c.block b (K.lt h.2.1 b hb) (fun hF => h.2.2.1 b hF hb)), h.2.2⟩
end
set_option maxHeartbeats 16000000 in
theorem rest_any {PA : PAt} (K : PaceK PA) (k : Int) (j0 : -9223372036854775808 ≤ k) (j1 : k ≤ 9223372036854775807) (ad : Option Addr) (len cap : Nat) (w : World) (HA : Nums w ad len) (_hlen : len ≤ maxLen) :
    Calls Try.prog 7 #[.int .i64 k, .slice ad len cap] w fun e w' => e = .returned (.bool true) ∧ Below w.heap.size w w' := by
  replace HA := Lib.hid HA
  obtain ⟨c0, c1⟩ := clamp_bd k
  have NW := K.new (w := w) k j0 j1
  generalize clampK k = n at *
  go_enter Try.func7, Try.ntmps7
  go_wp2_with fail
  refine NW.mono ?_
  clear NW
  rintro e w1 ⟨p, F, rfl, hp, hF, hb⟩
  have hs := Lib.hid (PS.mk hp hb hF)
  clear hp hb hF
  go_wp2
  go_loopw [6] (fun s wr => ∃ i : Nat, i ≤ len ∧ i ≤ 40 ∧ s = .int .i64 i ∧ Hid (PS PA w wr p n 0 F)) (fun s _ => 40 - (intOf s).toNat)
  case atStart => exact ⟨0, by omega, by omega, rfl, hs⟩
  case round =>
    clear hs
    obtain ⟨i, hi, hi2, rfl, hst⟩ := hrel
    by_cases hlt : i < len ∧ i < 40
    · obtain ⟨g, off, x, rfl, ⟨x0, x1⟩, cx0⟩ := HA.out w (Below.refl _ _) i hlt.1
      have hg := World.block_lt_of_cell? w _ cx0
      have CX : Hid (∀ wX, Below w.heap.size w wX → wX.cell? ⟨g, off + i, none⟩ = some (.int .i64 x)) := Lib.hid (fun wX hX => (hX.cell hg).trans cx0)
      have cx := CX.out _ hst.out.bel
      clear cx0 hg
      have d1 : decide ((i : Int) < (len : Int)) = true := by simp; omega
      have d2 : decide ((i : Int) < 40) = true := by simp; omega
      have p0 : (0 : Int) ≤ (i : Int) := by omega
      have p1 : (i : Int) < (len : Int) := by omega
      obtain ⟨b, hb, b0, b1⟩ : ∃ q : Int, bits .and .i64 x 63 = q ∧ 0 ≤ q ∧ q ≤ 63 := ⟨_, rfl, by rw [i64_and63]; omega, by rw [i64_and63]; omega⟩
      obtain ⟨c, hc, c0, c1⟩ : ∃ q : Int, bits .and .i64 x 7 = q ∧ 0 ≤ q ∧ q ≤ 7 := ⟨_, rfl, by rw [i64_and7]; omega, by rw [i64_and7]; omega⟩
      obtain ⟨q0, q1⟩ := prod_bd (k := n) (h := b) (by omega) (by omega) (by omega)
      obtain ⟨a, ha, a0, a1⟩ : ∃ a : Int, giveD n 0 b = a ∧ 0 ≤ a ∧ a ≤ 1008 := ⟨_, rfl, by unfold giveD held; rw [show max (min b 1048576) 0 = b by omega]; omega, by unfold giveD held; rw [show max (min b 1048576) 0 = b by omega]; omega⟩
      have z0 : giveD n 0 0 = 0 := by unfold giveD held; rw [show max (min (0 : Int) 1048576) 0 = 0 by omega, Int.mul_zero]; omega
      have wa : IntKind.i64.wrap (a + 1) = a + 1 := by rw [IntKind.wrap_i64]; omega
      have wc : IntKind.i64.wrap (a + 1 + c) = a + 1 + c := by rw [IntKind.wrap_i64]; omega
      have zd : didD a (a + 1 + c) = 0 := by unfold didD held; omega
      obtain ⟨t, ht, tt⟩ : ∃ t : Int, Int.tmod (i : Int) 2 = t ∧ (t = 0 ∨ t = 1) := ⟨_, rfl, by rw [show (2 : Int) = ((2 : Nat) : Int) from rfl, ← Int.ofNat_tmod]; omega⟩
      have P := K.give b hst.out.pa (by omega) (by omega)
      rw [ha] at P
      clear q0 q1
      replace ha := Lib.hid ha
      go_wp2_with fail
      refine P.mono ?_
      clear P
      rintro e w2 ⟨rfl, hp, hcc⟩
      have s2 := Lib.hid (hst.out.ch hp hcc)
      clear hst hp hcc
      rcases tt with rfl | rfl
      · go_wp2_with fail
        refine (K.rest s2.out.pa).mono ?_
        rintro e w3 ⟨rfl, hp, hcc⟩
        have s3 := Lib.hid (s2.out.ch hp hcc)
        clear s2 hp hcc
        go_wp2_with fail
        refine (K.debt s3.out.pa).mono ?_
        rintro e w4 ⟨rfl, hb⟩
        have s4 := Lib.hid (s3.out.keep K hb)
        clear s3 hb
        have P := K.give 0 s4.out.pa (by omega) (by omega)
        rw [show giveD n 0 0 = 0 from z0] at P
        go_wp2_with fail
        refine P.mono ?_
        clear P
        rintro e w5 ⟨rfl, hp, hcc⟩
        have s5 := Lib.hid (s4.out.ch hp hcc)
        clear s4 hp hcc
        go_wp2
        go_roundw
        case rel => exact ⟨i + 1, by omega, by omega, by go_num, s5⟩
        case measure => simp [intOf]; omega
      · have cx2 := CX.out _ s2.out.bel
        have P := K.did (a + 1 + c) s2.out.pa (by omega) (by omega)
        rw [show didD a (a + 1 + c) = 0 from zd] at P
        go_wp2_with fail
        refine P.mono ?_
        clear P
        rintro e w3 ⟨rfl, hp, hcc⟩
        have s3 := Lib.hid (s2.out.ch hp hcc)
        clear s2 hp hcc
        go_wp2_with fail
        refine (K.debt s3.out.pa).mono ?_
        rintro e w4 ⟨rfl, hb⟩
        have s4 := Lib.hid (s3.out.keep K hb)
        clear s3 hb
        have P := K.give 0 s4.out.pa (by omega) (by omega)
        rw [show giveD n 0 0 = 0 from z0] at P
        go_wp2_with fail
        refine P.mono ?_
        clear P
        rintro e w5 ⟨rfl, hp, hcc⟩
        have s5 := Lib.hid (s4.out.ch hp hcc)
        clear s4 hp hcc
        go_wp2
        go_roundw
        case rel => exact ⟨i + 1, by omega, by omega, by go_num, s5⟩
        case measure => simp [intOf]; omega
    · have hbel := Lib.hid hst.out.bel
      clear hst
      by_cases hl1 : i < len
      · have d1 : decide ((i : Int) < (len : Int)) = true := by simp; omega
        have d2 : decide ((i : Int) < 40) = false := by simp; omega
        go_wp2_with fail
        refine (known_c K _).mono ?_
        rintro e wd ⟨rfl, hd⟩
        have hb2 := Lib.hid (hbel.out.trans (hd.mono hbel.out.size))
        clear hd
        go_wp2
        go_ret
        exact ⟨rfl, hb2.out⟩
      · have d1 : decide ((i : Int) < (len : Int)) = false := by simp; omega
        go_wp2_with fail
        refine (known_c K _).mono ?_
        rintro e wd ⟨rfl, hd⟩
        have hb2 := Lib.hid (hbel.out.trans (hd.mono hbel.out.size))
        clear hd
        go_wp2
        go_ret
        exact ⟨rfl, hb2.out⟩
set_option maxHeartbeats 16000000 in
theorem debt_any {PA : PAt} (K : PaceK PA) (k : Int) (j0 : -9223372036854775808 ≤ k) (j1 : k ≤ 9223372036854775807) (ad : Option Addr) (len cap : Nat) (w : World) (HA : Nums w ad len) (_hlen : len ≤ maxLen) :
    Calls Try.prog 5 #[.int .i64 k, .slice ad len cap] w fun e w' => e = .returned (.bool true) ∧ Below w.heap.size w w' := by
  replace HA := Lib.hid HA
  obtain ⟨a, ha, a0, a1⟩ : ∃ q : Int, bits .and .i64 k 15 = q ∧ 0 ≤ q ∧ q ≤ 15 := ⟨_, rfl, by rw [i64_and15]; omega, by rw [i64_and15]; omega⟩
  obtain ⟨n, hn, n1, n2⟩ : ∃ n : Int, 1 + a = n ∧ 1 ≤ n ∧ n ≤ 16 := ⟨_, rfl, by omega, by omega⟩
  have wn : IntKind.i64.wrap n = n := by rw [IntKind.wrap_i64]; omega
  have NW := K.new (w := w) n (by omega) (by omega)
  rw [show clampK n = n by unfold clampK; omega] at NW
  go_enter Try.func5, Try.ntmps5
  go_wp2_with fail
  refine NW.mono ?_
  clear NW
  rintro e w1 ⟨p, F, rfl, hp, hF, hb⟩
  have hs := Lib.hid (PS.mk hp hb hF)
  clear hp hb hF
  go_wp2
  go_loopw [7] (fun s wr => ∃ i : Nat, i ≤ len ∧ i ≤ 60 ∧ s = .int .i64 i ∧ Hid (PS PA w wr p n 0 F)) (fun s _ => 60 - (intOf s).toNat)
  case atStart => exact ⟨0, by omega, by omega, rfl, hs⟩
  case round =>
    clear hs
    obtain ⟨i, hi, hi2, rfl, hst⟩ := hrel
    by_cases hlt : i < len ∧ i < 60
    · obtain ⟨g, off, x, rfl, ⟨x0, x1⟩, cx0⟩ := HA.out w (Below.refl _ _) i hlt.1
      have hg := World.block_lt_of_cell? w _ cx0
      have CX : Hid (∀ wX, Below w.heap.size w wX → wX.cell? ⟨g, off + i, none⟩ = some (.int .i64 x)) := Lib.hid (fun wX hX => (hX.cell hg).trans cx0)
      have cx := CX.out _ hst.out.bel
      clear cx0 hg
      have d1 : decide ((i : Int) < (len : Int)) = true := by simp; omega
      have d2 : decide ((i : Int) < 60) = true := by simp; omega
      have p0 : (0 : Int) ≤ (i : Int) := by omega
      have p1 : (i : Int) < (len : Int) := by omega
      obtain ⟨c, hc, c0, c1⟩ : ∃ q : Int, bits .and .i64 x 3 = q ∧ 0 ≤ q ∧ q ≤ 3 := ⟨_, rfl, by rw [i64_and3]; omega, by rw [i64_and3]; omega⟩
      by_cases hcc0 : c = 0
      · subst hcc0
        have e0 : giveD n 0 4 = n * 4 := by unfold giveD held; rw [show max (min (4 : Int) 1048576) 0 = 4 by omega]; omega
        have e1 : didD (n * 4) (n * 4) = 0 := by unfold didD held; omega
        have wp : IntKind.i64.wrap (n * 4) = n * 4 := by rw [IntKind.wrap_i64]; omega
        have e2 : (n * 4 != n * 4) = false := by simp
        have P := K.give 4 hst.out.pa (by omega) (by omega)
        rw [e0] at P
        clear e0
        go_wp2_with fail
        refine P.mono ?_
        clear P
        rintro e w2 ⟨rfl, hp, hcc⟩
        have s2 := Lib.hid (hst.out.ch hp hcc)
        clear hst hp hcc
        have P := K.did (n * 4) s2.out.pa (by omega) (by omega)
        rw [e1] at P
        clear e1
        go_wp2_with fail
        refine P.mono ?_
        clear P
        rintro e w3 ⟨rfl, hp, hcc⟩
        have s3 := Lib.hid (s2.out.ch hp hcc)
        clear s2 hp hcc
        go_wp2_with fail
        refine (K.debt s3.out.pa).mono ?_
        rintro e w4 ⟨rfl, hb⟩
        have s4 := Lib.hid (s3.out.keep K hb)
        clear s3 hb
        go_wp2
        go_roundw
        case rel => exact ⟨i + 1, by omega, by omega, by go_num, s4⟩
        case measure => simp [intOf]; omega
      · by_cases hcc1 : c = 1
        · subst hcc1
          have e0 : giveD n 0 8 = n * 8 := by unfold giveD held; rw [show max (min (8 : Int) 1048576) 0 = 8 by omega]; omega
          have e1 : didD (n * 8) (n * 8) = 0 := by unfold didD held; omega
          have wp : IntKind.i64.wrap (n * 8) = n * 8 := by rw [IntKind.wrap_i64]; omega
          have e2 : (n * 8 != n * 8) = false := by simp
          have P := K.give 8 hst.out.pa (by omega) (by omega)
          rw [e0] at P
          clear e0
          go_wp2_with fail
          refine P.mono ?_
          clear P
          rintro e w2 ⟨rfl, hp, hcc⟩
          have s2 := Lib.hid (hst.out.ch hp hcc)
          clear hst hp hcc
          have P := K.did (n * 8) s2.out.pa (by omega) (by omega)
          rw [e1] at P
          clear e1
          go_wp2_with fail
          refine P.mono ?_
          clear P
          rintro e w3 ⟨rfl, hp, hcc⟩
          have s3 := Lib.hid (s2.out.ch hp hcc)
          clear s2 hp hcc
          go_wp2_with fail
          refine (K.debt s3.out.pa).mono ?_
          rintro e w4 ⟨rfl, hb⟩
          have s4 := Lib.hid (s3.out.keep K hb)
          clear s3 hb
          go_wp2
          go_roundw
          case rel => exact ⟨i + 1, by omega, by omega, by go_num, s4⟩
          case measure => simp [intOf]; omega
        · by_cases hcc2 : c = 2
          · subst hcc2
            have e0 : giveD n 0 16 = n * 16 := by unfold giveD held; rw [show max (min (16 : Int) 1048576) 0 = 16 by omega]; omega
            have e1 : didD (n * 16) (n * 16) = 0 := by unfold didD held; omega
            have wp : IntKind.i64.wrap (n * 16) = n * 16 := by rw [IntKind.wrap_i64]; omega
            have e2 : (n * 16 != n * 16) = false := by simp
            have P := K.give 16 hst.out.pa (by omega) (by omega)
            rw [e0] at P
            clear e0
            go_wp2_with fail
            refine P.mono ?_
            clear P
            rintro e w2 ⟨rfl, hp, hcc⟩
            have s2 := Lib.hid (hst.out.ch hp hcc)
            clear hst hp hcc
            have P := K.did (n * 16) s2.out.pa (by omega) (by omega)
            rw [e1] at P
            clear e1
            go_wp2_with fail
            refine P.mono ?_
            clear P
            rintro e w3 ⟨rfl, hp, hcc⟩
            have s3 := Lib.hid (s2.out.ch hp hcc)
            clear s2 hp hcc
            go_wp2_with fail
            refine (K.debt s3.out.pa).mono ?_
            rintro e w4 ⟨rfl, hb⟩
            have s4 := Lib.hid (s3.out.keep K hb)
            clear s3 hb
            go_wp2
            go_roundw
            case rel => exact ⟨i + 1, by omega, by omega, by go_num, s4⟩
            case measure => simp [intOf]; omega
          · have hcc3 : c = 3 := by omega
            subst hcc3
            have e0 : giveD n 0 32 = n * 32 := by unfold giveD held; rw [show max (min (32 : Int) 1048576) 0 = 32 by omega]; omega
            have e1 : didD (n * 32) (n * 32) = 0 := by unfold didD held; omega
            have wp : IntKind.i64.wrap (n * 32) = n * 32 := by rw [IntKind.wrap_i64]; omega
            have e2 : (n * 32 != n * 32) = false := by simp
            have P := K.give 32 hst.out.pa (by omega) (by omega)
            rw [e0] at P
            clear e0
            go_wp2_with fail
            refine P.mono ?_
            clear P
            rintro e w2 ⟨rfl, hp, hcc⟩
            have s2 := Lib.hid (hst.out.ch hp hcc)
            clear hst hp hcc
            have P := K.did (n * 32) s2.out.pa (by omega) (by omega)
            rw [e1] at P
            clear e1
            go_wp2_with fail
            refine P.mono ?_
            clear P
            rintro e w3 ⟨rfl, hp, hcc⟩
            have s3 := Lib.hid (s2.out.ch hp hcc)
            clear s2 hp hcc
            go_wp2_with fail
            refine (K.debt s3.out.pa).mono ?_
            rintro e w4 ⟨rfl, hb⟩
            have s4 := Lib.hid (s3.out.keep K hb)
            clear s3 hb
            go_wp2
            go_roundw
            case rel => exact ⟨i + 1, by omega, by omega, by go_num, s4⟩
            case measure => simp [intOf]; omega
    · have hbel := Lib.hid hst.out.bel
      clear hst
      by_cases hl1 : i < len
      · have d1 : decide ((i : Int) < (len : Int)) = true := by simp; omega
        have d2 : decide ((i : Int) < 60) = false := by simp; omega
        go_wp2_with fail
        refine (known_c K _).mono ?_
        rintro e wd ⟨rfl, hd⟩
        have hb2 := Lib.hid (hbel.out.trans (hd.mono hbel.out.size))
        clear hd
        go_wp2
        go_ret
        exact ⟨rfl, hb2.out⟩
      · have d1 : decide ((i : Int) < (len : Int)) = false := by simp; omega
        go_wp2_with fail
        refine (known_c K _).mono ?_
        rintro e wd ⟨rfl, hd⟩
        have hb2 := Lib.hid (hbel.out.trans (hd.mono hbel.out.size))
        clear hd
        go_wp2
        go_ret
        exact ⟨rfl, hb2.out⟩
set_option maxHeartbeats 16000000 in
theorem sum_any {PA : PAt} (K : PaceK PA) (k : Int) (j0 : -9223372036854775808 ≤ k) (j1 : k ≤ 9223372036854775807) (ad : Option Addr) (len cap : Nat) (w : World) (HA : Nums w ad len) (_hlen : len ≤ maxLen) :
    Calls Try.prog 6 #[.int .i64 k, .slice ad len cap] w fun e w' => e = .returned (.bool true) ∧ Below w.heap.size w w' := by
  replace HA := Lib.hid HA
  obtain ⟨c0, c1⟩ := clamp_bd k
  have NW : Hid (∀ wX, Calls Try.prog 10 #[.int .i64 k] wX fun e w' => ∃ p F, e = .returned (.pointer (some ⟨p, 0, none⟩)) ∧ PA w' p (clampK k) 0 F ∧ (∀ b, F b → wX.heap.size ≤ b) ∧ Below wX.heap.size wX w') := Lib.hid (fun wX => K.new k j0 j1)
  generalize clampK k = n at *
  go_enter Try.func6, Try.ntmps6
  go_wp2_with fail
  refine (NW.out _).mono ?_
  rintro e w1 ⟨p, F, rfl, hp, hF, hb⟩
  go_wp2_with fail
  refine (NW.out _).mono ?_
  rintro e w2 ⟨p2, F2, rfl, hp2, hF2, hb2⟩
  have hs := Lib.hid (show Two PA w w2 p p2 n 0 F F2 from ⟨PS.keep K ⟨hp, hb, hF⟩ hb2, hp2, fun b h1 h2 => by have := K.lt hp b h1; have := hF2 b h2; omega, fun b h => Nat.le_trans hb.size (hF2 b h)⟩)
  clear hp hF hb hp2 hF2 hb2 NW
  go_wp2
  go_loopw [7, 8] (fun v s wr => ∃ i : Nat, i ≤ len ∧ i ≤ 50 ∧ s = .int .i64 i ∧ ∃ S : Int, v = .int .i64 S ∧ 0 ≤ S ∧ S ≤ 127 * i ∧ Hid (Two PA w wr p p2 n (n * S) F F2)) (fun _ s _ => 50 - (intOf s).toNat)
  case atStart => exact ⟨0, by omega, by omega, rfl, 0, rfl, by omega, by omega, by rw [Int.mul_zero]; exact hs⟩
  case round =>
    clear hs
    obtain ⟨i, hi, hi2, rfl, S, rfl, S0, S1, hst⟩ := hrel
    by_cases hlt : i < len ∧ i < 50
    · obtain ⟨g, off, x, rfl, ⟨x0, x1⟩, cx0⟩ := HA.out w (Below.refl _ _) i hlt.1
      have hg := World.block_lt_of_cell? w _ cx0
      have CX : Hid (∀ wX, Below w.heap.size w wX → wX.cell? ⟨g, off + i, none⟩ = some (.int .i64 x)) := Lib.hid (fun wX hX => (hX.cell hg).trans cx0)
      have cx := CX.out _ hst.out.ps.bel
      clear cx0 hg
      have d1 : decide ((i : Int) < (len : Int)) = true := by simp; omega
      have d2 : decide ((i : Int) < 50) = true := by simp; omega
      have p0 : (0 : Int) ≤ (i : Int) := by omega
      have p1 : (i : Int) < (len : Int) := by omega
      obtain ⟨c, hc, c0, c1⟩ : ∃ q : Int, bits .and .i64 x 127 = q ∧ 0 ≤ q ∧ q ≤ 127 := ⟨_, rfl, by rw [i64_and127]; omega, by rw [i64_and127]; omega⟩
      obtain ⟨q0, q1⟩ := prod_bd (k := n) (h := S + c) (by omega) (by omega) (by omega)
      have e0 : giveD n (n * S) c = n * (S + c) := by unfold giveD held; rw [show max (min c 1048576) 0 = c by omega, ← Int.mul_add]; omega
      have wS : IntKind.i64.wrap (S + c) = S + c := by rw [IntKind.wrap_i64]; omega
      have P := K.give c hst.out.ps.pa (by omega) (by omega)
      rw [e0] at P
      clear e0 q0 q1
      go_wp2_with fail
      refine P.mono ?_
      clear P
      rintro e w3 ⟨rfl, hp, hcc⟩
      have s3 := Lib.hid (hst.out.ch K hp hcc)
      clear hst hp hcc
      have cx2 := CX.out _ s3.out.ps.bel
      go_wp2
      go_roundw
      case rel => exact ⟨i + 1, by omega, by omega, by go_num, S + c, rfl, by omega, by omega, s3⟩
      case measure => simp [intOf]; omega
    · obtain ⟨q0, q1⟩ := prod_bd (k := n) (h := S) (by omega) (by omega) (by omega)
      have e1 : giveD n 0 S = n * S := by unfold giveD held; rw [show max (min S 1048576) 0 = S by omega]; omega
      have e2 : didD (n * S) (n * S) = 0 := by unfold didD held; omega
      have G : Calls Try.prog 11 #[.pointer (some ⟨p2, 0, none⟩), .int .i64 S] _ _ := K.give S hst.out.pb (by omega) (by omega)
      rw [e1] at G
      have w6 : IntKind.i64.wrap (16 * S) = 16 * S := by rw [IntKind.wrap_i64]; omega
      have d3 : decide (n * S ≥ S) = true := by simpa using q0
      have d4 : decide (S ≤ n * S) = true := by simpa using q0
      have d5 : decide (n * S ≤ 16 * S) = true := by simpa using q1
      clear e1
      generalize n * S = X at *
      by_cases hl1 : i < len
      · have d1 : decide ((i : Int) < (len : Int)) = true := by simp; omega
        have d2 : decide ((i : Int) < 50) = false := by simp; omega
        go_wp2_with fail
        refine G.mono ?_
        clear G
        rintro e w4 ⟨rfl, hp, hcc⟩
        have s4 := Lib.hid (hst.out.chb K hp hcc)
        clear hst hp hcc
        go_wp2_with fail
        refine (K.debt s4.out.1.pa).mono ?_
        rintro e w5 ⟨rfl, hb⟩
        have s5 := Lib.hid (s4.out.keep K hb)
        clear s4 hb
        have D := K.did X s5.out.1.pa (by omega) (by omega)
        rw [e2] at D
        clear e2
        go_wp2_with fail
        refine D.mono ?_
        clear D
        rintro e w6 ⟨rfl, hp, hcc⟩
        have s6 := Lib.hid (s5.out.ch K hp hcc)
        clear s5 hp hcc
        go_wp2_with fail
        refine (K.debt s6.out.2.1).mono ?_
        rintro e w7 ⟨rfl, hb⟩
        have s7 := Lib.hid (s6.out.keep K hb)
        clear s6 hb
        have e4 : (X == X) = true := by simp
        go_wp2_with fail
        refine (K.debt s7.out.1.pa).mono ?_
        rintro e w8 ⟨rfl, hb⟩
        have hbel := Lib.hid (s7.out.keep K hb).1.bel
        clear s7 hb
        go_wp2_with fail
        refine (known_c K _).mono ?_
        rintro e wd ⟨rfl, hd⟩
        have hb2 := Lib.hid (hbel.out.trans (hd.mono hbel.out.size))
        clear hd
        go_wp2
        go_ret
        exact ⟨rfl, hb2.out⟩
      · have d1 : decide ((i : Int) < (len : Int)) = false := by simp; omega
        go_wp2_with fail
        refine G.mono ?_
        clear G
        rintro e w4 ⟨rfl, hp, hcc⟩
        have s4 := Lib.hid (hst.out.chb K hp hcc)
        clear hst hp hcc
        go_wp2_with fail
        refine (K.debt s4.out.1.pa).mono ?_
        rintro e w5 ⟨rfl, hb⟩
        have s5 := Lib.hid (s4.out.keep K hb)
        clear s4 hb
        have D := K.did X s5.out.1.pa (by omega) (by omega)
        rw [e2] at D
        clear e2
        go_wp2_with fail
        refine D.mono ?_
        clear D
        rintro e w6 ⟨rfl, hp, hcc⟩
        have s6 := Lib.hid (s5.out.ch K hp hcc)
        clear s5 hp hcc
        go_wp2_with fail
        refine (K.debt s6.out.2.1).mono ?_
        rintro e w7 ⟨rfl, hb⟩
        have s7 := Lib.hid (s6.out.keep K hb)
        clear s6 hb
        have e4 : (X == X) = true := by simp
        go_wp2_with fail
        refine (K.debt s7.out.1.pa).mono ?_
        rintro e w8 ⟨rfl, hb⟩
        have hbel := Lib.hid (s7.out.keep K hb).1.bel
        clear s7 hb
        go_wp2_with fail
        refine (known_c K _).mono ?_
        rintro e wd ⟨rfl, hd⟩
        have hb2 := Lib.hid (hbel.out.trans (hd.mono hbel.out.size))
        clear hd
        go_wp2
        go_ret
        exact ⟨rfl, hb2.out⟩
end Wd
end Go.Proofs.Ytgbhhejoglpboaa
