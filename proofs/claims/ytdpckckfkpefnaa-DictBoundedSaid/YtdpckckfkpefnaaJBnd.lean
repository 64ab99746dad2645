/- DictBounded, over what the laws ask of the package. -/
import Derived.Test.YtdpckckfkpefnaaJMap
import Derived.Test.YtdpckckfkpefnaaJShell
import Derived.Laws.Bits128
namespace Go.Proofs.Ytdpckckfkpefnaa
open Go.RowKit Go.Maps
set_option linter.unusedVariables false
set_option maxRecDepth 20000
namespace Wd
theorem NumA.up {w w1 : World} {ad : Option Addr} {n : Nat} (h : NumA w ad n) (b : Below w.heap.size w w1) : NumA w1 ad n := fun k hk => by
  obtain ⟨g, off, x, e, hx, c⟩ := h k hk
  exact ⟨g, off, x, e, hx, cell_up b c⟩
theorem and16 (n : Int) : ∃ s, bits .and .i64 n 65535 = s ∧ 0 ≤ s ∧ s ≤ 65535 := by
  refine ⟨_, rfl, ?_⟩
  have h127 : (BitVec.ofInt 64 65535).toNat = 2 ^ 16 - 1 := by decide
  have key : (BitVec.ofInt 64 n &&& BitVec.ofInt 64 65535).toNat = (n % ((2 ^ 64 : Nat) : Int)).toNat % 2 ^ 16 := by
    rw [BitVec.toNat_and, BitVec.toNat_ofInt, h127, Nat.and_two_pow_sub_one_eq_mod]
  show 0 ≤ IntKind.i64.wrap ((BitVec.ofInt 64 n &&& BitVec.ofInt 64 65535).toNat : Nat) ∧ IntKind.i64.wrap ((BitVec.ofInt 64 n &&& BitVec.ofInt 64 65535).toNat : Nat) ≤ 65535
  rw [key, IntKind.wrap_i64]
  omega
theorem rng_below {H : Type} {P : Program} {k : TypeId} {R : Value → Option (DataW H × List MemPlace)} {w w1 : World} {b r n cnt : Nat} {D : DataW H} {left : Lit → Bool} (h : w.ranges P k R b r n D left cnt) (g : Below w.heap.size w w1) : w1.ranges P k R b r n D left cnt :=
  h.kept (row := none) ⟨g.os, g.tape, g.output, g.size, fun i hi _ => g.block i hi⟩ (by simp) (by simp)
theorem PD.grown {DA : DAt} (K : DicK DA) {w0 wr w1 : World} {p r : Nat} {D : Dst} {F : Nat → Prop} (h : PD DA w0 wr p D F) (g : wr.grownBy w1 (some r)) (hr : ¬ F r) (hf : w0.heap.size ≤ r) : PD DA w0 w1 p D F :=
  ⟨K.keep h.da (fun k hk => g.block k (K.lt h.da k hk) (fun e => hr (by cases e; exact hk))), h.bel.grown g h.bel.size (fun k hk => by cases hk; exact hf), h.fF⟩
set_option maxHeartbeats 16000000 in
theorem bounded_any {DA : DAt} (K : DicK DA) {w : World} {ad : Option Addr} {n cap : Nat} (x : Int) (hx : I64 x) (HA : NumA w ad n) (hn : n ≤ 4611686018427387904) :
    Calls Try.prog 5 #[.slice ad n cap, .int .i64 x] w fun e w' => e = .returned (.bool true) ∧ Below w.heap.size w w' := by
  replace HA := Lib.hid HA
  have hmm := @run_makeMap Try.prog
  go_enter Try.func5, Try.ntmps5
  go_wp2_with (first | (go_at_call 11; ((with_reducible refine (new_s K _).mono ?_); rintro e1 w1 ⟨p, F, rfl, h0⟩)))
  have st0 : Hid (BdS DA w (w1.alloc (.map #[] 0)) p w1.heap.size 0 D0 F) := Lib.hid (BdS.start K h0 rfl)
  clear h0
  generalize w1.alloc (.map #[] 0) = wm at *
  generalize w1.heap.size = m at *
  go_loopw [7] (fun i7 wr => ∃ (k c : Nat) (D : Dst) (F : Nat → Prop), k ≤ n ∧ k ≤ 40 ∧ i7 = .int .i64 k ∧ Hid (BdS DA w wr p m c D F)) (fun i7 _ => 40 - (intOf i7).toNat)
  case atStart => exact ⟨0, 0, D0, F, by omega, by omega, rfl, st0⟩
  case round =>
    clear st0 hmm
    obtain ⟨k, c, D, F, hk, hk2, rfl, hS⟩ := hrel
    by_cases hlt : k < n ∧ k < 40
    · have d1 : decide ((k : Int) < (n : Int)) = true := by simp; omega
      have d2 : decide ((k : Int) < 40) = true := by simp; omega
      have p0 : (0 : Int) ≤ (k : Int) := by omega
      have p1 : (k : Int) < (n : Int) := by omega
      obtain ⟨g, off, y, rfl, iy, c0⟩ := (HA.out.up hS.out.pd.bel) k hlt.1
      obtain ⟨s, hs, s0, s1⟩ := and16 y
      have s64 : I64 s := ⟨by omega, by omega⟩
      have k64 : I64 (k : Int) := ⟨by omega, by omega⟩
      have hc := hS.out.le
      have hc2 : c < maxLen := by unfold maxLen; omega
      cases hb : putB D s with
      | true =>
        go_upto_if 39 with (first | (go_at_call 12; ((with_reducible refine (put_s K hS.out.pd s64 k64 hb rfl).mono ?_); rintro e w2 ⟨F', rfl, hpd, hch, hN⟩)))
        have hM := hS.out.mid hpd hch hN
        obtain ⟨w3, hrun, hm3, hg3, _⟩ := hM.mp.put hc2 s64 k64
        obtain ⟨c', hS2⟩ := BdM.told K hS.out s0 hb hM hm3 hg3
        clear hM hm3 hg3 hpd hch hN hS c0
        go_wp2_with fail
        go_roundw
        case rel => exact ⟨k + 1, c', _, F', by omega, by omega, by go_num, Lib.hid hS2⟩
        case measure => simp [intOf]; omega
      | false =>
        go_upto_if 39 with (first | (go_at_call 12; ((with_reducible refine (put_s K hS.out.pd s64 k64 hb rfl).mono ?_); rintro e w2 ⟨F', rfl, hpd, hch, hN⟩)))
        have hM := hS.out.mid hpd hch hN
        obtain ⟨hS2, hno⟩ := hS.out.off s0 hb hM
        have hrun := hS2.mp.look_ok s64
        rw [hno] at hrun
        simp only [Option.getD_none, Option.isSome_none] at hrun
        clear hM hpd hch hN hS c0
        go_wp2_with fail
        go_roundw
        case rel => exact ⟨k + 1, c, _, F', by omega, by omega, by go_num, Lib.hid hS2⟩
        case measure => simp [intOf]; omega
    · have hex : (k < n ∧ decide ((k : Int) < (n : Int)) = true ∧ decide ((k : Int) < 40) = false) ∨ (¬ k < n ∧ decide ((k : Int) < (n : Int)) = false) := by
        by_cases h1 : k < n
        · exact Or.inl ⟨h1, by simp; omega, by simp; omega⟩
        · exact Or.inr ⟨h1, by simp; omega⟩
      obtain ⟨d, hown, hsz, hD⟩ := hS.out.mp
      have hpd := Lib.hid hS.out.pd
      have hcn := hS.out.cn
      have hc16 := hS.out.le
      have hnf := hS.out.nf
      have hfm := hS.out.fm
      clear hS HA hlt
      rcases hex with ⟨q1, d1, d2⟩ | ⟨q1, d1⟩
      all_goals
        go_wp2_with (first
          | (at_range; refine wpList_range_own _ rfl _ 36 rfl 3 3 keyedI Try.underlying36 _ m c d rfl hown ?_; intro wq hrg0 hg0 hs0))
        go_frame
        have hr0 : Hid (w.heap.size ≤ wr.heap.size ∧ ¬ F wr.heap.size) := Lib.hid ⟨hpd.out.bel.size, fun hF => by have := K.lt hpd.out.da _ hF; omega⟩
        have hq0 : Hid (PD DA w wq p D F) := Lib.hid (hpd.out.keep K ⟨hg0.os, hg0.tape, hg0.output, hg0.size, fun i hi => hg0.block i hi (by simp)⟩)
        replace hrg0 := Lib.hid hrg0
        clear hown hg0 hs0 hpd
        generalize wr.heap.size = r at *
        go_loopw [11] (fun _ wx => ∃ (left : Lit → Bool) (ct : Nat), Hid (wx.ranges Try.prog 3 (plainElem Try.prog 3) m r c d left ct) ∧ Hid (PD DA w wx p D F)) (fun _ wx => wx.rangeLeft m r)
        case atStart => exact ⟨_, _, hrg0, hq0⟩
        case round =>
          clear hrg0 hq0
          obtain ⟨left, ct, hrg, hpd⟩ := hrel
          go_wp2_with (first
            | (at_next; refine wpList_next_ranges_ii _ rfl _ rfl 3 3 .i64 .i64 keyedI Try.underlying3 Try.underlying3 m r c _ _ _ rfl hrg.out ?_ ?_))
          · intro _ _
            have hmp : MapI _ m c (mapD D) := ⟨d, hrg.out.owns, hsz, hD⟩
            obtain ⟨v, y, hf⟩ : ∃ v y, findD D x = (v, y) := ⟨_, _, rfl⟩
            obtain ⟨f1, f2, f3⟩ := find_cnt D x
            rw [hf] at f1 f2 f3
            simp only at f1 f2 f3
            have g1 : decide (y ≥ 0) = true := by simp; omega
            have g2 : decide (y ≤ 4) = true := by simp; omega
            have g3 : (decide (y > 0) == decide (x ≥ 0)) = true := by rw [f3]; simp
            have g4 : decide ((c : Int) ≤ 16) = true := by simp; omega
            clear hrg
            go_wp2_with (first
              | (go_at_call 13; ((with_reducible refine (find_s K hpd.out hx hf).mono ?_); rintro e w3 ⟨rfl, hpd3, hb⟩; have hmp3 := hmp.same (hb.block m hmp.lt)))
              | (go_at_call 14; first
                | ((with_reducible refine (len_s K hpd4 hcn).mono ?_); rintro e w5 ⟨rfl, hpd5, hb5⟩)
                | ((with_reducible refine (len_s K hpd3 hcn).mono ?_); rintro e w4 ⟨rfl, hpd4, hb4⟩; have hl4 := fun ty => (hmp3.same (hb4.block m hmp3.lt)).len ty))
              | (go_at_call 9; ((with_reducible refine (known_c K _).mono ?_); rintro e w6 ⟨rfl, hb6⟩)))
            go_ret
            exact ⟨rfl, hpd5.bel.trans (hb6.mono hpd5.bel.size)⟩
          · intro s v w2 ct2 hws hwv hls hat hrg2 hlt2 hg2 hs2 hen
            have s64 := bounds_i64 hws
            obtain ⟨y, hf, y1, y4⟩ := mapD_at hD s64 hat
            have hpd2 := Lib.hid (hpd.out.grown K hg2 hr0.out.2 hr0.out.1)
            have e1 : decide (y < 1) = false := by simp; omega
            have e2 : decide (y > 4) = false := by simp; omega
            have hle := hrg.out.left_eq
            replace hrg2 := Lib.hid hrg2
            clear hrg hpd hat hls hws hwv hg2 hs2
            go_wp2_with (first | (go_at_call 13; ((with_reducible refine (find_s K hpd2.out s64 hf).mono ?_); rintro e w3 ⟨rfl, hpd3, hb⟩; have hrg3 := rng_below hrg2.out hb)))
            go_roundw
            case rel => exact ⟨_, _, Lib.hid hrg3, Lib.hid hpd3⟩
            case measure => rw [hrg3.left_eq, hle]; exact hlt2
end Wd
end Go.Proofs.Ytdpckckfkpefnaa
