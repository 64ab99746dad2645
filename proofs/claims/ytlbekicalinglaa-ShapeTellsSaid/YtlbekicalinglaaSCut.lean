/- ShapeCut, over what the laws ask of the package. -/
import Derived.Test.YtlbekicalinglaaSTape
namespace Go.Proofs.Ytlbekicalinglaa
open Go.RowKit
set_option linter.unusedVariables false
set_option maxRecDepth 20000
namespace Wd
theorem tape_down {L : List ClassA} (h : TapeL L) {k : Nat} {c : ClassA} (hc : L[k]? = some c) : -1 ≤ c.super ∧ c.super < k := classOk_down (tape_cls h hc)
theorem chain_cut {L : List ClassA} (h : TapeL L) (k : Nat) : ∀ (f : Nat) (i : Int), i < k → chainR (L.take k) i f = chainR L i f
  | 0, _, _ => rfl
  | f + 1, i, hi => by
    unfold chainR
    by_cases h0 : 0 ≤ i
    · rw [if_pos h0, if_pos h0, List.getElem?_take, if_pos (by omega)]
      cases hc : L[i.toNat]? with
      | none => rfl
      | some c =>
        simp only
        obtain ⟨_, hs⟩ := tape_down h hc
        rw [chain_cut h k f c.super (by omega)]
    · rw [if_neg h0, if_neg h0]
set_option maxHeartbeats 16000000 in
theorem cut_any (K : ShapeK) {w : World} {ad : Option Addr} {n cap : Nat} (x : Int) (hx : In64 x) (HA : NumA w ad n) (hn : n ≤ 4611686018427387904) :
    Calls Try.prog 7 #[.slice ad n cap, .int .i64 x] w fun e w' => e = .returned (.bool true) ∧ Below w.heap.size w w' := by
  have P := Lib.hid (unit_c (tape_tp (cap := cap) HA hn))
  go_enter Try.func7, Try.ntmps7
  go_wp2_with fail
  refine P.out.mono ?_
  clear P
  rintro e w1 ⟨nv, cv, mv, ov, rfl, U, hU, hT, _, hcg⟩
  have hB := Lib.hid (unit_bel hcg)
  obtain ⟨⟨na, nm, nc, rfl⟩, ⟨ma, mm, mc, rfl⟩, ⟨oa, om, oc, rfl⟩⟩ := hU.forms
  have hv0 := hU.c
  have hTL := Lib.hid hT.tl
  clear hcg hU hT
  generalize U.classes = L at *
  obtain ⟨ca, cc, rfl, hcc, _⟩ := hv0.form
  obtain ⟨m, hm⟩ : ∃ m, m = L.length := ⟨_, rfl⟩
  rw [← hm] at hv0 hcc ⊢
  have hm5 : m ≤ 5 := by have := hTL.out.le; omega
  have hm' := Lib.hid hm
  have hv := Lib.hid hv0
  have PW := Lib.hid (within_c x 0 (m : Int) hx.1 hx.2 (by omega) (by omega) (by omega))
  have hka := within_bd x 0 (m : Int) (by omega)
  generalize within x 0 (m : Int) = kk at *
  obtain ⟨k, rfl⟩ : ∃ k : Nat, kk = (k : Int) := ⟨kk.toNat, by omega⟩
  have hkm : k ≤ m := by omega
  have hkc : (k : Int) ≤ (cc : Int) := by omega
  have k0 : (0 : Int) ≤ (k : Int) := by omega
  clear hm hv0 hka
  have z6 : In64 6 := in64_of (by omega) (by omega)
  have z9 : In64 9 := in64_of (by omega) (by omega)
  have hlen : Hid ((L.take k).length = k) := Lib.hid (by rw [List.length_take]; have := hm'.out; omega)
  have hfd := unit_f1 na ca ma oa nm m mm om nc cc mc oc 6 w1
  go_wp2_with (first | (go_at_call 14; ((with_reducible refine (PW.out _).mono ?_); rintro e w2 ⟨rfl, hw2⟩; subst w2; go_wp2_with fail)))
  have PR := K.right (hv.out.take k (by have := hm'.out; omega)) 6 9 z6 z9
  obtain ⟨r, hr⟩ : ∃ r, r = shapeR (L.take k) 6 9 := ⟨_, rfl⟩
  rw [← hr] at PR
  have hrk : Hid ((2 ≤ k → r = 0) ∧ (k < 2 → r = 3)) := Lib.hid ⟨fun h2 => by rw [hr]; exact tape_right (hTL.out.take k) (by have := hlen.out; omega), fun h2 => by rw [hr]; exact shape_short (Or.inl (by have := hlen.out; omega))⟩
  clear hr
  refine PR.mono ?_
  clear PR
  rintro e w2 ⟨rfl, hb⟩
  have hv2 := Lib.hid (hv.out.up hb)
  have hB2 := Lib.hid (hB.out.trans (hb.mono hB.out.size))
  clear hv hB hb
  go_wp2
  go_loopw [8] (fun i8 wr => ∃ i : Nat, i ≤ k ∧ i8 = .int .i64 i ∧ Hid (ClV wr (.slice ca m cc) L) ∧ Hid (Below w.heap.size w wr)) (fun i8 _ => k - (intOf i8).toNat)
  case atStart => exact ⟨0, by omega, rfl, hv2, hB2⟩
  case round =>
    clear hv2 hB2
    obtain ⟨i, hi, rfl, hv, hB⟩ := hrel
    have i64 : In64 (i : Int) := in64_of (by omega) (by omega)
    by_cases hik : i < k
    · have hik' : (i : Int) < (k : Int) := by omega
      have hch : chain (L.take k) (i : Int) = chain L (i : Int) := chain_cut hTL.out k 8 (i : Int) (by omega)
      have hcl := chain_len L (i : Int)
      go_wp2_with fail
      have PC := K.chn (hv.out.take k (by have := hm'.out; omega)) (i : Int) i64
      rw [hch] at PC
      refine PC.mono ?_
      clear PC hch
      rintro e w3 ⟨v3, rfl, hS3, hb⟩
      have hv3 := Lib.hid (hv.out.up hb)
      have hB3 := Lib.hid (hB.out.trans (hb.mono hB.out.size))
      clear hv hB hb
      go_wp2_with fail
      refine (K.chn hv3.out (i : Int) i64).mono ?_
      rintro e w4 ⟨v4, rfl, hS4, hb⟩
      have hS3' := hS3.up hb
      have hv := Lib.hid (hv3.out.up hb)
      have hB := Lib.hid (hB3.out.trans (hb.mono hB3.out.size))
      clear hv3 hB3 hb hS3
      have PS := same_ints (chain L (i : Int)) (chain L (i : Int)) _ _ w4 hS3' hS4 (by omega) (by omega)
      rw [decide_eq_true (rfl : chain L (i : Int) = chain L (i : Int))] at PS
      clear hS3' hS4 hcl
      go_wp2_with fail
      refine PS.mono ?_
      clear PS
      rintro e w5 ⟨rfl, q, hw5⟩
      have hb : Below w4.heap.size w4 w5 := by rw [hw5]; exact drewK _ _
      have hv5 := Lib.hid (hv.out.up hb)
      have hB5 := Lib.hid (hB.out.trans (hb.mono hB.out.size))
      clear hv hB hb hw5
      go_wp2_with fail
      go_roundw
      case rel => exact ⟨i + 1, by omega, by go_num, hv5, hB5⟩
      case measure => simp [intOf]; omega
    · by_cases h2 : 2 ≤ k
      · obtain rfl : r = 0 := hrk.out.1 h2
        have h2' : (2 : Int) ≤ (k : Int) := by omega
        have h2d : decide ((2 : Int) ≤ (k : Int)) = true := by simpa using h2'
        go_wp2_with fail
        refine (known_c K _).mono ?_
        rintro e w6 ⟨rfl, hb⟩
        have hB6 := Lib.hid (hB.out.trans (hb.mono hB.out.size))
        go_wp2
        go_ret
        exact ⟨rfl, hB6.out⟩
      · obtain rfl : r = 3 := hrk.out.2 (by omega)
        have h2' : ¬ (2 : Int) ≤ (k : Int) := by omega
        have h2d : decide ((2 : Int) ≤ (k : Int)) = false := by simpa using h2'
        go_wp2_with fail
        refine (known_c K _).mono ?_
        rintro e w6 ⟨rfl, hb⟩
        have hB6 := Lib.hid (hB.out.trans (hb.mono hB.out.size))
        go_wp2
        go_ret
        exact ⟨rfl, hB6.out⟩
end Wd
end Go.Proofs.Ytlbekicalinglaa
