/- What the laws ask of a dict: of. -/
import Derived.Test.YtdpckckfkpefnaaJPlay
namespace Go.Proofs.Ytdpckckfkpefnaa
open Go.RowKit
set_option linter.unusedVariables false
set_option maxRecDepth 20000
namespace Wd
set_option maxHeartbeats 16000000 in
theorem of_any {DA : DAt} (K : DicK DA) {w : World} {v : Value} {L : List (Int × Int)} (h : PrV w v L) :
    Calls Try.prog 8 #[v] w fun e w' => e = .returned (.bool true) ∧ Below w.heap.size w w' := by
  obtain ⟨ad, cap, rfl, hcap, hmx⟩ := h.form
  obtain ⟨n, hn⟩ : ∃ n, n = L.length := ⟨_, rfl⟩
  rw [← hn] at h hcap ⊢
  replace h := Lib.hid h
  have hn' := Lib.hid hn
  have hnm : n ≤ 9223372036854775807 := by have : maxLen ≤ 9223372036854775807 := by decide
                                           omega
  clear hmx hn
  go_enter Try.func8, Try.ntmps8
  go_wp2_with fail
  refine (K.of h.out).mono ?_
  rintro e w1 ⟨hO1, hB1⟩
  rcases hO1 with ⟨D, p, F, hD, rfl, hda, hF⟩ | ⟨hD, rfl⟩
  · have PR := rof_c (h.out.up hB1)
    replace hD := Lib.hid hD
    have hPD : Hid (PD DA w w1 p D F) := Lib.hid ⟨hda, hB1, hF⟩
    clear hda hF
    go_wp2_with fail
    refine PR.mono ?_
    clear PR
    rintro e w2 ⟨hO2, hB2⟩
    rcases hO2 with ⟨D2, b, hD2, rfl, hR, hb⟩ | ⟨hD2, rfl⟩
    · obtain rfl : D = D2 := by rw [hD.out] at hD2; exact Option.some.inj hD2
      have hS : Hid (PlS DA w w2 p b D F) := Lib.hid ⟨hPD.out.keep K hB2, hR, fun hF => by have := K.lt hPD.out.da b hF; omega, Nat.le_trans hB1.size hb⟩
      clear hR hb hD2 hPD hB2 hB1 hD
      obtain ⟨m, hm0⟩ : ∃ m, cnt D = m := ⟨_, rfl⟩
      have hm := Lib.hid hm0
      clear hm0
      go_upto_region 7 with (first | (go_at_call 14; ((with_reducible refine (len_s K hS.out.pd hm.out).mono ?_); rintro e y5 ⟨rfl, _, hb⟩; replace hS := Lib.hid (hS.out.keep K hb); clear hb)) | (go_at_call 19; ((with_reducible refine (count_c hS.out.ref).mono ?_); rintro e y6 ⟨he6, hw⟩; rw [hm.out] at he6; subst he6; subst y6)))
      go_wp2
      go_loopw [48] (fun i48 wr => ∃ k : Nat, k ≤ n ∧ i48 = .int .i64 k ∧ Hid (PlS DA w wr p b D F)) (fun i48 _ => n - (intOf i48).toNat)
      case atStart => exact ⟨0, by omega, rfl, hS⟩
      case round =>
        clear hS
        obtain ⟨k, hk, rfl, hS⟩ := hrel
        by_cases hlt : k < n
        · have d1 : decide ((k : Int) < (n : Int)) = true := by simp; omega
          have p0 : (0 : Int) ≤ (k : Int) := by omega
          have p1 : (k : Int) < (n : Int) := by omega
          obtain ⟨⟨bs, bm⟩, hx⟩ : ∃ x, L[k]? = some x := ⟨L[k]'(by have := hn'.out; omega), by simp⟩
          obtain ⟨s64, m64, g, off, rfl, c0, c1⟩ := (h.out.up hS.out.pd.bel).at hx
          simp only at s64 m64 c0 c1
          have hs := Lib.hid s64
          have hS0 := Lib.hid (hS.out.keep K ((Below.refl _ _).alloc (Nat.le_refl _) (.cells #[.int .i64 bs, .int .i64 bm] 27)))
          have hx0 : Hid ((wr.alloc (.cells #[.int .i64 bs, .int .i64 bm] 27)).cell? ⟨wr.heap.size, 0, none⟩ = some (.int .i64 bs)) := Lib.hid (by simp)
          obtain ⟨a1, a2, hf0⟩ : ∃ a1 a2, findD D bs = (a1, a2) := ⟨_, _, rfl⟩
          have hf := Lib.hid hf0
          clear hx s64 m64 hf0
          go_upto_region 10 with fail
          replace hS := hS0
          clear hS0 c0 c1
          generalize wr.alloc (.cells #[.int .i64 bs, .int .i64 bm] 27) = W at *
          generalize wr.heap.size = B at *
          have c0 := hx0.out
          go_wp2_with (first | (go_at_call 13; ((with_reducible refine (find_s K hS.out.pd hs.out hf.out).mono ?_); rintro e y5 ⟨rfl, _, hb⟩; have c5 := cell_up hb hx0.out; have hS2 := Lib.hid (hS.out.keep K hb); clear hb c0)) | (go_at_call 18; ((with_reducible refine (find_c hS2.out.ref bs hs.out).mono ?_); rintro e y6 ⟨he6, hw⟩; rw [hf.out] at he6; subst he6; subst y6)))
          go_roundw
          case rel => exact ⟨k + 1, by omega, by go_num, hS2⟩
          case measure => simp [intOf]; omega
        · have d1 : decide ((k : Int) < (n : Int)) = false := by simp; omega
          go_wp2
          go_ret
          exact ⟨rfl, hS.out.pd.bel⟩
    · rw [hD.out] at hD2; cases hD2
  · have PR := rof_c (h.out.up hB1)
    replace hD := Lib.hid hD
    go_wp2_with fail
    refine PR.mono ?_
    clear PR
    rintro e w2 ⟨hO2, hB2⟩
    rcases hO2 with ⟨D2, b, hD2, rfl, hR, hb⟩ | ⟨hD2, rfl⟩
    · rw [hD.out] at hD2; cases hD2
    · go_wp2
      go_ret
      exact ⟨rfl, hB1.trans (hB2.mono hB1.size)⟩
end Wd
end Go.Proofs.Ytdpckckfkpefnaa
