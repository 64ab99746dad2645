/- The landed dict: Of. -/
import Derived.Test.YtdpckckfkpefnaaDN
namespace Go.Proofs.Ytdpckckfkpefnaa
open Go.RowKit
set_option linter.unusedVariables false
set_option maxRecDepth 20000
namespace Wd
theorem D0_low : ∀ k, k < 16 → -1 ≤ selA D0 k := fun k hk => by
  rcases (show k = 0 ∨ k = 1 ∨ k = 2 ∨ k = 3 ∨ k = 4 ∨ k = 5 ∨ k = 6 ∨ k = 7 ∨ k = 8 ∨ k = 9 ∨ k = 10 ∨ k = 11 ∨ k = 12 ∨ k = 13 ∨ k = 14 ∨ k = 15 by omega) with rfl | rfl | rfl | rfl | rfl | rfl | rfl | rfl | rfl | rfl | rfl | rfl | rfl | rfl | rfl | rfl <;> decide
theorem dnew_d (w : World) : Calls Try.prog 11 #[] w fun e w' => ∃ b, e = .returned (.pointer (some ⟨b, 0, none⟩)) ∧ DA w' b D0 (fun k => k = b) ∧ w.heap.size ≤ b ∧ Below w.heap.size w w' := by
  refine (dnew_c w).mono ?_
  rintro e w' ⟨b, rfl, hR, hb, hB⟩
  exact ⟨b, rfl, ⟨hR, D0_low, fun k => Iff.rfl⟩, hb, hB⟩
theorem DA.keepF {w w' : World} {p : Nat} {D : Dst} {F : Nat → Prop} (h : DA w p D F) (g : ∀ k, F k → w'.heap[k]? = w.heap[k]?) : DA w' p D F :=
  ⟨h.ref.same (g p ((h.own p).2 rfl)), h.low, h.own⟩
/-- Put, of a dict that lies in one block -/
theorem dput_p {w : World} {b : Nat} {D : Dst} (h : DA w b D (fun k => k = b)) (sel met : Int) (hs : I64 sel) (hm : I64 met) :
    Calls Try.prog 12 #[.pointer (some ⟨b, 0, none⟩), .int .i64 sel, .int .i64 met] w fun e w' => e = .returned (.bool (putB D sel)) ∧ DA w' b (putD D sel met) (fun k => k = b) ∧ Ch (fun k => k = b) w w' := by
  refine (dput_c h sel met hs hm).mono ?_
  rintro e w' ⟨F', rfl, hd, hc, hn⟩
  exact ⟨rfl, ⟨hd.ref, hd.low, fun k => Iff.rfl⟩, hc⟩
set_option maxHeartbeats 8000000 in
theorem dof_c {w : World} {v : Value} {B : List (Int × Int)} (h : PrV w v B) :
    Calls Try.prog 15 #[v] w fun e w' => ((∃ D b, ofD B D0 = some D ∧ e = .returned (.tuple #[.pointer (some ⟨b, 0, none⟩), .bool true]) ∧ DA w' b D (fun k => k = b) ∧ w.heap.size ≤ b) ∨ (ofD B D0 = none ∧ e = .returned (.tuple #[.pointer none, .bool false]))) ∧ Below w.heap.size w w' := by
  obtain ⟨ad, cap, rfl, hcap, hmx⟩ := h.form
  obtain ⟨n, hn⟩ : ∃ n, n = B.length := ⟨_, rfl⟩
  rw [← hn] at h hcap ⊢
  replace h := Lib.hid h
  have hn' := Lib.hid hn
  have hnm : n ≤ 9223372036854775807 := by have : maxLen ≤ 9223372036854775807 := by decide
                                           omega
  clear hmx hn
  go_enter Try.func15, Try.ntmps15
  go_upto_region 2 with (first | (go_at_call 11; ((with_reducible refine (dnew_d _).mono ?_); rintro e1 w1 ⟨b, rfl, hR, hb, hB⟩)))
  replace hR := Lib.hid hR
  replace hB := Lib.hid hB
  have hst : Hid (ofD B D0 = ofD (B.drop 0) D0) := Lib.hid (by simp)
  go_wp2
  go_loopw [10] (fun i10 wr => ∃ (k : Nat) (D : Dst), k ≤ n ∧ i10 = .int .i64 k ∧ Hid (DA wr b D (fun k => k = b)) ∧ Hid (ofD B D0 = ofD (B.drop k) D) ∧ Hid (Below w.heap.size w wr)) (fun i10 _ => n - (intOf i10).toNat)
  case atStart => exact ⟨0, D0, by omega, rfl, hR, hst, hB⟩
  case round =>
    clear hR hst hB
    obtain ⟨k, D, hk, rfl, hR, hO, hB⟩ := hrel
    by_cases hlt : k < n
    · have d1 : decide ((k : Int) < (n : Int)) = true := by simp; omega
      have p0 : (0 : Int) ≤ (k : Int) := by omega
      have p1 : (k : Int) < (n : Int) := by omega
      obtain ⟨⟨bs, bm⟩, hx⟩ : ∃ x, B[k]? = some x := ⟨B[k]'(by have := hn'.out; omega), by simp⟩
      obtain ⟨s64, m64, g, off, rfl, c0, c1⟩ := (h.out.up hB.out).at hx
      simp only at s64 m64 c0 c1
      have hB1 := Lib.hid (hB.out.alloc hB.out.size (.cells #[.int .i64 bs, .int .i64 bm] 27))
      have hR1 := hR.out.keepF (w' := wr.alloc (.cells #[.int .i64 bs, .int .i64 bm] 27)) (fun k hk => ((Below.refl wr.heap.size wr).alloc (Nat.le_refl _) (.cells #[.int .i64 bs, .int .i64 bm] 27)).block k (by subst hk; exact hR.out.ref.lt))
      have PP := dput_p hR1 bs bm s64 m64
      have hs := fun h => of_step (D := D) hx h
      have ht := fun h => of_stop (D := D) hx h
      clear hx
      cases hpb : putB D bs with
      | true =>
        rw [hpb] at PP
        replace PP := Lib.hid PP
        have hO' := Lib.hid (hO.out.trans (hs hpb))
        clear hpb hs ht hR1
        go_wp2_with (first | (go_at_call 12; ((with_reducible refine PP.out.mono ?_); rintro e1 w2 ⟨rfl, hR2, hc2⟩)))
        go_roundw
        case rel => exact ⟨k + 1, _, by omega, by go_num, Lib.hid hR2, hO', Lib.hid (rel_below hB1.out hc2 hb)⟩
        case measure => simp [intOf]; omega
      | false =>
        rw [hpb] at PP
        replace PP := Lib.hid PP
        have hO' := Lib.hid (hO.out.trans (ht hpb))
        clear hpb hs ht hR1
        go_wp2_with (first | (go_at_call 12; ((with_reducible refine PP.out.mono ?_); rintro e1 w2 ⟨rfl, hR2, hc2⟩)))
        go_ret2
        exact ⟨Or.inr ⟨hO'.out, rfl⟩, rel_below hB1.out hc2 hb⟩
    · have d1 : decide ((k : Int) < (n : Int)) = false := by simp; omega
      have e := hO.out
      rw [show k = B.length by have := hn'.out; omega, List.drop_length, ofD] at e
      replace e := Lib.hid e
      go_wp2
      go_ret2
      exact ⟨Or.inl ⟨D, b, e.out, rfl, hR.out, hb⟩, hB.out⟩
/-- the landed package does what the laws ask -/
theorem KK : DicK DA where
  lt := fun h k hk => by rw [(h.own k).1 hk]; exact h.ref.lt
  keep := fun h g => h.keepF g
  put := fun sel met h hs hm => dput_c h sel met hs hm
  find := fun sel h hs => dfind_c h sel hs
  len := fun h => dlen_c h
  of := fun hv => (dof_c hv).mono (by
    rintro e w' ⟨⟨D, b, h1, h2, h3, h4⟩ | h1, hB⟩
    · exact ⟨Or.inl ⟨D, b, _, h1, h2, h3, fun k hk => by subst hk; exact h4⟩, hB⟩
    · exact ⟨Or.inr h1, hB⟩)
  new := fun {w} => (dnew_d w).mono (by
    rintro e w' ⟨b, h1, h2, h3, h4⟩
    exact ⟨b, _, h1, h2, fun k hk => by subst hk; exact h3, h4⟩)
end Wd
end Go.Proofs.Ytdpckckfkpefnaa
