/- What the laws ask of a mill, whoever keeps it: the chapter's runs. -/
import Derived.Test.YtjobeomadkaeoaaMSame
namespace Go.Proofs.Ytjobeomadkaeoaa
open Go.RowKit
namespace Wd
theorem SL.keepCh {w w' : World} {e : TypeId} {v : Value} {L : List Int} {F : Nat → Prop} (h : SL w e v L) (c : Ch F w w') (hF : ∀ g, v.ownBlock = some g → ¬ F g) : SL w' e v L := by
  refine ⟨h.1, ?_⟩
  rcases h.2 with hh | ⟨g, cap, cur, rfl, h1, h2, h3⟩
  · exact Or.inl hh
  · exact Or.inr ⟨g, cap, cur, rfl, h1, (c.block g (Array.getElem?_eq_some_iff.1 h2).1 (hF g rfl)).trans h2, h3⟩
set_option maxHeartbeats 16000000 in
theorem known_c {MA : MAt} (K : MillK MA) (w : World) :
    Calls Try.prog 9 #[] w fun e w' => e = .returned (.bool true) ∧ Below w.heap.size w w' := by
  obtain ⟨A1, hA1⟩ : ∃ A, A = firstA (startA 2) 0 1 := ⟨_, rfl⟩
  obtain ⟨A2, hA2⟩ : ∃ A, A = firstA A1 0 1 := ⟨_, rfl⟩
  obtain ⟨A3, hA3⟩ : ∃ A, A = firstA A2 0 1 := ⟨_, rfl⟩
  obtain ⟨A4, hA4⟩ : ∃ A, A = flipA A3 := ⟨_, rfl⟩
  obtain ⟨A5, hA5⟩ : ∃ A, A = shadeA A4 1 := ⟨_, rfl⟩
  obtain ⟨A6, hA6⟩ : ∃ A, A = flipA A5 := ⟨_, rfl⟩
  obtain ⟨A7, hA7⟩ : ∃ A, A = firstA A6 2 1 := ⟨_, rfl⟩
  obtain ⟨A8, hA8⟩ : ∃ A, A = flipA A7 := ⟨_, rfl⟩
  have z0 : firstR (startA 2) 0 = 0 := by decide +kernel
  have z1 : firstR A1 0 = 1 := by rw [hA1]; decide +kernel
  have z2 : firstR A2 0 = -1 := by rw [hA2, hA1]; decide +kernel
  have z3 : flipR A3 = [] := by rw [hA3, hA2, hA1]; decide +kernel
  have z4 : colorR A4 0 = 3 := by rw [hA4, hA3, hA2, hA1]; decide +kernel
  have z5 : decide (colorR A4 1 = 3) = true := by rw [hA4, hA3, hA2, hA1]; decide +kernel
  have z6 : flipR A5 = [] := by rw [hA5, hA4, hA3, hA2, hA1]; decide +kernel
  have z7 : firstR A6 2 = 1 := by rw [hA6, hA5, hA4, hA3, hA2, hA1]; decide +kernel
  have z8 : flipR A7 = [0] := by rw [hA7, hA6, hA5, hA4, hA3, hA2, hA1]; decide +kernel
  have z9 : colorR A8 0 = 0 := by rw [hA8, hA7, hA6, hA5, hA4, hA3, hA2, hA1]; decide +kernel
  have z10 : colorR A8 1 = 3 := by rw [hA8, hA7, hA6, hA5, hA4, hA3, hA2, hA1]; decide +kernel
  have z11 : colorR A8 9 = -1 := by rw [hA8, hA7, hA6, hA5, hA4, hA3, hA2, hA1]; decide +kernel
  have z12 : ((rowA A8 0).length : Int) = 1 := by rw [hA8, hA7, hA6, hA5, hA4, hA3, hA2, hA1]; decide +kernel
  have z13 : decide (colorR A8 0 = 3) = false := by rw [hA8, hA7, hA6, hA5, hA4, hA3, hA2, hA1]; decide +kernel
  have G := good_start 2
  go_enter Try.func9, Try.ntmps9
  go_wp2_with fail
  refine (K.new 2 (by omega) (by omega)).mono ?_
  rintro e w1 ⟨p, F0, rfl, hra, hF, hb⟩
  have hs : PM MA w w1 p 2 (startA 2) F0 := ⟨hra, hb, hF, G⟩
  clear hra hb hF G
  replace hs := Lib.hid hs
  go_wp2_with fail
  refine (K.none 0 (by omega) (by omega) (Or.inl (by omega))).mono ?_
  rintro e w2 ⟨rfl, hb⟩
  replace hs := Lib.hid (hs.out.keep K hb)
  clear hb
  go_wp2_with fail
  refine (K.none 513 (by omega) (by omega) (Or.inr (by omega))).mono ?_
  rintro e w3 ⟨rfl, hb⟩
  replace hs := Lib.hid (hs.out.keep K hb)
  clear hb
  go_wp2_with fail
  have P := K.alloc hs.out.ma
  rw [z0] at P
  refine P.mono ?_
  clear P
  rintro e w4 ⟨F1, rfl, hm, hc, hn⟩
  replace hs := Lib.hid (hs.out.step hm hc hn (good_first hs.out.good 0 (Or.inl rfl)))
  rw [← hA1] at hs
  clear hm hc hn
  go_wp2_with fail
  have P := K.alloc hs.out.ma
  rw [z1] at P
  refine P.mono ?_
  clear P
  rintro e w5 ⟨F2, rfl, hm, hc, hn⟩
  replace hs := Lib.hid (hs.out.step hm hc hn (good_first hs.out.good 0 (Or.inl rfl)))
  rw [← hA2] at hs
  clear hm hc hn
  go_wp2_with fail
  have P := K.alloc hs.out.ma
  rw [z2] at P
  refine P.mono ?_
  clear P
  rintro e w6 ⟨F3, rfl, hm, hc, hn⟩
  replace hs := Lib.hid (hs.out.step hm hc hn (good_first hs.out.good 0 (Or.inl rfl)))
  rw [← hA3] at hs
  clear hm hc hn
  go_wp2_with fail
  have P := K.flip hs.out.ma
  rw [z3] at P
  refine P.mono ?_
  clear P
  rintro e w7 ⟨u, F4, rfl, hm, hc, hn, hu, hf⟩
  replace hs := Lib.hid (hs.out.step hm hc hn (good_flip hs.out.good))
  rw [← hA4] at hs
  clear hm hc hn
  obtain ⟨a1, c1, rfl⟩ := hu.form
  clear hu hf
  go_wp2_with fail
  have P := K.color 0 hs.out.ma (by omega) (by omega)
  rw [z4] at P
  refine P.mono ?_
  clear P
  rintro e w8 ⟨rfl, hb⟩
  replace hs := Lib.hid (hs.out.keep K hb)
  clear hb
  go_wp2_with fail
  have P := K.shade 1 hs.out.ma (by omega) (by omega)
  rw [z5] at P
  refine P.mono ?_
  clear P
  rintro e w9 ⟨F5, rfl, hm, hc, hn⟩
  replace hs := Lib.hid (hs.out.step hm hc hn (good_shade hs.out.good 1))
  rw [← hA5] at hs
  clear hm hc hn
  go_wp2_with fail
  have P := K.flip hs.out.ma
  rw [z6] at P
  refine P.mono ?_
  clear P
  rintro e w10 ⟨u, F6, rfl, hm, hc, hn, hu, hf⟩
  replace hs := Lib.hid (hs.out.step hm hc hn (good_flip hs.out.good))
  rw [← hA6] at hs
  clear hm hc hn
  obtain ⟨a2, c2, rfl⟩ := hu.form
  clear hu hf
  go_wp2_with fail
  have P := K.scan hs.out.ma
  rw [z7] at P
  refine P.mono ?_
  clear P
  rintro e w11 ⟨F7, rfl, hm, hc, hn⟩
  replace hs := Lib.hid (hs.out.step hm hc hn (good_first hs.out.good 2 (Or.inr rfl)))
  rw [← hA7] at hs
  clear hm hc hn
  go_wp2_with fail
  have P := K.flip hs.out.ma
  rw [z8] at P
  refine P.mono ?_
  clear P
  rintro e w12 ⟨u, F8, rfl, hm, hc, hn, hu, hf⟩
  replace hs := Lib.hid (hs.out.step hm hc hn (good_flip hs.out.good))
  rw [← hA8] at hs
  clear hm hc hn
  have hlit : SL (w12.alloc (.cells #[.int .i64 0] 3)) 3 (.slice (some ⟨w12.heap.size, 0, none⟩) 1 1) [0] := World.ownsRow_lit w12 #[.int .i64 0] 1 (by omega) (by decide) rfl
  replace hu := Lib.hid hu
  clear hf
  go_wp2_with fail
  refine (same_ints [0] [0] u _ _ (hu.out.alloc _) hlit (by decide) (by decide)).mono ?_
  rintro e w13 ⟨rfl, q, rfl⟩
  replace hs := Lib.hid ((hs.out.keep K ((Below.refl _ _).alloc (Nat.le_refl _) (.cells #[.int .i64 0] 3))).keep K (drewN_bel _ q))
  clear hlit hu
  go_wp2_with fail
  have P := K.color 0 hs.out.ma (by omega) (by omega)
  rw [z9] at P
  refine P.mono ?_
  clear P
  rintro e w14 ⟨rfl, hb⟩
  replace hs := Lib.hid (hs.out.keep K hb)
  clear hb
  go_wp2_with fail
  have P := K.color 1 hs.out.ma (by omega) (by omega)
  rw [z10] at P
  refine P.mono ?_
  clear P
  rintro e w15 ⟨rfl, hb⟩
  replace hs := Lib.hid (hs.out.keep K hb)
  clear hb
  go_wp2_with fail
  have P := K.color 9 hs.out.ma (by omega) (by omega)
  rw [z11] at P
  refine P.mono ?_
  clear P
  rintro e w16 ⟨rfl, hb⟩
  replace hs := Lib.hid (hs.out.keep K hb)
  clear hb
  go_wp2_with fail
  have P := K.count 0 hs.out.ma (by omega) (by omega)
  rw [z12] at P
  refine P.mono ?_
  clear P
  rintro e w17 ⟨rfl, hb⟩
  replace hs := Lib.hid (hs.out.keep K hb)
  clear hb
  go_wp2_with fail
  have P := K.shade 0 hs.out.ma (by omega) (by omega)
  rw [z13] at P
  refine P.mono ?_
  clear P
  rintro e w18 ⟨F9, rfl, hm, hc, hn⟩
  replace hs := Lib.hid (hs.out.step hm hc hn (good_shade hs.out.good 0))
  clear hm hc hn
  go_wp2
  go_ret
  exact ⟨rfl, hs.out.bel⟩
end Wd
end Go.Proofs.Ytjobeomadkaeoaa
