/- Some of chapter 12's runs. -/
import Derived.Test.YtdpckckfkpefnaaJLaw
import Derived.Deep.DeepCutAuto
namespace Go.Proofs.Ytdpckckfkpefnaa
open Go.RowKit
set_option linter.unusedVariables false
set_option maxRecDepth 20000
namespace Wd
def E1 : Dst := putD D0 0 5
def E2 : Dst := putD E1 16 6
def E3 : Dst := putD E2 32 7
def E4 : Dst := putD E3 48 8
def E6 : Dst := putD E4 16 60
def EX : Dst := putD D0 1 2
theorem prv1 (w : World) (g : Nat) (hg : g = w.heap.size) : PrV (w.alloc (.cells #[.int .i64 1, .int .i64 2] 27)) (.slice (some ⟨g, 0, none⟩) 1 1) [(1, 2)] := by
  subst hg
  refine ⟨_, _, rfl, by decide, by decide, fun k x hk => ?_⟩
  have hk1 : k < 1 := (List.getElem?_eq_some_iff.1 hk).1
  obtain rfl : k = 0 := by omega
  cases hk
  exact ⟨⟨by decide, by decide⟩, ⟨by decide, by decide⟩, _, 0, rfl, by simp, by simp⟩
set_option maxHeartbeats 16000000 in
theorem known_c {DA : DAt} (K : DicK DA) (w : World) :
    Calls Try.prog 9 #[] w fun e w' => e = .returned (.bool true) ∧ Below w.heap.size w w' := by
  have a1 : Hid (I64 (0) ∧ I64 (5)) := Lib.hid ⟨⟨by decide, by decide⟩, ⟨by decide, by decide⟩⟩
  have p1 : Hid (putB D0 (0) = true) := Lib.hid (by kernel_rfl)
  have d1 : Hid (putD D0 (0) (5) = E1) := Lib.hid (by kernel_rfl)
  have a2 : Hid (I64 (16) ∧ I64 (6)) := Lib.hid ⟨⟨by decide, by decide⟩, ⟨by decide, by decide⟩⟩
  have p2 : Hid (putB E1 (16) = true) := Lib.hid (by kernel_rfl)
  have d2 : Hid (putD E1 (16) (6) = E2) := Lib.hid (by kernel_rfl)
  have a3 : Hid (I64 (32) ∧ I64 (7)) := Lib.hid ⟨⟨by decide, by decide⟩, ⟨by decide, by decide⟩⟩
  have p3 : Hid (putB E2 (32) = true) := Lib.hid (by kernel_rfl)
  have d3 : Hid (putD E2 (32) (7) = E3) := Lib.hid (by kernel_rfl)
  have a4 : Hid (I64 (48) ∧ I64 (8)) := Lib.hid ⟨⟨by decide, by decide⟩, ⟨by decide, by decide⟩⟩
  have p4 : Hid (putB E3 (48) = true) := Lib.hid (by kernel_rfl)
  have d4 : Hid (putD E3 (48) (8) = E4) := Lib.hid (by kernel_rfl)
  have a5 : Hid (I64 (64) ∧ I64 (9)) := Lib.hid ⟨⟨by decide, by decide⟩, ⟨by decide, by decide⟩⟩
  have p5 : Hid (putB E4 (64) = false) := Lib.hid (by kernel_rfl)
  have d5 : Hid (putD E4 (64) (9) = E4) := Lib.hid (by kernel_rfl)
  have a6 : Hid (I64 (16) ∧ I64 (60)) := Lib.hid ⟨⟨by decide, by decide⟩, ⟨by decide, by decide⟩⟩
  have p6 : Hid (putB E4 (16) = true) := Lib.hid (by kernel_rfl)
  have d6 : Hid (putD E4 (16) (60) = E6) := Lib.hid (by kernel_rfl)
  have a7 : Hid (I64 (-1) ∧ I64 (0)) := Lib.hid ⟨⟨by decide, by decide⟩, ⟨by decide, by decide⟩⟩
  have p7 : Hid (putB E6 (-1) = false) := Lib.hid (by kernel_rfl)
  have d7 : Hid (putD E6 (-1) (0) = E6) := Lib.hid (by kernel_rfl)
  have b1 : Hid (I64 (3)) := Lib.hid ⟨by decide, by decide⟩
  have f1 : Hid (findD D0 (3) = (-1, 1)) := Lib.hid (by kernel_rfl)
  have b2 : Hid (I64 (48)) := Lib.hid ⟨by decide, by decide⟩
  have f2 : Hid (findD E4 (48) = (8, 4)) := Lib.hid (by kernel_rfl)
  have b3 : Hid (I64 (80)) := Lib.hid ⟨by decide, by decide⟩
  have f3 : Hid (findD E4 (80) = (-1, 4)) := Lib.hid (by kernel_rfl)
  have b4 : Hid (I64 (16)) := Lib.hid ⟨by decide, by decide⟩
  have f4 : Hid (findD E6 (16) = (60, 2)) := Lib.hid (by kernel_rfl)
  have b5 : Hid (I64 (-1)) := Lib.hid ⟨by decide, by decide⟩
  have f5 : Hid (findD E6 (-1) = (-1, 0)) := Lib.hid (by kernel_rfl)
  have n4 : Hid (cnt E6 = 4) := Lib.hid (by kernel_rfl)
  have n1 : Hid (cnt EX = 1) := Lib.hid (by kernel_rfl)
  have ox : Hid (ofD [(1, 2)] D0 = some EX) := Lib.hid (by kernel_rfl)
  go_enter Try.func9, Try.ntmps9
  simp only [List.append_eq, List.cons_append, List.nil_append]
  go_upto_region 2 with (first | (go_at_call 11; ((with_reducible refine (new_s K _).mono ?_); rintro e1 w1 ⟨p, F, rfl, h0⟩)))
  have hT := Lib.hid h0
  clear h0
  go_upto_region 12 with (first | (go_at_call 13; ((with_reducible refine (find_s K hT.out b1.out f1.out).mono ?_); rintro e z1 ⟨rfl, h0, _⟩; replace hT := Lib.hid h0; clear h0)) | (go_at_call 13; ((with_reducible refine (find_s K hT.out b2.out f2.out).mono ?_); rintro e z2 ⟨rfl, h0, _⟩; replace hT := Lib.hid h0; clear h0)) | (go_at_call 13; ((with_reducible refine (find_s K hT.out b3.out f3.out).mono ?_); rintro e z3 ⟨rfl, h0, _⟩; replace hT := Lib.hid h0; clear h0)) | (go_at_call 13; ((with_reducible refine (find_s K hT.out b4.out f4.out).mono ?_); rintro e z4 ⟨rfl, h0, _⟩; replace hT := Lib.hid h0; clear h0)) | (go_at_call 13; ((with_reducible refine (find_s K hT.out b5.out f5.out).mono ?_); rintro e z5 ⟨rfl, h0, _⟩; replace hT := Lib.hid h0; clear h0)) | (go_at_call 12; ((with_reducible refine (put_s K hT.out (a1).out.1 (a1).out.2 p1.out d1.out).mono ?_); rintro e y1 ⟨F1, rfl, h0, _, _⟩; replace hT := Lib.hid h0; clear h0)) | (go_at_call 12; ((with_reducible refine (put_s K hT.out (a2).out.1 (a2).out.2 p2.out d2.out).mono ?_); rintro e y2 ⟨F2, rfl, h0, _, _⟩; replace hT := Lib.hid h0; clear h0)) | (go_at_call 12; ((with_reducible refine (put_s K hT.out (a3).out.1 (a3).out.2 p3.out d3.out).mono ?_); rintro e y3 ⟨F3, rfl, h0, _, _⟩; replace hT := Lib.hid h0; clear h0)) | (go_at_call 12; ((with_reducible refine (put_s K hT.out (a4).out.1 (a4).out.2 p4.out d4.out).mono ?_); rintro e y4 ⟨F4, rfl, h0, _, _⟩; replace hT := Lib.hid h0; clear h0)) | (go_at_call 12; ((with_reducible refine (put_s K hT.out (a5).out.1 (a5).out.2 p5.out d5.out).mono ?_); rintro e y5 ⟨F5, rfl, h0, _, _⟩; replace hT := Lib.hid h0; clear h0)) | (go_at_call 12; ((with_reducible refine (put_s K hT.out (a6).out.1 (a6).out.2 p6.out d6.out).mono ?_); rintro e y6 ⟨F6, rfl, h0, _, _⟩; replace hT := Lib.hid h0; clear h0)))
  have hP := prv1 z5 z5.heap.size rfl
  have hT2 := Lib.hid (hT.out.keep K ((Below.refl _ _).alloc (Nat.le_refl _) (.cells #[.int .i64 1, .int .i64 2] 27)))
  go_wp2_with fail
  refine (K.of hP).mono ?_
  clear hP
  rintro e wo ⟨hO, hBo⟩
  rcases hO with ⟨D, q, G, hD, rfl, hda, hG⟩ | ⟨hD, rfl⟩
  · obtain rfl : EX = D := by rw [ox.out] at hD; exact Option.some.inj hD
    have hT := Lib.hid (hT2.out.keep K hBo)
    have hX : Hid (PD DA _ wo q EX G) := Lib.hid ⟨hda, hBo, hG⟩
    clear hT2 hD hda hG hBo
    go_wp2_with (first | (go_at_call 14; first | ((with_reducible refine (len_s K hT.out n4.out).mono ?_); rintro e yl ⟨rfl, h0, hb⟩; replace hT := Lib.hid h0; replace hX := Lib.hid (hX.out.keep K hb); clear h0 hb) | ((with_reducible refine (len_s K hX.out n1.out).mono ?_); rintro e ym ⟨rfl, h0, hb⟩; replace hT := Lib.hid (hT.out.keep K hb); clear h0 hb)) | (go_at_call 12; ((with_reducible refine (put_s K hT.out (a7).out.1 (a7).out.2 p7.out d7.out).mono ?_); rintro e y7 ⟨F7, rfl, h0, _, _⟩; replace hT := Lib.hid h0; clear h0)))
    go_ret
    exact ⟨rfl, hT.out.bel⟩
  · rw [ox.out] at hD; cases hD
end Wd
end Go.Proofs.Ytdpckckfkpefnaa
