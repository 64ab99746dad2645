/- Some of chapter 11's runs. -/
import Derived.Test.YtbefmkkmkjogcaaITab
import Derived.Test.YtbefmkkmkjogcaaISame
namespace Go.Proofs.Ytbefmkkmkjogcaa
open Go.RowKit
set_option linter.unusedVariables false
set_option maxRecDepth 20000
namespace Wd
set_option maxHeartbeats 16000000 in
theorem known_c {NA : NAt} (KN : NamK) (KT : TexK) (K : TabK NA) (w : World) :
    Calls Try.prog 10 #[] w fun e w' => e = .returned (.bool true) ∧ Below w.heap.size w w' := by
  have vA1 : argsR ⟨#[97, 116, 58, 112, 117, 116, 58]⟩ = 2 := by kernel_rfl
  have vA2 : argsR ⟨#[60, 61]⟩ = 1 := by kernel_rfl
  have vA3 : argsR ⟨#[103, 111]⟩ = 0 := by kernel_rfl
  have vR1 : argsR ⟨#[58, 97]⟩ = -1 := by kernel_rfl
  have vR2 : argsR ⟨#[97, 43]⟩ = -1 := by kernel_rfl
  have vA4 : argsR ⟨#[43, 43, 43]⟩ = -1 := by kernel_rfl
  have PA1 := Lib.hid (KN.args ⟨#[97, 116, 58, 112, 117, 116, 58]⟩)
  rw [vA1] at PA1
  have PA2 := Lib.hid (KN.args ⟨#[60, 61]⟩)
  rw [vA2] at PA2
  have PA3 := Lib.hid (KN.args ⟨#[103, 111]⟩)
  rw [vA3] at PA3
  have PR1 := Lib.hid (KN.right ⟨#[58, 97]⟩)
  rw [vR1, decide_eq_false (show ¬ (0 : Int) ≤ -1 by omega)] at PR1
  have PR2 := Lib.hid (KN.right ⟨#[97, 43]⟩)
  rw [vR2, decide_eq_false (show ¬ (0 : Int) ≤ -1 by omega)] at PR2
  have PA4 := Lib.hid (KN.args ⟨#[43, 43, 43]⟩)
  rw [vA4] at PA4
  obtain ⟨x0, x1, x2, x3, x4, x5, x6, x7, x8, x9, x10, x11, x12, x13, x14, x15, hx⟩ : ∃ x0  x1  x2  x3  x4  x5  x6  x7  x8  x9  x10  x11  x12  x13  x14  x15 : Int, kcs ⟨#[97, 116, 58, 112, 117, 116, 58]⟩ = #[.int .u8 x0, .int .u8 x1, .int .u8 x2, .int .u8 x3, .int .u8 x4, .int .u8 x5, .int .u8 x6, .int .u8 x7, .int .u8 x8, .int .u8 x9, .int .u8 x10, .int .u8 x11, .int .u8 x12, .int .u8 x13, .int .u8 x14, .int .u8 x15] := ⟨_, _, _, _, _, _, _, _, _, _, _, _, _, _, _, _, rfl⟩
  have hk : keyA (⟨#[97, 116, 58, 112, 117, 116, 58]⟩ : ByteArray).data.toList = #[.int .u8 x0, .int .u8 x1, .int .u8 x2, .int .u8 x3, .int .u8 x4, .int .u8 x5, .int .u8 x6, .int .u8 x7, .int .u8 x8, .int .u8 x9, .int .u8 x10, .int .u8 x11, .int .u8 x12, .int .u8 x13, .int .u8 x14, .int .u8 x15] := (kcs_key _).symm.trans hx
  have PO := Lib.hid (fun w => KN.ofY ⟨#[97, 116, 58, 112, 117, 116, 58]⟩ w (by rw [vA1]; omega))
  rw [hx] at PO
  have PX := Lib.hid (KT.text (⟨#[97, 116, 58, 112, 117, 116, 58]⟩ : ByteArray).data.toList)
  rw [hk, show textK (⟨#[97, 116, 58, 112, 117, 116, 58]⟩ : ByteArray).data.toList = ⟨#[97, 116, 58, 112, 117, 116, 58]⟩ by kernel_rfl] at PX
  clear hx hk vA1 vA2 vA3 vA4 vR1 vR2
  have i1 : Hid (interI [] ⟨#[120]⟩ = 0) := Lib.hid (by kernel_rfl)
  have l1 : Hid (interL [] ⟨#[120]⟩ = [⟨#[120]⟩]) := Lib.hid (by kernel_rfl)
  have i2 : Hid (interI [⟨#[120]⟩] ⟨#[43]⟩ = 1) := Lib.hid (by kernel_rfl)
  have l2 : Hid (interL [⟨#[120]⟩] ⟨#[43]⟩ = [⟨#[120]⟩, ⟨#[43]⟩]) := Lib.hid (by kernel_rfl)
  have i3 : Hid (interI [⟨#[120]⟩, ⟨#[43]⟩] ⟨#[120]⟩ = 0) := Lib.hid (by kernel_rfl)
  have l3 : Hid (interL [⟨#[120]⟩, ⟨#[43]⟩] ⟨#[120]⟩ = [⟨#[120]⟩, ⟨#[43]⟩]) := Lib.hid (by kernel_rfl)
  have i4 : Hid (interI [⟨#[120]⟩, ⟨#[43]⟩] ⟨#[57, 120]⟩ = -1) := Lib.hid (by kernel_rfl)
  have l4 : Hid (interL [⟨#[120]⟩, ⟨#[43]⟩] ⟨#[57, 120]⟩ = [⟨#[120]⟩, ⟨#[43]⟩]) := Lib.hid (by kernel_rfl)
  have f1 : Hid (findR [⟨#[120]⟩, ⟨#[43]⟩] ⟨#[121]⟩ = -1) := Lib.hid (by kernel_rfl)
  have f2 : Hid (findR [⟨#[120]⟩, ⟨#[43]⟩] ⟨#[43]⟩ = 1) := Lib.hid (by kernel_rfl)
  have t1 : Hid (nameAt [⟨#[120]⟩, ⟨#[43]⟩] 1 = ⟨#[43]⟩) := Lib.hid (by kernel_rfl)
  have t2 : Hid (nameAt [⟨#[120]⟩, ⟨#[43]⟩] 2 = ⟨#[]⟩) := Lib.hid (by kernel_rfl)
  have n2 : Hid ([(⟨#[120]⟩ : ByteArray), ⟨#[43]⟩].length = 2) := Lib.hid rfl
  go_enter Try.func10, Try.ntmps10
  simp only [List.append_eq, List.cons_append, List.nil_append]
  go_upto_region 2 with (first | (go_at_call 13; ((with_reducible refine (PO.out _).mono ?_); rintro e1 w1 ⟨rfl, hB1⟩)))
  have hWg := Lib.hid (heap_alloc_new w1 (.cells #[.int .u8 x0, .int .u8 x1, .int .u8 x2, .int .u8 x3, .int .u8 x4, .int .u8 x5, .int .u8 x6, .int .u8 x7, .int .u8 x8, .int .u8 x9, .int .u8 x10, .int .u8 x11, .int .u8 x12, .int .u8 x13, .int .u8 x14, .int .u8 x15] 33))
  have hBW := Lib.hid (hB1.alloc hB1.size (.cells #[.int .u8 x0, .int .u8 x1, .int .u8 x2, .int .u8 x3, .int .u8 x4, .int .u8 x5, .int .u8 x6, .int .u8 x7, .int .u8 x8, .int .u8 x9, .int .u8 x10, .int .u8 x11, .int .u8 x12, .int .u8 x13, .int .u8 x14, .int .u8 x15] 33))
  have hg : w1.heap.size < (w1.alloc (.cells #[.int .u8 x0, .int .u8 x1, .int .u8 x2, .int .u8 x3, .int .u8 x4, .int .u8 x5, .int .u8 x6, .int .u8 x7, .int .u8 x8, .int .u8 x9, .int .u8 x10, .int .u8 x11, .int .u8 x12, .int .u8 x13, .int .u8 x14, .int .u8 x15] 33)).heap.size := by simp
  generalize w1.alloc (.cells #[.int .u8 x0, .int .u8 x1, .int .u8 x2, .int .u8 x3, .int .u8 x4, .int .u8 x5, .int .u8 x6, .int .u8 x7, .int .u8 x8, .int .u8 x9, .int .u8 x10, .int .u8 x11, .int .u8 x12, .int .u8 x13, .int .u8 x14, .int .u8 x15] 33) = W at *
  generalize w1.heap.size = g at *
  clear hB1 PO
  go_wp2_with (first | (go_at_call 11; ((with_reducible refine (new_s K _).mono ?_); rintro e w2 ⟨p, F, rfl, h0⟩; have hT := Lib.hid h0; clear h0)) | (go_at_call 12; ((with_reducible refine (intern_s K hT.out i1.out l1.out).mono ?_); rintro e wi1 ⟨F1, rfl, h0, hc, hn⟩; replace hT := Lib.hid h0; clear h0 hc hn)) | (go_at_call 12; ((with_reducible refine (intern_s K hT.out i2.out l2.out).mono ?_); rintro e wi2 ⟨F2, rfl, h0, hc, hn⟩; replace hT := Lib.hid h0; clear h0 hc hn)) | (go_at_call 12; ((with_reducible refine (intern_s K hT.out i3.out l3.out).mono ?_); rintro e wi3 ⟨F3, rfl, h0, hc, hn⟩; replace hT := Lib.hid h0; clear h0 hc hn)) | (go_at_call 12; ((with_reducible refine (intern_s K hT.out i4.out l4.out).mono ?_); rintro e wi4 ⟨F4, rfl, h0, hc, hn⟩; replace hT := Lib.hid h0; clear h0 hc hn)) | (go_at_call 19; ((with_reducible refine (PA1.out _).mono ?_); rintro e wa1 ⟨rfl, hb⟩; replace hT := hT.out.keepB K hb; clear hb)) | (go_at_call 19; ((with_reducible refine (PA2.out _).mono ?_); rintro e wa2 ⟨rfl, hb⟩; replace hT := hT.out.keepB K hb; clear hb)) | (go_at_call 19; ((with_reducible refine (PA3.out _).mono ?_); rintro e wa3 ⟨rfl, hb⟩; replace hT := hT.out.keepB K hb; clear hb)) | (go_at_call 19; ((with_reducible refine (PA4.out _).mono ?_); rintro e wa4 ⟨rfl, hb⟩; replace hT := hT.out.keepB K hb; clear hb; obtain ⟨a0, a1, a2, a3, a4, a5, a6, a7, a8, a9, a10, a11, a12, a13, a14, a15⟩ := lit_cells ((hT.out.bel.block g hg).trans hWg.out))) | (go_at_call 14; ((with_reducible refine (PR1.out _).mono ?_); rintro e wr1 ⟨rfl, hb⟩; replace hT := hT.out.keepB K hb; clear hb)) | (go_at_call 14; ((with_reducible refine (PR2.out _).mono ?_); rintro e wr2 ⟨rfl, hb⟩; replace hT := hT.out.keepB K hb; clear hb)) | (go_at_call 16; ((with_reducible refine (PX.out _).mono ?_); rintro e wt ⟨rfl, hb⟩; replace hT := hT.out.keepB K hb; clear hb)) | (go_at_call 18; ((with_reducible refine (len_s K hT.out n2.out).mono ?_); rintro e wl ⟨rfl, h0, hb⟩; replace hT := Lib.hid h0; clear h0 hb)) | (go_at_call 15; ((with_reducible refine (at_s K hT.out (by omega) (by omega) t1.out).mono ?_); rintro e wq1 ⟨rfl, h0, hb⟩; replace hT := Lib.hid h0; clear h0 hb)) | (go_at_call 15; ((with_reducible refine (at_s K hT.out (by omega) (by omega) t2.out).mono ?_); rintro e wq2 ⟨rfl, h0, hb⟩; replace hT := Lib.hid h0; clear h0 hb)) | (go_at_call 17; ((with_reducible refine (find_s K hT.out f1.out).mono ?_); rintro e wf1 ⟨rfl, h0, hb⟩; replace hT := Lib.hid h0; clear h0 hb)) | (go_at_call 17; ((with_reducible refine (find_s K hT.out f2.out).mono ?_); rintro e wf2 ⟨rfl, h0, hb⟩; replace hT := Lib.hid h0; clear h0 hb)))
  go_ret
  exact ⟨rfl, hBW.out.trans (hT.out.bel.mono hBW.out.size)⟩
end Wd
end Go.Proofs.Ytbefmkkmkjogcaa
