/- The chapter's runs. -/
import Derived.Test.YtlbekicalinglaaSLaw
import Derived.Test.YtlbekicalinglaaKX
import Derived.Deep.DeepCutAuto
namespace Go.Proofs.Ytlbekicalinglaa
open Go.RowKit
set_option linter.unusedVariables false
set_option maxRecDepth 20000
namespace Wd
theorem PrV.nil (w : World) : PrV w (.slice none 0 0) [] := ⟨none, 0, rfl, by simp, by decide, fun k x hx => by simp at hx⟩
theorem ClV.nil (w : World) : ClV w (.slice none 0 0) [] := ⟨none, 0, rfl, by simp, by decide, fun k x hx => by simp at hx⟩
theorem ClV.drop {w : World} {g off n cap : Nat} {L : List ClassA} (h : ClV w (.slice (some ⟨g, off, none⟩) n cap) L) (k : Nat) (hk : k ≤ n) : ClV w (.slice (some ⟨g, off + k * 4, none⟩) (n - k) (cap - k)) (L.drop k) := by
  obtain ⟨ad, cap', e, h1, h2, h3⟩ := h.ex
  cases e
  refine ⟨some ⟨g, off + k * 4, none⟩, cap - k, by rw [List.length_drop], by rw [List.length_drop]; omega, by omega, fun j c hc => ?_⟩
  rw [List.getElem?_drop] at hc
  obtain ⟨i0, i1, g', off', bv, e, c0, c1, c2, c3, p⟩ := h3 (k + j) c hc
  cases e
  have ea : ∀ d, off + k * 4 + j * 4 + d = off + (k + j) * 4 + d := fun d => by rw [Nat.add_mul]; omega
  refine ⟨i0, i1, g, off + k * 4, bv, rfl, ?_, ?_, ?_, ?_, p⟩
  · have := ea 0; simp only [Nat.add_zero] at this; rw [this]; exact c0
  · rw [ea 1]; exact c1
  · rw [ea 2]; exact c2
  · rw [ea 3]; exact c3
def klT : List (ClassA × Value) := [(⟨⟨#[66]⟩, -1, 4, []⟩, .slice none 0 0), (⟨⟨#[65]⟩, -1, 0, []⟩, .slice none 0 0), (⟨⟨#[67]⟩, 1, 2, []⟩, .slice none 0 0), (⟨⟨#[68]⟩, 2, 2, []⟩, .slice none 0 0)]
def kl : List ClassA := klT.map (·.1)
theorem kl_v (w : World) : ClV (w.alloc (.cells (cl4s klT).toArray 38)) (.slice (some ⟨w.heap.size, 0, none⟩) 4 4) kl := by
  have hr := row_of (b := 0) (sz := 4) (m := 4) (alloc_at w (.cells (cl4s klT).toArray 38) w.heap.size rfl) (Nat.zero_le _) rfl (by decide)
  have hr' : (w.alloc (.cells (cl4s klT).toArray 38)).ownsRow 0 38 4 (.slice (some ⟨w.heap.size, 0, none⟩) 4 4) klT.length (cl4s klT) := hr
  refine ClV.own hr' (fun x hx => ?_)
  simp only [klT, List.mem_cons, List.not_mem_nil, or_false] at hx
  rcases hx with rfl | rfl | rfl | rfl <;> exact ⟨in64_of (by simp only; omega) (by simp only; omega), in64_of (by simp only; omega) (by simp only; omega), PrV.nil _⟩
set_option maxHeartbeats 16000000 in
theorem known_c (K : ShapeK) (w : World) : Calls Try.prog 12 #[] w fun e w' => e = .returned (.bool true) ∧ Below w.heap.size w w' := by
  have z0 : In64 0 := in64_of (by omega) (by omega)
  have z1 : In64 1 := in64_of (by omega) (by omega)
  have z3 : In64 3 := in64_of (by omega) (by omega)
  have z9 : In64 9 := in64_of (by omega) (by omega)
  have zm : In64 (-1) := in64_of (by omega) (by omega)
  have e1 : shapeR [] 0 0 = 3 := rfl
  have e2 : shapeR kl 0 0 = 0 := by decide +kernel
  have e3 : chain kl 3 = [3, 2, 1] := by decide +kernel
  have e4 : chain kl 0 = [0] := by decide +kernel
  have e5 : chain kl 9 = [] := by decide +kernel
  have e6 : chain kl (-1) = [] := by decide +kernel
  have e7 : shapeR (kl.drop 1) 0 0 = 14 := by decide +kernel
  have d3 : (((chain kl 3).length : Nat) : Int) = 3 := by rw [e3]; rfl
  have d0 : (((chain kl 0).length : Nat) : Int) = 1 := by rw [e4]; rfl
  have d9 : (((chain kl 9).length : Nat) : Int) = 0 := by rw [e5]; rfl
  have i1 : decide ((1 : Int) ∈ chain kl 3) = true := by rw [e3]; decide
  have i0 : decide ((0 : Int) ∈ chain kl 3) = false := by rw [e3]; decide
  have i3 : decide ((3 : Int) ∈ chain kl 3) = true := by rw [e3]; decide
  have hB := Lib.hid ((Below.refl w.heap.size w).alloc (Nat.le_refl _) (.cells (cl4s klT).toArray 38))
  have hv := Lib.hid (kl_v w)
  go_enter Try.func12, Try.ntmps12
  go_upto_region 2 with fail
  change Code.wp _ _ _ _ (w.alloc (.cells (cl4s klT).toArray 38))
  generalize w.alloc (.cells (cl4s klT).toArray 38) = w1 at *
  go_wp2_with fail
  have P := K.right (ClV.nil w1) 0 0 z0 z0
  rw [e1] at P
  refine P.mono ?_
  clear P
  rintro e w2 ⟨rfl, hb⟩
  have hv' := Lib.hid (hv.out.up hb)
  have hB' := Lib.hid (hB.out.trans (hb.mono hB.out.size))
  clear hv hB hb
  have hv := hv'
  have hB := hB'
  clear hv' hB'
  go_wp2_with fail
  have P := K.right hv.out 0 0 z0 z0
  rw [e2] at P
  refine P.mono ?_
  clear P
  rintro e w3 ⟨rfl, hb⟩
  have hv' := Lib.hid (hv.out.up hb)
  have hB' := Lib.hid (hB.out.trans (hb.mono hB.out.size))
  clear hv hB hb
  have hv := hv'
  have hB := hB'
  clear hv' hB'
  go_wp2_with fail
  have P := K.depth hv.out 3 z3
  rw [d3] at P
  refine P.mono ?_
  clear P
  rintro e w4 ⟨rfl, hb⟩
  have hv' := Lib.hid (hv.out.up hb)
  have hB' := Lib.hid (hB.out.trans (hb.mono hB.out.size))
  clear hv hB hb
  have hv := hv'
  have hB := hB'
  clear hv' hB'
  go_wp2_with fail
  have P := K.depth hv.out 0 z0
  rw [d0] at P
  refine P.mono ?_
  clear P
  rintro e w5 ⟨rfl, hb⟩
  have hv' := Lib.hid (hv.out.up hb)
  have hB' := Lib.hid (hB.out.trans (hb.mono hB.out.size))
  clear hv hB hb
  have hv := hv'
  have hB := hB'
  clear hv' hB'
  go_wp2_with fail
  have P := K.depth hv.out 9 z9
  rw [d9] at P
  refine P.mono ?_
  clear P
  rintro e w6 ⟨rfl, hb⟩
  have hv' := Lib.hid (hv.out.up hb)
  have hB' := Lib.hid (hB.out.trans (hb.mono hB.out.size))
  clear hv hB hb
  have hv := hv'
  have hB := hB'
  clear hv' hB'
  go_wp2_with fail
  have P := K.is hv.out 3 1 z3 z1
  rw [i1] at P
  refine P.mono ?_
  clear P
  rintro e w7 ⟨rfl, hb⟩
  have hv' := Lib.hid (hv.out.up hb)
  have hB' := Lib.hid (hB.out.trans (hb.mono hB.out.size))
  clear hv hB hb
  have hv := hv'
  have hB := hB'
  clear hv' hB'
  go_wp2_with fail
  have P := K.is hv.out 3 0 z3 z0
  rw [i0] at P
  refine P.mono ?_
  clear P
  rintro e w8 ⟨rfl, hb⟩
  have hv' := Lib.hid (hv.out.up hb)
  have hB' := Lib.hid (hB.out.trans (hb.mono hB.out.size))
  clear hv hB hb
  have hv := hv'
  have hB := hB'
  clear hv' hB'
  go_wp2_with fail
  have P := K.is hv.out 3 3 z3 z3
  rw [i3] at P
  refine P.mono ?_
  clear P
  rintro e w9 ⟨rfl, hb⟩
  have hv' := Lib.hid (hv.out.up hb)
  have hB' := Lib.hid (hB.out.trans (hb.mono hB.out.size))
  clear hv hB hb
  have hv := hv'
  have hB := hB'
  clear hv' hB'
  go_wp2_with fail
  refine (K.chn hv.out (-1) zm).mono ?_
  rintro e w10 ⟨vc, rfl, hS, hb⟩
  rw [e6] at hS
  obtain ⟨ca, cc, rfl⟩ := hS.form
  clear hS
  have hv' := Lib.hid (hv.out.up hb)
  have hB' := Lib.hid (hB.out.trans (hb.mono hB.out.size))
  clear hv hB hb
  have hv := hv'
  have hB := hB'
  clear hv' hB'
  go_wp2_with fail
  have P := K.right (hv.out.drop 1 (by omega)) 0 0 z0 z0
  rw [e7] at P
  refine P.mono ?_
  clear P
  rintro e w11 ⟨rfl, hb⟩
  have hv' := Lib.hid (hv.out.up hb)
  have hB' := Lib.hid (hB.out.trans (hb.mono hB.out.size))
  clear hv hB hb
  have hv := hv'
  have hB := hB'
  clear hv' hB'
  go_wp2
  go_ret
  exact ⟨rfl, hB.out⟩
end Wd
end Go.Proofs.Ytlbekicalinglaa
