/- The landed table of names: Intern. -/
import Derived.Test.YtbefmkkmkjogcaaLF
import Derived.Test.YtbefmkkmkjogcaaISame
namespace Go.Proofs.Ytbefmkkmkjogcaa
open Go.RowKit Go.Maps
set_option linter.unusedVariables false
set_option maxRecDepth 20000
namespace Wd
section
variable {w w1 : World} {p m : Nat} {v : Value} {l : List ByteArray} {F : Nat → Prop}
theorem pos_none_find {l : List ByteArray} {b : ByteArray} (h : posR l b = none) : findR l b = -1 := by unfold findR; rw [h]
set_option maxHeartbeats 16000000 in
theorem kint_had (h : NP w p m v l) {b : ByteArray} {k : Nat} (hp : posR l b = some k) :
    Calls Try.prog 12 #[.pointer (some ⟨p, 0, none⟩), .string b] w fun e w' => e = .returned (.int .i64 (k : Nat)) ∧ Below w.heap.size w w' := by
  have PF := kfind_c h b
  have e : findR l b = (k : Nat) := by unfold findR; rw [hp]
  rw [e] at PF
  have hne : ((k : Int) == -1) = false := by simp
  clear h e hp
  go_enter Try.func12, Try.ntmps12
  go_wp2_with fail
  refine PF.mono ?_
  rintro e w1 ⟨rfl, hb⟩
  clear PF
  replace hb := Lib.hid hb
  go_wp2
  go_ret
  exact ⟨rfl, hb.out⟩
set_option maxHeartbeats 16000000 in
theorem kint_no (h : NP w p m v l) {b : ByteArray} (hp : posR l b = none) (hb : argsR b < 0) :
    Calls Try.prog 12 #[.pointer (some ⟨p, 0, none⟩), .string b] w fun e w' => e = .returned (.int .i64 (-1)) ∧ Below w.heap.size w w' := by
  have PF := kfind_c h b
  rw [pos_none_find hp] at PF
  have PO := fun w => kof_n b w hb
  have hlp : Hid (∀ w1, Below w.heap.size w w1 → w1.cell? ⟨p, 0, none⟩ = some v ∧ p < w1.heap.size) := Lib.hid (fun w1 g => ⟨(h.keep g).c0, (h.keep g).lt p (Or.inl rfl)⟩)
  obtain ⟨ad, c, rfl⟩ := h.form
  generalize l.length = n at *
  clear h hp hb
  unfold zcs at PO
  go_enter Try.func12, Try.ntmps12
  go_wp2_with fail
  refine PF.mono ?_
  rintro e w1 ⟨rfl, hb1⟩
  clear PF
  go_wp2_with fail
  refine (PO w1).mono ?_
  rintro e w2 ⟨rfl, hb2⟩
  replace hb2 := hb1.trans (hb2.mono hb1.size)
  obtain ⟨c0, lp⟩ := hlp.out w2 hb2
  have hB3 := Lib.hid (hb2.alloc hb2.size (.cells zcs 33))
  unfold zcs at hB3
  clear PO hb1 hb2 hlp
  go_wp2
  go_ret
  exact ⟨rfl, hB3.out⟩
set_option maxHeartbeats 16000000 in
theorem kint_full (h : NP w p m v l) {b : ByteArray} (hp : posR l b = none) (hb : 0 ≤ argsR b) (hl : l.length = 48) :
    Calls Try.prog 12 #[.pointer (some ⟨p, 0, none⟩), .string b] w fun e w' => e = .returned (.int .i64 (-1)) ∧ Below w.heap.size w w' := by
  have PF := kfind_c h b
  rw [pos_none_find hp] at PF
  have PO := fun w => kof_y b w hb
  have hlp : Hid (∀ w1, Below w.heap.size w w1 → w1.cell? ⟨p, 0, none⟩ = some v ∧ p < w1.heap.size) := Lib.hid (fun w1 g => ⟨(h.keep g).c0, (h.keep g).lt p (Or.inl rfl)⟩)
  obtain ⟨ad, c, rfl⟩ := h.form
  rw [hl] at hlp
  clear h hp hb hl
  unfold kcs at PO
  generalize kn b 0 = k0 at *
  generalize kn b 1 = k1 at *
  generalize kn b 2 = k2 at *
  generalize kn b 3 = k3 at *
  generalize kn b 4 = k4 at *
  generalize kn b 5 = k5 at *
  generalize kn b 6 = k6 at *
  generalize kn b 7 = k7 at *
  generalize kn b 8 = k8 at *
  generalize kn b 9 = k9 at *
  generalize kn b 10 = k10 at *
  generalize kn b 11 = k11 at *
  generalize kn b 12 = k12 at *
  generalize kn b 13 = k13 at *
  generalize kn b 14 = k14 at *
  generalize kn b 15 = k15 at *
  go_enter Try.func12, Try.ntmps12
  go_wp2_with fail
  refine PF.mono ?_
  rintro e w1 ⟨rfl, hb1⟩
  clear PF
  go_wp2_with fail
  refine (PO w1).mono ?_
  rintro e w2 ⟨rfl, hb2⟩
  replace hb2 := hb1.trans (hb2.mono hb1.size)
  obtain ⟨c0, lp⟩ := hlp.out w2 hb2
  have hB3 := Lib.hid (hb2.alloc hb2.size (.cells #[.int .u8 k0, .int .u8 k1, .int .u8 k2, .int .u8 k3, .int .u8 k4, .int .u8 k5, .int .u8 k6, .int .u8 k7, .int .u8 k8, .int .u8 k9, .int .u8 k10, .int .u8 k11, .int .u8 k12, .int .u8 k13, .int .u8 k14, .int .u8 k15] 33))
  clear PO hb1 hb2 hlp
  go_wp2
  go_ret
  exact ⟨rfl, hB3.out⟩
end
end Wd
end Go.Proofs.Ytbefmkkmkjogcaa
