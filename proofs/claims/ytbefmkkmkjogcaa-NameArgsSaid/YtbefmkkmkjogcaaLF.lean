/- The landed table of names: Find, At. -/
import Derived.Test.YtbefmkkmkjogcaaLN
import Derived.Deep.MidRow
namespace Go.Proofs.Ytbefmkkmkjogcaa
open Go.RowKit Go.Maps
set_option linter.unusedVariables false
set_option maxRecDepth 20000
namespace Wd
theorem kcs_lit (b : ByteArray) : kcs b = #[.int .u8 (kn b 0), .int .u8 (kn b 1), .int .u8 (kn b 2), .int .u8 (kn b 3), .int .u8 (kn b 4), .int .u8 (kn b 5), .int .u8 (kn b 6), .int .u8 (kn b 7), .int .u8 (kn b 8), .int .u8 (kn b 9), .int .u8 (kn b 10), .int .u8 (kn b 11), .int .u8 (kn b 12), .int .u8 (kn b 13), .int .u8 (kn b 14), .int .u8 (kn b 15)] := rfl
theorem kk_right {b : ByteArray} (h : 0 ≤ argsR b) : Kk b.data.toList := ⟨right_pos h, right_len h⟩
section
variable {w w1 : World} {p m : Nat} {v : Value} {l : List ByteArray} {F : Nat → Prop}
theorem NP.not_in (h : NP w p m v l) {b : ByteArray} (hb : argsR b < 0) : posR l b = none := pos_not (fun hm => by have := h.rt b hm; omega)
set_option maxHeartbeats 16000000 in
theorem kfind_n (h : NP w p m v l) {b : ByteArray} (hb : argsR b < 0) :
    Calls Try.prog 17 #[.pointer (some ⟨p, 0, none⟩), .string b] w fun e w' => e = .returned (.int .i64 (findR l b)) ∧ Below w.heap.size w w' := by
  have PO := kof_n b w hb
  unfold findR
  rw [h.not_in hb]
  simp only
  clear h hb
  unfold zcs at PO
  go_enter Try.func17, Try.ntmps17
  go_wp2_with fail
  refine PO.mono ?_
  rintro e w1 ⟨rfl, hb⟩
  clear PO
  have hB1 := Lib.hid (hb.alloc hb.size (.cells zcs 33))
  unfold zcs at hB1
  clear hb
  go_wp2_with fail
  go_ret
  exact ⟨rfl, hB1.out⟩
set_option maxHeartbeats 16000000 in
theorem kfind_y (h : NP w p m v l) {b : ByteArray} (hb : 0 ≤ argsR b) :
    Calls Try.prog 17 #[.pointer (some ⟨p, 0, none⟩), .string b] w fun e w' => e = .returned (.int .i64 (findR l b)) ∧ Below w.heap.size w w' := by
  have PO := kof_y b w hb
  have hlk : Hid (∀ w1, Below w.heap.size w w1 → (Instr.lookup 40 (.map (some m)) (.agg (kcs b)) true).run Try.prog w1 = .ok (.tuple #[.int .i64 ((numM l b.data.toList).getD 0), .bool (numM l b.data.toList).isSome]) w1 ∧ w1.cell? ⟨p, 1, none⟩ = some (.map (some m)) ∧ p < w1.heap.size) := Lib.hid (fun w1 g => ⟨(h.keep g).mp.look_ok (kk_right hb), (h.keep g).c1, (h.keep g).lt p (Or.inl rfl)⟩)
  rw [numM_of] at hlk
  unfold findR
  clear h hb
  have key : ∀ (x : Int) (y : Bool) (r : Int), r = (if y = true then x else -1) → Hid (∀ w1, Below w.heap.size w w1 → (Instr.lookup 40 (.map (some m)) (.agg (kcs b)) true).run Try.prog w1 = .ok (.tuple #[.int .i64 x, .bool y]) w1 ∧ w1.cell? ⟨p, 1, none⟩ = some (.map (some m)) ∧ p < w1.heap.size) → Calls Try.prog 17 #[.pointer (some ⟨p, 0, none⟩), .string b] w fun e w' => e = .returned (.int .i64 r) ∧ Below w.heap.size w w' := by
    clear hlk
    intro x y r hr hlk
    rw [kcs_lit] at PO hlk
    generalize kn b 0 = k0 at *
    generalize kn b 1 = k1 at *
    generalize kn b 2 = k2 at *
    generalize kn b 3 = k3 at *
    generalize kn b 4 = k4 at *
    generalize kn b 5 = k5 at *
    generalize kn b 6 = k6 at *
    generalize kn b 7 = k7 at *
    generalize kn b 8 = k8 at *
    generalize kn b 9 = k9 at *
    generalize kn b 10 = k10 at *
    generalize kn b 11 = k11 at *
    generalize kn b 12 = k12 at *
    generalize kn b 13 = k13 at *
    generalize kn b 14 = k14 at *
    generalize kn b 15 = k15 at *
    go_enter Try.func17, Try.ntmps17
    go_wp2_with fail
    refine PO.mono ?_
    rintro e w1 ⟨rfl, hb⟩
    clear PO
    go_upto_region 4 with fail
    have hB2 := Lib.hid ((hb.alloc hb.size (.cells #[.int .u8 k0, .int .u8 k1, .int .u8 k2, .int .u8 k3, .int .u8 k4, .int .u8 k5, .int .u8 k6, .int .u8 k7, .int .u8 k8, .int .u8 k9, .int .u8 k10, .int .u8 k11, .int .u8 k12, .int .u8 k13, .int .u8 k14, .int .u8 k15] 33)).drew)
    have hrun := (hlk.out _ hB2.out).1
    obtain ⟨_, c1, lp⟩ := hlk.out _ hb
    clear hlk hb
    cases y with
    | true =>
      rw [if_pos rfl] at hr
      subst hr
      go_region
      go_wp2
      go_ret
      exact ⟨rfl, hB2.out⟩
    | false =>
      rw [if_neg Bool.false_ne_true] at hr
      subst hr
      go_region
      go_wp2
      go_ret
      exact ⟨rfl, hB2.out⟩
  cases hp : posR l b with
  | none => rw [hp] at hlk; exact key 0 false _ rfl hlk
  | some k => rw [hp] at hlk; exact key k true _ rfl hlk
theorem kfind_c (h : NP w p m v l) (b : ByteArray) :
    Calls Try.prog 17 #[.pointer (some ⟨p, 0, none⟩), .string b] w fun e w' => e = .returned (.int .i64 (findR l b)) ∧ Below w.heap.size w w' := by
  by_cases hb : 0 ≤ argsR b
  · exact kfind_y h hb
  · exact kfind_n h (by omega)
set_option maxHeartbeats 16000000 in
theorem kat_c (h : NP w p m v l) (i : Int) (h0 : -9223372036854775808 ≤ i) (h1 : i ≤ 9223372036854775807) :
    Calls Try.prog 15 #[.pointer (some ⟨p, 0, none⟩), .int .i64 i] w fun e w' => e = .returned (.string (nameAt l i)) ∧ Below w.heap.size w w' := by
  by_cases hi : 0 ≤ i
  · have hi' : decide (i < 0) = false := by simp; omega
    by_cases hn : i < l.length
    · obtain ⟨k, rfl⟩ : ∃ k : Nat, i = k := ⟨i.toNat, by omega⟩
      obtain ⟨b, hb⟩ : ∃ b, l[k]? = some b := ⟨l[k]'(by omega), by simp⟩
      obtain ⟨g, c, rfl, hc⟩ := h.key hb
      have hle := h.le
      have e : nameAt l (k : Int) = b := by
        unfold nameAt
        rw [if_pos (by omega), Int.toNat_natCast, hb]; rfl
      have hr := h.rt b (List.mem_of_getElem? hb)
      rw [e]
      have PT := ktext_c b.data.toList w
      rw [text_right hr, ← kcs_key, kcs_lit] at PT
      have hn' : decide ((k : Int) ≥ (l.length : Int)) = false := by simp; omega
      have c0 := h.c0
      have a0 := hc 0 (by omega)
      have a1 := hc 1 (by omega)
      have a2 := hc 2 (by omega)
      have a3 := hc 3 (by omega)
      have a4 := hc 4 (by omega)
      have a5 := hc 5 (by omega)
      have a6 := hc 6 (by omega)
      have a7 := hc 7 (by omega)
      have a8 := hc 8 (by omega)
      have a9 := hc 9 (by omega)
      have a10 := hc 10 (by omega)
      have a11 := hc 11 (by omega)
      have a12 := hc 12 (by omega)
      have a13 := hc 13 (by omega)
      have a14 := hc 14 (by omega)
      have a15 := hc 15 (by omega)
      rw [kcs_lit] at a0 a1 a2 a3 a4 a5 a6 a7 a8 a9 a10 a11 a12 a13 a14 a15
      simp only [List.getElem?_cons_zero, List.getElem?_cons_succ, Nat.add_zero] at a0 a1 a2 a3 a4 a5 a6 a7 a8 a9 a10 a11 a12 a13 a14 a15
      clear h hc hb hr e h0 h1
      generalize l.length = n at *
      go_enter Try.func15, Try.ntmps15
      go_wp2_with fail
      refine PT.mono ?_
      rintro e w1 ⟨rfl, hb⟩
      replace hb := Lib.hid hb
      clear PT a0 a1 a2 a3 a4 a5 a6 a7 a8 a9 a10 a11 a12 a13 a14 a15
      go_wp2
      go_ret
      exact ⟨rfl, hb.out⟩
    · have e : nameAt l i = ⟨#[]⟩ := by
        unfold nameAt
        rw [if_pos hi, List.getElem?_eq_none (by omega)]; rfl
      rw [e]
      obtain ⟨a, c, rfl⟩ := h.form
      have hn' : decide (i ≥ (l.length : Int)) = true := by simp; omega
      have c0 := h.c0
      generalize l.length = n at *
      clear h e
      go_enter Try.func15, Try.ntmps15
      go_wp2
      go_ret
      exact ⟨rfl, Below.refl _ _⟩
  · have e : nameAt l i = ⟨#[]⟩ := by unfold nameAt; rw [if_neg hi]
    rw [e]
    have hi' : decide (i < 0) = true := by simp; omega
    clear h e
    go_enter Try.func15, Try.ntmps15
    go_wp2
    go_ret
    exact ⟨rfl, Below.refl _ _⟩
end
end Wd
end Go.Proofs.Ytbefmkkmkjogcaa
