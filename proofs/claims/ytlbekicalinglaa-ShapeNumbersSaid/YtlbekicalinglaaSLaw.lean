/- What the laws ask of the package's judgement of classes. -/
import Derived.Test.YtlbekicalinglaaSShape
namespace Go.Proofs.Ytlbekicalinglaa
open Go.RowKit
set_option linter.unusedVariables false
set_option maxRecDepth 20000
namespace Wd
structure ShapeK : Prop where
  right : ∀ {w : World} {v : Value} {L : List ClassA}, ClV w v L → ∀ (names methods : Int), In64 names → In64 methods → Calls Try.prog 13 #[v, .int .i64 names, .int .i64 methods] w fun e w' => e = .returned (.int .i64 (shapeR L names methods)) ∧ Below w.heap.size w w'
  chn : ∀ {w : World} {v : Value} {L : List ClassA}, ClV w v L → ∀ (i : Int), In64 i → Calls Try.prog 15 #[v, .int .i64 i] w fun e w' => ∃ v', e = .returned v' ∧ SL w' 3 v' (chain L i) ∧ Below w.heap.size w w'
  depth : ∀ {w : World} {v : Value} {L : List ClassA}, ClV w v L → ∀ (i : Int), In64 i → Calls Try.prog 16 #[v, .int .i64 i] w fun e w' => e = .returned (.int .i64 ((chain L i).length : Nat)) ∧ Below w.heap.size w w'
  is : ∀ {w : World} {v : Value} {L : List ClassA}, ClV w v L → ∀ (i k : Int), In64 i → In64 k → Calls Try.prog 18 #[v, .int .i64 i, .int .i64 k] w fun e w' => e = .returned (.bool (decide (k ∈ chain L i))) ∧ Below w.heap.size w w'
theorem SL.up {w w' : World} {e : TypeId} {v : Value} {L : List Int} (h : SL w e v L) (b : Below w.heap.size w w') : SL w' e v L := SL.keep h b
theorem mem_take {C : List Int} {j : Nat} {x k : Int} (h : C[j]? = some x) : decide (k ∈ C.take (j + 1)) = (decide (k ∈ C.take j) || decide (x = k)) := by
  rw [take_next h]
  simp only [List.mem_append, List.mem_singleton, Bool.decide_or]
  congr 1
  rw [decide_eq_decide]
  exact eq_comm
theorem SL.at {w : World} {e : TypeId} {a : Option Addr} {n c : Nat} {L : List Int} (h : SL w e (.slice a n c) L) {k : Nat} {x : Int} (hx : L[k]? = some x) : ∃ g, a = some ⟨g, 0, none⟩ ∧ w.cell? ⟨g, k, none⟩ = some (.int .i64 x) := by
  have hk := (List.getElem?_eq_some_iff.1 hx).1
  rcases h.cases with ⟨e1, e2⟩ | ⟨g, cap, e1, _, _, _, ho⟩
  · subst e2; simp at hx
  · cases e1
    exact ⟨g, rfl, row_cell ho hx⟩
/-- a chain is told over once, whether it holds a number -/
structure InR (C : List Int) (k : Int) (j : Nat) (c : Bool) : Prop where
  eq : c = decide (k ∈ C.take j)
set_option maxHeartbeats 16000000 in
theorem same_c (K : ShapeK) {w : World} {v : Value} {L : List ClassA} (h : ClV w v L) (names methods i k : Int) (hn : In64 names) (hm : In64 methods) (hi : In64 i) (hk : In64 k) :
    Calls Try.prog 10 #[v, .int .i64 names, .int .i64 methods, .int .i64 i, .int .i64 k] w fun e w' => e = .returned (.bool true) ∧ Below w.heap.size w w' := by
  go_enter Try.func10, Try.ntmps10
  go_wp2_with fail
  refine (chain_c h i hi).mono ?_
  rintro e w1 ⟨v1, rfl, hS, hB⟩
  have hCl := chain_len L i
  have hv := Lib.hid (h.up hB)
  obtain ⟨C, hC⟩ : ∃ C, C = chain L i := ⟨_, rfl⟩
  rw [← hC] at hS hCl
  obtain ⟨a, c, rfl⟩ := hS.form
  obtain ⟨n, hnl⟩ : ∃ n, n = C.length := ⟨_, rfl⟩
  rw [← hnl] at hS hCl ⊢
  have hnl' := Lib.hid hnl
  have hC' := Lib.hid hC
  replace hS := Lib.hid hS
  have hB' := Lib.hid hB
  have hst : Hid (InR C k 0 false) := Lib.hid ⟨by simp⟩
  clear hnl hC hB h
  go_wp2
  go_loopw [12, 20] (fun i12 i20 wr => ∃ (j : Nat) (b : Bool), j ≤ n ∧ i20 = .int .i64 j ∧ i12 = .bool b ∧ Hid (InR C k j b) ∧ wr = w1) (fun _ i20 _ => n - (intOf i20).toNat)
  case atStart => exact ⟨0, false, by omega, rfl, rfl, hst, rfl⟩
  case round =>
    clear hst
    obtain ⟨j, b, hj, rfl, rfl, hR, rfl⟩ := hrel
    by_cases hlt : j < n
    · have hlt' : decide ((j : Int) < (n : Int)) = true := by simp; omega
      have p0 : (0 : Int) ≤ (j : Int) := by omega
      have p1 : (j : Int) < (n : Int) := by omega
      obtain ⟨x, hx⟩ : ∃ x, C[j]? = some x := ⟨C[j]'(by have := hnl'.out; omega), by simp⟩
      obtain ⟨g, rfl, hc⟩ := hS.out.at hx
      have hnx := Lib.hid (mem_take (k := k) hx)
      clear hx
      cases b with
      | true =>
        have hR' : Hid (InR C k (j + 1) true) := Lib.hid ⟨by rw [hnx.out, ← hR.out.eq]; rfl⟩
        go_wp2
        go_roundw
        case rel => exact ⟨j + 1, true, by omega, by go_num, rfl, hR', trivial⟩
        case measure => simp [intOf]; omega
      | false =>
        by_cases he : x = k
        · have hR' : Hid (InR C k (j + 1) true) := Lib.hid ⟨by rw [hnx.out, ← hR.out.eq]; simp [he]⟩
          have he' : (x == k) = true := by simpa using he
          clear he
          go_wp2
          go_roundw
          case rel => exact ⟨j + 1, true, by omega, by go_num, rfl, hR', trivial⟩
          case measure => simp [intOf]; omega
        · have hR' : Hid (InR C k (j + 1) false) := Lib.hid ⟨by rw [hnx.out, ← hR.out.eq]; simp [he]⟩
          have he' : (x == k) = false := by simpa using he
          go_wp2
          go_roundw
          case rel => exact ⟨j + 1, false, by omega, by go_num, rfl, hR', trivial⟩
          case measure => simp [intOf]; omega
    · have hbe : Hid (b = decide (k ∈ C)) := Lib.hid (by have := hR.out.eq; rw [show j = C.length by have := hnl'.out; omega, List.take_length] at this; exact this)
      clear hR
      go_wp2_with fail
      refine (K.right hv.out names methods hn hm).mono ?_
      rintro e w2 ⟨rfl, hb2⟩
      have hv2 := Lib.hid (hv.out.up hb2)
      have hS2 := Lib.hid (hS.out.up hb2)
      have hB2 := Lib.hid (hB'.out.trans (hb2.mono hB'.out.size))
      clear hv hS hB' hb2
      go_wp2_with fail
      refine (shape_c hv2.out names methods hn hm).mono ?_
      rintro e w3 ⟨rfl, hb2⟩
      have hv := Lib.hid (hv2.out.up hb2)
      have hS := Lib.hid (hS2.out.up hb2)
      have hB' := Lib.hid (hB2.out.trans (hb2.mono hB2.out.size))
      clear hv2 hS2 hB2 hb2
      generalize shapeR L names methods = r at *
      go_wp2_with fail
      refine (K.chn hv.out i hi).mono ?_
      rintro e w4 ⟨v2, rfl, hT, hb2⟩
      have hv2 := Lib.hid (hv.out.up hb2)
      have hS2 := Lib.hid (hS.out.up hb2)
      have hB2 := Lib.hid (hB'.out.trans (hb2.mono hB'.out.size))
      rw [← hC'.out] at hT
      obtain ⟨a2, c2, rfl⟩ := hT.form
      rw [← hnl'.out] at hT ⊢
      clear hv hS hB' hb2
      have PS := same_ints C C _ _ w4 hT hS2.out (by have := hnl'.out; omega) (by have := hnl'.out; omega)
      rw [decide_eq_true (rfl : C = C)] at PS
      go_wp2_with fail
      refine PS.mono ?_
      rintro e w5 ⟨rfl, q, hw5⟩
      have hb2 : Below w4.heap.size w4 w5 := by rw [hw5]; exact drewK _ _
      have hv := Lib.hid (hv2.out.up hb2)
      have hB' := Lib.hid (hB2.out.trans (hb2.mono hB2.out.size))
      clear hv2 hS2 hB2 hb2 hw5 hT PS
      go_wp2_with fail
      refine (K.depth hv.out i hi).mono ?_
      rintro e w6 ⟨he6, hb2⟩
      have hv2 := Lib.hid (hv.out.up hb2)
      have hB2 := Lib.hid (hB'.out.trans (hb2.mono hB'.out.size))
      rw [← hC'.out, ← hnl'.out] at he6
      subst he6
      clear hv hB' hb2
      go_wp2_with fail
      refine (K.is hv2.out i k hi hk).mono ?_
      rintro e w7 ⟨he7, hb2⟩
      have hB' := Lib.hid (hB2.out.trans (hb2.mono hB2.out.size))
      rw [← hC'.out, ← hbe.out] at he7
      subst he7
      clear hv2 hB2 hb2
      go_wp2
      go_ret
      exact ⟨by simp, hB'.out⟩
end Wd
end Go.Proofs.Ytlbekicalinglaa
