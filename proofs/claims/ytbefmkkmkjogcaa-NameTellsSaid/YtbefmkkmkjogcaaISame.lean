/- Names, keys: the law's 'same' over what it asks of the package. -/
import Derived.Test.YtbefmkkmkjogcaaIKcs
import Derived.Deep.CutBlock
import Derived.Deep.MidRow
namespace Go.Proofs.Ytbefmkkmkjogcaa
open Go.RowKit
set_option linter.unusedVariables false
set_option maxRecDepth 20000
namespace Wd
theorem key_self_k (b : ByteArray) (w : World) : (Op.equalIn 10000 33 (.agg (kcs b)) (.agg (kcs b))).run Try.prog w = .ok true w := by
  unfold kcs
  rw [key_eq]
  simp only [beq_self_eq_true, Bool.and_self]
theorem key_self_z (w : World) : (Op.equalIn 10000 33 (.agg zcs) (.agg zcs)).run Try.prog w = .ok true w := by
  unfold zcs
  rw [key_eq]
  simp only [beq_self_eq_true, Bool.and_self]
theorem rowKey : ∃ d, Try.prog.underlying 33 = some d ∧ d.isRow = true := ⟨_, rfl, rfl⟩
theorem infoKey : (Try.prog.info? 33).map (·.size) = some 16 := rfl
theorem range_of {w : World} {g : Nat} {c : Array Value} {t : TypeId} (h : w.heap[g]? = some (.cells c t (0, 0))) (h16 : c.size = 16) : w.rangeAt g 0 c.toList := by
  intro j v hv
  have := World.rangeAt_of_block h 0 16
  rw [Array.extract_eq_self_of_le (by omega)] at this
  exact this j v hv
/-- two blocks hold one key -/
structure Two (w wx : World) (g g2 : Nat) (c : Array Value) : Prop where
  a : wx.heap[g]? = some (.cells c 33 (0, 0))
  b : wx.heap[g2]? = some (.cells c 33 (0, 0))
  bel : Below w.heap.size w wx
theorem Two.keep {w wx wy : World} {g g2 : Nat} {c : Array Value} (h : Two w wx g g2 c) (hb : Below wx.heap.size wx wy) : Two w wy g g2 c := by
  have ga := (Array.getElem?_eq_some_iff.1 h.a).1
  have gb := (Array.getElem?_eq_some_iff.1 h.b).1
  exact ⟨(hb.block g ga).trans h.a, (hb.block g2 gb).trans h.b, h.bel.trans (hb.mono h.bel.size)⟩
/-- a key, cell by cell -/
def KeyC (c : Array Value) : Prop := ∃ x0 x1 x2 x3 x4 x5 x6 x7 x8 x9 x10 x11 x12 x13 x14 x15 : Int, c = #[.int .u8 x0, .int .u8 x1, .int .u8 x2, .int .u8 x3, .int .u8 x4, .int .u8 x5, .int .u8 x6, .int .u8 x7, .int .u8 x8, .int .u8 x9, .int .u8 x10, .int .u8 x11, .int .u8 x12, .int .u8 x13, .int .u8 x14, .int .u8 x15]
theorem keyC_k (b : ByteArray) : KeyC (kcs b) := ⟨_, _, _, _, _, _, _, _, _, _, _, _, _, _, _, _, rfl⟩
theorem keyC_z : KeyC zcs := ⟨_, _, _, _, _, _, _, _, _, _, _, _, _, _, _, _, rfl⟩
theorem lit_cells {w : World} {g : Nat} {t : TypeId} {x0 x1 x2 x3 x4 x5 x6 x7 x8 x9 x10 x11 x12 x13 x14 x15 : Int} (h : w.heap[g]? = some (.cells #[.int .u8 x0, .int .u8 x1, .int .u8 x2, .int .u8 x3, .int .u8 x4, .int .u8 x5, .int .u8 x6, .int .u8 x7, .int .u8 x8, .int .u8 x9, .int .u8 x10, .int .u8 x11, .int .u8 x12, .int .u8 x13, .int .u8 x14, .int .u8 x15] t (0, 0))) : w.cell? ⟨g, 0, none⟩ = some (.int .u8 x0) ∧ w.cell? ⟨g, 1, none⟩ = some (.int .u8 x1) ∧ w.cell? ⟨g, 2, none⟩ = some (.int .u8 x2) ∧ w.cell? ⟨g, 3, none⟩ = some (.int .u8 x3) ∧ w.cell? ⟨g, 4, none⟩ = some (.int .u8 x4) ∧ w.cell? ⟨g, 5, none⟩ = some (.int .u8 x5) ∧ w.cell? ⟨g, 6, none⟩ = some (.int .u8 x6) ∧ w.cell? ⟨g, 7, none⟩ = some (.int .u8 x7) ∧ w.cell? ⟨g, 8, none⟩ = some (.int .u8 x8) ∧ w.cell? ⟨g, 9, none⟩ = some (.int .u8 x9) ∧ w.cell? ⟨g, 10, none⟩ = some (.int .u8 x10) ∧ w.cell? ⟨g, 11, none⟩ = some (.int .u8 x11) ∧ w.cell? ⟨g, 12, none⟩ = some (.int .u8 x12) ∧ w.cell? ⟨g, 13, none⟩ = some (.int .u8 x13) ∧ w.cell? ⟨g, 14, none⟩ = some (.int .u8 x14) ∧ w.cell? ⟨g, 15, none⟩ = some (.int .u8 x15) := by
  refine ⟨?_, ?_, ?_, ?_, ?_, ?_, ?_, ?_, ?_, ?_, ?_, ?_, ?_, ?_, ?_, ?_⟩ <;> simp [World.cell?, h]
set_option maxHeartbeats 4000000 in
theorem same_c (K : NamK) (b : ByteArray) (w : World) :
    Calls Try.prog 7 #[.string b] w fun e w' => e = .returned (.bool true) ∧ Below w.heap.size w w' := by
  have PA := Lib.hid (args_c b)
  have P1 := Lib.hid (K.args b)
  have P2 := Lib.hid (K.right b)
  obtain ⟨tb, htb⟩ : ∃ tb, tb = decide (0 ≤ argsR b) := ⟨_, rfl⟩
  have PO : Hid (∃ c : Array Value, (c = if tb = true then kcs b else zcs) ∧ ∀ w, Calls Try.prog 13 #[.string b] w fun e w' => e = .returned (.tuple #[.agg c, .bool tb]) ∧ Below w.heap.size w w') := by
    refine Lib.hid ?_
    by_cases h0 : 0 ≤ argsR b
    · rw [decide_eq_true h0] at htb
      subst htb
      exact ⟨_, rfl, fun w => K.ofY b w h0⟩
    · rw [decide_eq_false h0] at htb
      subst htb
      exact ⟨_, rfl, fun w => K.ofN b w (by omega)⟩
  obtain ⟨c, hc, PO⟩ := PO.out
  replace PO := Lib.hid PO
  have hcC : Hid (KeyC c) := Lib.hid (by
    rw [hc]
    split
    · exact keyC_k b
    · exact keyC_z)
  have h16 : c.size = 16 := by rw [hc]; split <;> rfl
  have hr16 := Lib.hid h16
  have hsz : Hid (tb = true → b.size ≤ 16) := Lib.hid (fun h => args_size (by rw [h] at htb; exact of_decide_eq_true htb.symm))
  rw [← htb] at P2
  have hd : decide (argsR b ≥ 0) = tb := htb.symm
  have hc' := Lib.hid hc
  clear h16 htb hc
  generalize argsR b = r at *
  go_enter Try.func7, Try.ntmps7
  go_upto_region 2 with (first | (go_at_call 20; ((with_reducible refine (PA.out _).mono ?_); rintro e1 w2 ⟨rfl, hw2⟩; subst w2)))
  go_cut [4, 5] (fun i4 i5 wx => ∃ g : Nat, i4 = .pointer (some ⟨g, 0, none⟩) ∧ i5 = .bool tb ∧ Hid (wx.heap[g]? = some (.cells c 33 (0, 0))) ∧ Hid (Below w.heap.size w wx))
  case first =>
    as_aux_lemma =>
    cases tb with
    | true =>
      have hc2 : c = kcs b := hc'.out
      subst hc2
      unfold kcs at PO
      go_wp2_with (first | (go_at_call 13; ((with_reducible refine (PO.out _).mono ?_); rintro e1 w1 ⟨rfl, hB1⟩)))
      go_meet
      exact ⟨_, rfl, rfl, Lib.hid (heap_alloc_new _ _), Lib.hid (hB1.alloc hB1.size _)⟩
    | false =>
      have hc2 : c = zcs := hc'.out
      subst hc2
      unfold zcs at PO
      go_wp2_with (first | (go_at_call 13; ((with_reducible refine (PO.out _).mono ?_); rintro e1 w1 ⟨rfl, hB1⟩)))
      go_meet
      exact ⟨_, rfl, rfl, Lib.hid (heap_alloc_new _ _), Lib.hid (hB1.alloc hB1.size _)⟩
  case rest =>
    as_aux_lemma =>
    clear PO
    obtain ⟨g, rfl, rfl, hg, hB⟩ := hcut
    go_upto_if 15 with fail
    have hgl := (Array.getElem?_eq_some_iff.1 hg.out).1
    obtain ⟨g2, hg2⟩ : ∃ g2, g2 = wc.heap.size := ⟨_, rfl⟩
    replace hg2 := Lib.hid hg2
    go_cut [] (fun wx => Hid (Two w wx g g2 c))
    case first =>
      as_aux_lemma =>
      cases tb with
      | true =>
        have hcp := fun w0 : World => copy_key b (hsz.out rfl) w0
        have hd' : (0 : Int) ≤ r := of_decide_eq_true hd
        unfold zcs at hcp
        go_upto_region 5 with fail
        go_wp2_with fail
        go_meet
        have hc2 : c = kcs b := hc'.out
        subst hc2
        exact Lib.hid ⟨(Below.heap_alloc _ _ _ hgl).trans hg.out, by rw [hg2.out]; exact heap_alloc_new _ _, hB.out.alloc hB.out.size _⟩
      | false =>
        have hd' : ¬ (0 : Int) ≤ r := of_decide_eq_false hd
        go_wp2_with fail
        go_meet
        have hc2 : c = zcs := hc'.out
        subst hc2
        exact Lib.hid ⟨(Below.heap_alloc _ _ _ hgl).trans hg.out, by rw [hg2.out]; exact heap_alloc_new _ _, hB.out.alloc hB.out.size _⟩
    case rest =>
      as_aux_lemma =>
      clear hB
      have hT := hcut
      clear hcut hc' hsz
      obtain ⟨x0, x1, x2, x3, x4, x5, x6, x7, x8, x9, x10, x11, x12, x13, x14, x15, hcx⟩ := hcC.out
      subst hcx
      rw [← hg2.out]
      clear hg2 hr16 hcC
      go_wp2_with (first | (go_at_call 19; ((with_reducible refine (P1.out _).mono ?_); rintro e1 w3 ⟨rfl, hB3⟩; replace hT := Lib.hid (hT.out.keep hB3); clear hB3)) | (go_at_call 14; ((with_reducible refine (P2.out _).mono ?_); rintro e2 w4 ⟨rfl, hB4⟩; replace hT := Lib.hid (hT.out.keep hB4); clear hB4; obtain ⟨a0, a1, a2, a3, a4, a5, a6, a7, a8, a9, a10, a11, a12, a13, a14, a15⟩ := lit_cells hT.out.a; obtain ⟨b0, b1, b2, b3, b4, b5, b6, b7, b8, b9, b10, b11, b12, b13, b14, b15⟩ := lit_cells hT.out.b)))
      rw [key_eq]
      simp only [beq_self_eq_true, Bool.and_self, Result.andThen_ok]
      go_wp2
      go_ret
      exact ⟨rfl, hT.out.bel⟩
end Wd
end Go.Proofs.Ytbefmkkmkjogcaa
