/- The landed package is what the laws ask of it. -/
import Derived.Test.YtlbekicalinglaaQCls
import Derived.Test.YtlbekicalinglaaQBind
namespace Go.Proofs.Ytlbekicalinglaa
open Go.RowKit
set_option linter.unusedVariables false
set_option maxRecDepth 20000
namespace Wd
theorem name_of {A : List ClassA} {nm : ByteArray} (h : nameR A nm = true) : textOk nm = true ∧ ∀ x ∈ A, x.nm ≠ nm := by
  unfold nameR at h
  rw [Bool.and_eq_true] at h
  refine ⟨h.1, fun x hx e => ?_⟩
  have : A.any (fun x => decide (x.nm = nm)) = true := List.any_eq_true.2 ⟨x, hx, by simpa using e⟩
  rw [this] at h
  exact absurd h.2 (by decide)
theorem ShR.nm {L : List ClassA} {names methods : Int} {k : Nat} {c : ClassA} (h : ShR L names methods k) (hc : L[k]? = some c) (e : nameR (L.take k) c.nm = false) : shapeR L names methods = 13 := by
  rw [h.eq, drop_next hc, shapeFrom]
  by_cases ht : textOk c.nm = false
  · rw [if_pos ht]
  · rw [if_neg ht]
    have : (L.take k).any (fun x => decide (x.nm = c.nm)) = true := by
      unfold nameR at e
      have ht' : textOk c.nm = true := by simpa using ht
      rw [ht', Bool.true_and] at e
      simpa using e
    rw [if_pos this]
set_option maxHeartbeats 16000000 in
theorem kright {w : World} {v : Value} {L : List ClassA} (h : ClV w v L) (names methods : Int) (hn : In64 names) (hm : In64 methods) :
    Calls Try.prog 13 #[v, .int .i64 names, .int .i64 methods] w fun e w' => e = .returned (.int .i64 (shapeR L names methods)) ∧ Below w.heap.size w w' := by
  obtain ⟨ad, cap, rfl, hcap, hmx⟩ := h.form
  obtain ⟨n, hnn⟩ : ∃ n, n = L.length := ⟨_, rfl⟩
  rw [← hnn] at h hcap ⊢
  replace h := Lib.hid h
  have hn' := Lib.hid hnn
  by_cases q0 : n < 2
  · have e := Lib.hid (shape_short (names := names) (methods := methods) (Or.inl (by omega : L.length < 2)))
    have q0' : decide ((n : Int) < 2) = true := by simp; omega
    go_enter Try.func13, Try.ntmps13
    go_wp2
    go_ret
    exact ⟨congrArg (fun b => Ending.returned (Value.int .i64 b)) e.out.symm, Below.refl _ _⟩
  have q0' : decide ((n : Int) < 2) = false := by simp; omega
  by_cases q1 : 12 < n
  · have e := Lib.hid (shape_short (names := names) (methods := methods) (Or.inr (by omega : 12 < L.length)))
    have q1' : decide ((n : Int) > 12) = true := by simp; omega
    go_enter Try.func13, Try.ntmps13
    go_wp2
    go_ret
    exact ⟨congrArg (fun b => Ending.returned (Value.int .i64 b)) e.out.symm, Below.refl _ _⟩
  have q1' : decide ((n : Int) > 12) = false := by simp; omega
  have q2' : (0 : Int) < (n : Int) := by omega
  have q3' : (1 : Int) < (n : Int) := by omega
  obtain ⟨⟨an, sa, af, ab⟩, ha⟩ : ∃ x, L[0]? = some x := ⟨L[0]'(by omega), by simp⟩
  obtain ⟨⟨bn, sb, bf, bb⟩, hb⟩ : ∃ x, L[1]? = some x := ⟨L[1]'(by omega), by simp⟩
  have hh := head_at ha hb
  obtain ⟨_, _, g, off, av, rfl, c0, c1, c2, c3, _⟩ := h.out.at ha
  obtain ⟨_, _, g', off', bv, eg, d0, d1, d2, d3, _⟩ := h.out.at hb
  cases eg
  clear hmx
  simp only at c0 c1 c2 d0 d1 d2 hh
  simp only [Nat.zero_mul, Nat.add_zero] at c0 c1 c2 c3
  simp only [Nat.one_mul] at d0 d1 d2 d3
  have d0' := Lib.hid d0
  have d1' := Lib.hid d1
  have d2' := Lib.hid d2
  have d3' := Lib.hid d3
  clear d0 d1 d2 d3
  obtain ⟨b1, hb1⟩ : ∃ b, b = (decide (sa = -1) && decide (af = 4)) := ⟨_, rfl⟩
  obtain ⟨b2, hb2⟩ : ∃ b, b = (decide (sb = -1) && decide (bf = 0)) := ⟨_, rfl⟩
  have P1 := Lib.hid (fun w => isroot_c an sa af av 4 w b1 hb1)
  have P2 := Lib.hid (fun w => isroot_c bn sb bf bv 0 w b2 hb2)
  have hh' : headOk L = (b1 && b2) := by
    rw [hh, hb1, hb2]
    cases decide (sa = -1) <;> cases decide (af = 4) <;> cases decide (sb = -1) <;> cases decide (bf = 0) <;> rfl
  clear hb1 hb2 hh
  cases b1 with
  | false =>
    have e := Lib.hid (shape_head (L := L) (names := names) (methods := methods) (by omega) (by omega) (by rw [hh']; rfl))
    clear hh' hnn ha hb
    go_enter Try.func13, Try.ntmps13
    go_wp2_with (first | (go_at_call 25; ((with_reducible refine (P1.out _).mono ?_); rintro e1 w2 ⟨rfl, hw2⟩)))
    go_ret
    exact ⟨congrArg (fun b => Ending.returned (Value.int .i64 b)) e.out.symm, hw2⟩
  | true =>
  cases b2 with
  | false =>
    have e := Lib.hid (shape_head (L := L) (names := names) (methods := methods) (by omega) (by omega) (by rw [hh']; rfl))
    clear hh' hnn ha hb
    go_enter Try.func13, Try.ntmps13
    go_wp2_with (first | (go_at_call 25; first | ((with_reducible refine (P1.out _).mono ?_); rintro e1 w2 ⟨rfl, hw2⟩; have d0 := cell_up hw2 d0'.out; have d1 := cell_up hw2 d1'.out; have d2 := cell_up hw2 d2'.out; have d3 := cell_up hw2 d3'.out; have d1b : w2.cell? ⟨g, off + 5, none⟩ = some (.int .i64 sb) := d1; have d2b : w2.cell? ⟨g, off + 6, none⟩ = some (.int .i64 bf) := d2; have d3b : w2.cell? ⟨g, off + 7, none⟩ = some bv := d3) | ((with_reducible refine (P2.out _).mono ?_); rintro e1 w3 ⟨rfl, hw3⟩)))
    go_ret
    exact ⟨congrArg (fun b => Ending.returned (Value.int .i64 b)) e.out.symm, hw2.trans (hw3.mono hw2.size)⟩
  | true =>
  have hst : Hid (ShR L names methods 0) := Lib.hid (ShR.start (by omega) (by omega) (by rw [hh']; rfl))
  have hn12 : n ≤ 12 := by omega
  clear hh' hnn ha hb
  go_enter Try.func13, Try.ntmps13
  go_wp2_with (first | (go_at_call 25; first | ((with_reducible refine (P1.out _).mono ?_); rintro e1 w2 ⟨rfl, hw2⟩; have d0 := cell_up hw2 d0'.out; have d1 := cell_up hw2 d1'.out; have d2 := cell_up hw2 d2'.out; have d3 := cell_up hw2 d3'.out; have d1b : w2.cell? ⟨g, off + 5, none⟩ = some (.int .i64 sb) := d1; have d2b : w2.cell? ⟨g, off + 6, none⟩ = some (.int .i64 bf) := d2; have d3b : w2.cell? ⟨g, off + 7, none⟩ = some bv := d3) | ((with_reducible refine (P2.out _).mono ?_); rintro e1 w3 ⟨rfl, hw3⟩; have hB0 := Lib.hid (hw2.trans (hw3.mono hw2.size)); clear hw2 hw3)))
  clear c0 c1 c2 c3 d0 d1 d2 d3 d1b d2b d3b d0' d1' d2' d3' P1 P2
  go_loopw [31] (fun i31 wr => ∃ (k : Nat), k ≤ n ∧ i31 = .int .i64 k ∧ Hid (ShR L names methods k) ∧ Hid (Below w.heap.size w wr)) (fun i31 _ => n - (intOf i31).toNat)
  case atStart => exact ⟨0, by omega, rfl, hst, hB0⟩
  case round =>
    clear hB0 hst
    obtain ⟨k, hk, rfl, hR, hB⟩ := hrel
    by_cases hlt : k < n
    · have hlt' : decide ((k : Int) < (n : Int)) = true := by simp; omega
      have p0 : (0 : Int) ≤ (k : Int) := by omega
      have p1 : (k : Int) < (n : Int) := by omega
      have p2 : (k : Int) ≤ (cap : Int) := by omega
      obtain ⟨⟨nm, s, fl, bds⟩, hc⟩ : ∃ x, L[k]? = some x := ⟨L[k]'(by have := hn'.out; omega), by simp⟩
      obtain ⟨s64, f64, g', off', bv, eg, c0, c1, c2, c3, hbv⟩ := (h.out.up hB.out).at hc
      cases eg
      obtain ⟨ba, bc, rfl, _⟩ := hbv.form
      simp only at s64 f64 c0 c1 c2 c3 hbv
      have hc' := Lib.hid hc
      have hs0 := hB.out.size
      have hB1 := Lib.hid (hB.out.alloc hs0 (.cells #[.string nm, .int .i64 s, .int .i64 fl, .slice ba bds.length bc] 38))
      have hbv' := Lib.hid (hbv.up ((Below.refl wr.heap.size wr).alloc (Nat.le_refl _) (.cells #[.string nm, .int .i64 s, .int .i64 fl, .slice ba bds.length bc] 38)))
      have hA := Lib.hid ((h.out.up hB1.out).take k (by have := hn'.out; omega))
      have k0 : Hid ((wr.alloc (.cells #[.string nm, .int .i64 s, .int .i64 fl, .slice ba bds.length bc] 38)).cell? ⟨wr.heap.size, 0, none⟩ = some (.string nm)) := Lib.hid (by simp)
      have k1 : Hid ((wr.alloc (.cells #[.string nm, .int .i64 s, .int .i64 fl, .slice ba bds.length bc] 38)).cell? ⟨wr.heap.size, 1, none⟩ = some (.int .i64 s)) := Lib.hid (by simp)
      have k2 : Hid ((wr.alloc (.cells #[.string nm, .int .i64 s, .int .i64 fl, .slice ba bds.length bc] 38)).cell? ⟨wr.heap.size, 2, none⟩ = some (.int .i64 fl)) := Lib.hid (by simp)
      have k3 : Hid ((wr.alloc (.cells #[.string nm, .int .i64 s, .int .i64 fl, .slice ba bds.length bc] 38)).cell? ⟨wr.heap.size, 3, none⟩ = some (.slice ba bds.length bc)) := Lib.hid (by simp)
      have eS := Lib.hid (sup_eq (c := ⟨nm, s, fl, bds⟩) hR.out.down (by have := hn'.out; omega : k ≤ L.length))
      simp only at eS
      have hs64 := Lib.hid s64
      have hf64 := Lib.hid f64
      clear hbv hc hs0 s64 f64
      generalize bds.length = bm at *
      go_upto_region 8 with fail
      clear c0 c1 c2 c3
      generalize wr.alloc (.cells #[.string nm, .int .i64 s, .int .i64 fl, .slice ba bm bc] 38) = w1 at *
      generalize wr.heap.size = B8 at *
      have c0 := k0.out
      cases hN : nameR (L.take k) nm with
      | false =>
        have e := Lib.hid (hR.out.nm hc'.out hN)
        have hN' := Lib.hid hN
        clear hN
        go_region_with (first | (go_at_call 26; (with_reducible refine (kname (hA.out.up ((Below.refl _ _).drew)) nm).mono ?_); rintro e1 w2 ⟨he1, hw2⟩; rw [hN'.out] at he1; subst he1; have hq : Below w1.heap.size w1 w2 := ((Below.refl _ _).drew).trans hw2; have hB2 := Lib.hid (hB1.out.trans (hq.mono hB1.out.size)); clear hw2 hq))
        go_wp2
        go_ret
        exact ⟨congrArg (fun b => Ending.returned (Value.int .i64 b)) e.out.symm, hB2.out⟩
      | true =>
        obtain ⟨ht, hna⟩ := name_of hN
        have ht' := Lib.hid ht
        have hna' := Lib.hid hna
        have hN' := Lib.hid hN
        clear hN ht hna
        go_region_with (first | (go_at_call 26; (with_reducible refine (kname (hA.out.up ((Below.refl _ _).drew)) nm).mono ?_); rintro e1 w2 ⟨he1, hw2⟩; rw [hN'.out] at he1; subst he1; have hq : Below w1.heap.size w1 w2 := ((Below.refl _ _).drew).trans hw2; have hB2 := Lib.hid (hB1.out.trans (hq.mono hB1.out.size)); have m0 := cell_up hq k0.out; have m1 := cell_up hq k1.out; have m2 := cell_up hq k2.out; have m3 := cell_up hq k3.out; have m3' := Lib.hid m3; have hA2 := Lib.hid (hA.out.up hq); have hbv2 := Lib.hid (hbv'.out.up hq); clear hw2 hq))
        clear hA hbv' hB1 k0 k1 k2 k3 c0
        go_upto_region 10 with fail
        have hKS := Lib.hid (fun w' (b : Below w2.heap.size w2 w') => ksuper (hA2.out.up b) nm s fl (.slice ba bm bc) hs64.out hf64.out)
        cases hC : classOk L k ⟨nm, s, fl, bds⟩ with
        | false =>
          have e := Lib.hid (hR.out.cls hc'.out ht'.out hna'.out hC)
          have hC' := Lib.hid (eS.out.symm.trans hC)
          clear hC
          go_region_with (first | (go_at_call 27; (with_reducible refine (hKS.out _ (Below.refl _ _).drew).mono ?_); rintro e1 w3 ⟨he1, hw3⟩; rw [hC'.out] at he1; subst he1; have hq : Below w2.heap.size w2 w3 := ((Below.refl _ _).drew).trans hw3; have hB3 := Lib.hid (hB2.out.trans (hq.mono hB2.out.size)); clear hw3 hq))
          go_wp2
          go_ret
          exact ⟨congrArg (fun b => Ending.returned (Value.int .i64 b)) e.out.symm, hB3.out⟩
        | true =>
          have hC' := Lib.hid (eS.out.symm.trans hC)
          have hC2 := Lib.hid hC
          clear hC
          go_region_with (first | (go_at_call 27; (with_reducible refine (hKS.out _ (Below.refl _ _).drew).mono ?_); rintro e1 w3 ⟨he1, hw3⟩; rw [hC'.out] at he1; subst he1; have hq : Below w2.heap.size w2 w3 := ((Below.refl _ _).drew).trans hw3; have hB3 := Lib.hid (hB2.out.trans (hq.mono hB2.out.size)); have n3 := cell_up hq m3'.out; have hbv3 := Lib.hid (hbv2.out.up hq); clear hw3 hq))
          clear m0 m1 m2 m3 m3' hA2 hbv2 hKS hB2
          have PB := Lib.hid (kbinds hbv3.out names methods hn hm)
          cases hb : bindsOk bds names methods with
          | false =>
            have e := Lib.hid (hR.out.bnd hc'.out ht'.out hna'.out hC2.out hb)
            rw [hb] at PB
            clear hb
            go_wp2_with (first | (go_at_call 28; ((with_reducible refine PB.out.mono ?_); rintro e1 w4 ⟨rfl, hw4⟩)))
            go_ret
            exact ⟨congrArg (fun b => Ending.returned (Value.int .i64 b)) e.out.symm, hB3.out.trans (hw4.mono hB3.out.size)⟩
          | true =>
            have hR' := Lib.hid (hR.out.step hc'.out ht'.out hna'.out hC2.out hb)
            rw [hb] at PB
            clear hb
            go_wp2_with (first | (go_at_call 28; ((with_reducible refine PB.out.mono ?_); rintro e1 w4 ⟨rfl, hw4⟩)))
            go_roundw
            case rel => exact ⟨k + 1, by omega, by go_num, hR', Lib.hid (hB3.out.trans (hw4.mono hB3.out.size))⟩
            case measure => simp [intOf]; omega
    · have hlt' : decide ((k : Int) < (n : Int)) = false := by simp; omega
      have e : Hid (shapeR L names methods = 0) := Lib.hid (ShR.last (by have := hR.out; rw [show k = L.length by have := hn'.out; omega] at this; exact this))
      go_wp2
      go_ret
      exact ⟨congrArg (fun b => Ending.returned (Value.int .i64 b)) e.out.symm, hB.out⟩
theorem KK : ShapeK where
  right h names methods hn hm := kright h names methods hn hm
  chn h i hi := kchain h i hi
  depth h i hi := kdepth h i hi
  is h i k hi hk := kis h i k hi hk
end Wd
end Go.Proofs.Ytlbekicalinglaa
