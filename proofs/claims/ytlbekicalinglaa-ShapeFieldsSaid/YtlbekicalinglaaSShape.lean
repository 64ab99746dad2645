/- The document's own judgement of classes. -/
import Derived.Test.YtlbekicalinglaaSClass
import Derived.Deep.DeepCutAuto
namespace Go.Proofs.Ytlbekicalinglaa
open Go.RowKit
set_option linter.unusedVariables false
set_option maxRecDepth 20000
namespace Wd
theorem take_next {A : Type} {L : List A} {k : Nat} {c : A} (h : L[k]? = some c) : L.take (k + 1) = L.take k ++ [c] := by rw [List.take_add_one, h]; rfl
theorem drop_next {A : Type} {L : List A} {k : Nat} {c : A} (h : L[k]? = some c) : L.drop k = c :: L.drop (k + 1) := by
  obtain ⟨hk, e⟩ := List.getElem?_eq_some_iff.1 h
  rw [← e]
  exact List.drop_eq_getElem_cons hk
/-- the classes up to k are right -/
structure ShR (L : List ClassA) (names methods : Int) (k : Nat) : Prop where
  eq : shapeR L names methods = shapeFrom L names methods k (L.drop k)
  down : Down L k
theorem ShR.start {L : List ClassA} {names methods : Int} (h1 : 2 ≤ L.length) (h2 : L.length ≤ 12) (h3 : headOk L = true) : ShR L names methods 0 :=
  ⟨by unfold shapeR; rw [if_neg (by omega), if_neg (by rw [h3]; decide)]; rfl, fun k c hk => by omega⟩
theorem ShR.last {L : List ClassA} {names methods : Int} (h : ShR L names methods L.length) : shapeR L names methods = 0 := by
  rw [h.eq, List.drop_length]; rfl
section
variable {L : List ClassA} {names methods : Int} {k : Nat} {c : ClassA}
theorem ShR.name (h : ShR L names methods k) (hc : L[k]? = some c) (e : textOk c.nm = false) : shapeR L names methods = 13 := by
  rw [h.eq, drop_next hc, shapeFrom, if_pos e]
theorem ShR.twice (h : ShR L names methods k) (hc : L[k]? = some c) {j : Nat} {x : ClassA} (hj : j < k) (hx : L[j]? = some x) (e : x.nm = c.nm) : shapeR L names methods = 13 := by
  rw [h.eq, drop_next hc, shapeFrom]
  have ha : (L.take k).any (fun x => decide (x.nm = c.nm)) = true := by
    rw [List.any_eq_true]
    refine ⟨x, ?_, by simpa using e⟩
    refine List.mem_of_getElem? (i := j) ?_
    rw [List.getElem?_take, if_pos hj]; exact hx
  rw [if_pos ha]
  split <;> rfl
theorem anyNot (h : ∀ x ∈ L.take k, x.nm ≠ c.nm) : (L.take k).any (fun x => decide (x.nm = c.nm)) = false := by
  rw [Bool.eq_false_iff]
  intro ha
  obtain ⟨x, hx, e⟩ := List.any_eq_true.1 ha
  exact h x hx (by simpa using e)
theorem ShR.cls (h : ShR L names methods k) (hc : L[k]? = some c) (e : textOk c.nm = true) (hn : ∀ x ∈ L.take k, x.nm ≠ c.nm) (hk : classOk L k c = false) : shapeR L names methods = 14 := by
  rw [h.eq, drop_next hc, shapeFrom, if_neg (by rw [e]; decide), if_neg (by rw [anyNot hn]; decide), if_pos hk]
theorem ShR.bnd (h : ShR L names methods k) (hc : L[k]? = some c) (e : textOk c.nm = true) (hn : ∀ x ∈ L.take k, x.nm ≠ c.nm) (hk : classOk L k c = true) (hb : bindsOk c.binds names methods = false) : shapeR L names methods = 15 := by
  rw [h.eq, drop_next hc, shapeFrom, if_neg (by rw [e]; decide), if_neg (by rw [anyNot hn]; decide), if_neg (by rw [hk]; decide), if_pos hb]
theorem classOk_down (hk : classOk L k c = true) : -1 ≤ c.super ∧ c.super < k := by
  unfold classOk at hk
  simp only [Bool.and_eq_true, decide_eq_true_eq] at hk
  obtain ⟨⟨⟨⟨⟨h1, h2⟩, _⟩, _⟩, _⟩, _⟩ := hk
  exact ⟨h1, h2⟩
theorem ShR.step (h : ShR L names methods k) (hc : L[k]? = some c) (e : textOk c.nm = true) (hn : ∀ x ∈ L.take k, x.nm ≠ c.nm) (hk : classOk L k c = true) (hb : bindsOk c.binds names methods = true) : ShR L names methods (k + 1) := by
  refine ⟨by rw [h.eq, drop_next hc, shapeFrom, if_neg (by rw [e]; decide), if_neg (by rw [anyNot hn]; decide), if_neg (by rw [hk]; decide), if_neg (by rw [hb]; decide)], fun j x hj hx => ?_⟩
  rcases (show j < k ∨ j = k by omega) with hj | rfl
  · exact h.down j x hj hx
  · rw [hc] at hx
    cases hx
    exact classOk_down hk
end
/-- the first two are what they must be -/
theorem head_at {L : List ClassA} {a b : ClassA} (ha : L[0]? = some a) (hb : L[1]? = some b) : headOk L = (decide (a.super = -1) && decide (b.super = -1) && decide (a.fields = 4) && decide (b.fields = 0)) := by
  match L, ha, hb with
  | x :: y :: R, ha, hb =>
    simp only [List.getElem?_cons_zero, Option.some.injEq] at ha
    simp only [List.getElem?_cons_succ, List.getElem?_cons_zero, Option.some.injEq] at hb
    subst ha; subst hb; rfl
theorem shape_short {L : List ClassA} {names methods : Int} (h : L.length < 2 ∨ 12 < L.length) : shapeR L names methods = 3 := by unfold shapeR; rw [if_pos h]
theorem shape_head {L : List ClassA} {names methods : Int} (h1 : 2 ≤ L.length) (h2 : L.length ≤ 12) (h : headOk L = false) : shapeR L names methods = 14 := by unfold shapeR; rw [if_neg (by omega), if_pos h]
set_option maxHeartbeats 16000000 in
theorem shape_c {w : World} {v : Value} {L : List ClassA} (h : ClV w v L) (names methods : Int) (hn : In64 names) (hm : In64 methods) :
    Calls Try.prog 24 #[v, .int .i64 names, .int .i64 methods] w fun e w' => e = .returned (.int .i64 (shapeR L names methods)) ∧ Below w.heap.size w w' := by
  obtain ⟨ad, cap, rfl, hcap, hmx⟩ := h.form
  obtain ⟨n, hnn⟩ : ∃ n, n = L.length := ⟨_, rfl⟩
  rw [← hnn] at h hcap ⊢
  replace h := Lib.hid h
  have hn' := Lib.hid hnn
  by_cases q0 : n < 2
  · have e := Lib.hid (shape_short (names := names) (methods := methods) (Or.inl (by omega : L.length < 2)))
    have q0' : (n : Int) < 2 := by omega
    go_enter Try.func24, Try.ntmps24
    go_wp2
    go_ret
    exact ⟨congrArg (fun b => Ending.returned (Value.int .i64 b)) e.out.symm, Below.refl _ _⟩
  by_cases q1 : 12 < n
  · have e := Lib.hid (shape_short (names := names) (methods := methods) (Or.inr (by omega : 12 < L.length)))
    have q0' : ¬ (n : Int) < 2 := by omega
    have q1' : (12 : Int) < (n : Int) := by omega
    go_enter Try.func24, Try.ntmps24
    go_wp2
    go_ret
    exact ⟨congrArg (fun b => Ending.returned (Value.int .i64 b)) e.out.symm, Below.refl _ _⟩
  have q0' : ¬ (n : Int) < 2 := by omega
  have q1' : ¬ (12 : Int) < (n : Int) := by omega
  have q2' : (0 : Int) < (n : Int) := by omega
  have q3' : (1 : Int) < (n : Int) := by omega
  obtain ⟨a, ha⟩ : ∃ x, L[0]? = some x := ⟨L[0]'(by omega), by simp⟩
  obtain ⟨b, hb⟩ : ∃ x, L[1]? = some x := ⟨L[1]'(by omega), by simp⟩
  have hh := head_at ha hb
  obtain ⟨⟨s0, s1⟩, ⟨f0, f1⟩, g, off, bv, rfl, _, c1, c2, _, _⟩ := h.out.at ha
  obtain ⟨⟨t0, t1⟩, ⟨v0, v1⟩, g', off', bv', eg, _, d1, d2, _, _⟩ := h.out.at hb
  cases eg
  clear hmx
  obtain ⟨an, sa, af, ab⟩ := a
  obtain ⟨bn, sb, bf, bb⟩ := b
  simp only at s0 s1 f0 f1 t0 t1 v0 v1 c1 c2 d1 d2 hh
  by_cases z0 : ¬ sa = -1
  · have e := Lib.hid (shape_head (L := L) (names := names) (methods := methods) (by omega) (by omega) (by rw [hh]; simp [z0]))
    have z0' : (sa != -1) = true := by simpa using z0
    clear hh hnn ha hb
    go_enter Try.func24, Try.ntmps24
    go_wp2
    go_ret
    exact ⟨congrArg (fun b => Ending.returned (Value.int .i64 b)) e.out.symm, Below.refl _ _⟩
  have z0' : sa = -1 := by omega
  subst z0'
  by_cases z1 : ¬ sb = -1
  · have e := Lib.hid (shape_head (L := L) (names := names) (methods := methods) (by omega) (by omega) (by rw [hh]; simp [z1]))
    have z1' : (sb != -1) = true := by simpa using z1
    clear hh hnn ha hb
    go_enter Try.func24, Try.ntmps24
    go_wp2
    go_ret
    exact ⟨congrArg (fun b => Ending.returned (Value.int .i64 b)) e.out.symm, Below.refl _ _⟩
  have z1' : sb = -1 := by omega
  subst z1'
  by_cases z2 : ¬ af = 4
  · have e := Lib.hid (shape_head (L := L) (names := names) (methods := methods) (by omega) (by omega) (by rw [hh]; simp [z2]))
    have z2' : (af != 4) = true := by simpa using z2
    clear hh hnn ha hb
    go_enter Try.func24, Try.ntmps24
    go_wp2
    go_ret
    exact ⟨congrArg (fun b => Ending.returned (Value.int .i64 b)) e.out.symm, Below.refl _ _⟩
  have z2' : af = 4 := by omega
  subst z2'
  by_cases z3 : ¬ bf = 0
  · have e := Lib.hid (shape_head (L := L) (names := names) (methods := methods) (by omega) (by omega) (by rw [hh]; simp [z3]))
    have z3' : (bf != 0) = true := by simpa using z3
    clear hh hnn ha hb
    go_enter Try.func24, Try.ntmps24
    go_wp2
    go_ret
    exact ⟨congrArg (fun b => Ending.returned (Value.int .i64 b)) e.out.symm, Below.refl _ _⟩
  have z3' : bf = 0 := by omega
  subst z3'
  have hst : Hid (ShR L names methods 0) := Lib.hid (ShR.start (by omega) (by omega) (by rw [hh]; rfl))
  have hn12 : n ≤ 12 := by omega
  clear hh hnn ha hb z0 z1 z2 z3 s0 s1 f0 f1 t0 t1 v0 v1
  go_enter Try.func24, Try.ntmps24
  go_wp2
  clear c1 c2 d1 d2
  go_loopw [47] (fun i47 wr => ∃ (k : Nat), k ≤ n ∧ i47 = .int .i64 k ∧ Hid (ShR L names methods k) ∧ Hid (Below w.heap.size w wr)) (fun i47 _ => n - (intOf i47).toNat)
  case atStart => exact ⟨0, by omega, rfl, hst, Lib.hid (Below.refl _ _)⟩
  case round =>
    obtain ⟨k, hk, rfl, hR, hB⟩ := hrel
    by_cases hlt : k < n
    · have hlt' : decide ((k : Int) < (n : Int)) = true := by simp; omega
      have p0 : (0 : Int) ≤ (k : Int) := by omega
      have p1 : (k : Int) < (n : Int) := by omega
      have p2 : (k : Int) ≤ (cap : Int) := by omega
      obtain ⟨⟨nm, s, fl, bds⟩, hc⟩ : ∃ x, L[k]? = some x := ⟨L[k]'(by have := hn'.out; omega), by simp⟩
      obtain ⟨_, _, g', off', bv, eg, c0, c1, c2, c3, hbv⟩ := (h.out.up hB.out).at hc
      cases eg
      obtain ⟨ba, bc, rfl, _⟩ := hbv.form
      simp only at c0 c1 c2 c3 hbv
      generalize bds.length = bm at *
      have hc' := Lib.hid hc
      have hs0 := hB.out.size
      have hb1 := (Below.refl w.heap.size wr).alloc hs0 (.cells #[.string nm, .int .i64 s, .int .i64 fl, .slice ba bm bc] 38)
      have hb1' := (Below.refl wr.heap.size wr).alloc (Nat.le_refl _) (.cells #[.string nm, .int .i64 s, .int .i64 fl, .slice ba bm bc] 38)
      have hB' := Lib.hid (hB.out.trans hb1)
      have hbv' := Lib.hid (hbv.up hb1')
      have h' := Lib.hid (h.out.up hB'.out)
      have k0 : Hid ((wr.alloc (.cells #[.string nm, .int .i64 s, .int .i64 fl, .slice ba bm bc] 38)).cell? ⟨wr.heap.size, 0, none⟩ = some (.string nm)) := Lib.hid (by simp)
      have k3 : Hid ((wr.alloc (.cells #[.string nm, .int .i64 s, .int .i64 fl, .slice ba bm bc] 38)).cell? ⟨wr.heap.size, 3, none⟩ = some (.slice ba bm bc)) := Lib.hid (by simp)
      clear hbv hc hb1 hb1'
      by_cases ht : textOk nm = false
      · have e := Lib.hid (hR.out.name hc'.out ht)
        have PT := Lib.hid (text_c nm)
        rw [ht] at PT
        go_wp2_with (first | (go_at_call 34; ((with_reducible refine (PT.out _).mono ?_); rintro e1 w2 ⟨rfl, hw2⟩; subst w2)))
        go_ret
        exact ⟨congrArg (fun b => Ending.returned (Value.int .i64 b)) e.out.symm, hB'.out⟩
      have ht' : textOk nm = true := by simpa using ht
      have PT := Lib.hid (text_c nm)
      rw [ht'] at PT
      go_upto_region 10 with (first | (go_at_call 34; ((with_reducible refine (PT.out _).mono ?_); rintro e1 w2 ⟨rfl, hw2⟩; subst w2)))
      generalize wr.alloc (.cells #[.string nm, .int .i64 s, .int .i64 fl, .slice ba bm bc] 38) = w1 at *
      generalize wr.heap.size = B8 at *
      have hdl : Hid (∀ x ∈ L.take 0, x.nm ≠ nm) := Lib.hid (by simp)
      clear h hB hs0 c0 c1 c2 c3 hst PT
      go_wp2
      go_loopw [60] (fun i60 wi => ∃ (j : Nat), j ≤ k ∧ i60 = .int .i64 j ∧ Hid (∀ x ∈ L.take j, x.nm ≠ nm) ∧ Hid (Below w1.heap.size w1 wi)) (fun i60 _ => k - (intOf i60).toNat)
      case atStart => exact ⟨0, by omega, rfl, hdl, Lib.hid (Below.refl _ _)⟩
      case round =>
        obtain ⟨j, hj, rfl, hD, hBi⟩ := hrel
        have d8 := cell_up hBi.out k0.out
        have hlt8 := World.block_lt_of_cell? _ _ d8
        by_cases hjt : j < k
        · have hjt' : decide ((j : Int) < (k : Int)) = true := by simp; omega
          have r0 : (0 : Int) ≤ (j : Int) := by omega
          have r1 : (j : Int) < (k : Int) := by omega
          obtain ⟨⟨xn, xs, xf, xb⟩, hx⟩ : ∃ x, L[j]? = some x := ⟨L[j]'(by have := hn'.out; omega), by simp⟩
          obtain ⟨_, _, g', off', xv, eg, d0, d1, d2, d3, xbv⟩ := (h'.out.up hBi.out).at hx
          cases eg
          obtain ⟨xa, xc, rfl, _⟩ := xbv.form
          simp only at d0 d1 d2 d3 xbv
          generalize xb.length = xm at *
          have hx' := Lib.hid hx
          have d8' : (wr.alloc (.cells #[.string xn, .int .i64 xs, .int .i64 xf, .slice xa xm xc] 38)).cell? ⟨B8, 0, none⟩ = some (.string nm) := (World.cell?_alloc_old _ _ _ (Nat.ne_of_lt hlt8)).trans d8
          clear hx xbv
          by_cases he : xn = nm
          · have e := Lib.hid (hR.out.twice hc'.out hjt hx'.out he)
            have he' : (xn.toList == nm.toList) = true := bl_eq he
            clear he
            go_wp2
            go_ret
            exact ⟨congrArg (fun b => Ending.returned (Value.int .i64 b)) e.out.symm, (hB'.out.trans (hBi.out.mono (by have := hB'.out.size; omega))).alloc (by have := hB'.out.size; have := hBi.out.size; omega) _⟩
          · have he' : (xn.toList == nm.toList) = false := bl_ne he
            have hD' : Hid (∀ x ∈ L.take (j + 1), x.nm ≠ nm) := Lib.hid (fun x hx => by
              rw [take_next hx'.out] at hx
              rcases List.mem_append.1 hx with hx | hx
              · exact hD.out x hx
              · rw [List.mem_singleton.1 hx]; exact he)
            go_wp2
            go_roundw
            case rel => exact ⟨j + 1, by omega, by go_num, hD', Lib.hid (hBi.out.alloc hBi.out.size _)⟩
            case measure => simp [intOf]; omega
        · have hDk := hD.out
          rw [show j = k by omega] at hDk
          have hB2 := Lib.hid (hB'.out.trans (hBi.out.mono (by have := hB'.out.size; omega)))
          have PC := Lib.hid (class_c (h'.out.up hBi.out) hc'.out hR.out.down (by have := hn'.out; omega))
          have d3 := cell_up hBi.out k3.out
          have hlt3 := World.block_lt_of_cell? _ _ d3
          by_cases hk1 : classOk L k ⟨nm, s, fl, bds⟩ = false
          · have e := Lib.hid (hR.out.cls hc'.out ht' hDk hk1)
            rw [hk1] at PC
            clear hDk
            go_wp2_with (first | (go_at_call 35; ((with_reducible refine PC.out.mono ?_); rintro e1 w2 ⟨rfl, hw2⟩)))
            go_ret
            exact ⟨congrArg (fun b => Ending.returned (Value.int .i64 b)) e.out.symm, hB2.out.trans (hw2.mono (by have := hB2.out.size; omega))⟩
          have hk2 : classOk L k ⟨nm, s, fl, bds⟩ = true := by simpa using hk1
          rw [hk2] at PC
          go_wp2_with (first | (go_at_call 35; ((with_reducible refine PC.out.mono ?_); rintro e1 w2 ⟨rfl, hw2⟩; have d3' := cell_up hw2 d3; clear d3; go_wp2_with fail)))
          have PB := Lib.hid (binds_c ((hbv'.out.up hBi.out).up hw2) names methods hn hm)
          have hB3 := Lib.hid (hB2.out.trans (hw2.mono (by have := hB2.out.size; omega)))
          by_cases hb1 : bindsOk bds names methods = false
          · have e := Lib.hid (hR.out.bnd hc'.out ht' hDk hk2 hb1)
            rw [hb1] at PB
            clear hDk
            go_wp2_with (first | (go_at_call 36; ((with_reducible refine PB.out.mono ?_); rintro e1 w3 ⟨rfl, hw3⟩)))
            go_ret
            exact ⟨congrArg (fun b => Ending.returned (Value.int .i64 b)) e.out.symm, hB3.out.trans (hw3.mono (by have := hB3.out.size; omega))⟩
          have hb2 : bindsOk bds names methods = true := by simpa using hb1
          rw [hb2] at PB
          have hR' := Lib.hid (hR.out.step hc'.out ht' hDk hk2 hb2)
          clear hDk
          go_wp2_with (first | (go_at_call 36; ((with_reducible refine PB.out.mono ?_); rintro e1 w3 ⟨rfl, hw3⟩)))
          go_roundw
          case rel => exact ⟨k + 1, by omega, by go_num, hR', Lib.hid (hB3.out.trans (hw3.mono (by have := hB3.out.size; omega)))⟩
          case measure => simp [intOf]; omega
    · have e : Hid (shapeR L names methods = 0) := Lib.hid (ShR.last (by have := hR.out; rw [show k = L.length by have := hn'.out; omega] at this; exact this))
      go_wp2
      go_ret
      exact ⟨congrArg (fun b => Ending.returned (Value.int .i64 b)) e.out.symm, hB.out⟩
end Wd
end Go.Proofs.Ytlbekicalinglaa
