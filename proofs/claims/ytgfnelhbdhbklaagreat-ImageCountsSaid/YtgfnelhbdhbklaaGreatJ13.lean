/- Texts joined: ILX, ILA, ILB. -/
import Derived.Test.YtgfnelhbdhbklaaGreatJ10
import Derived.Test.YtgfnelhbdhbklaaGreatJ11
import Derived.Test.YtgfnelhbdhbklaaGreatJ12
/- The landed image, read: a whole program. -/
namespace Go.Proofs.YtgfnelhbdhbklaaGreat
open Go.RowKit
set_option linter.unusedVariables false
set_option maxRecDepth 20000
namespace Wd
abbrev z5U : Array Value := #[.slice none 0 0, .slice none 0 0, .slice none 0 0, .slice none 0 0, .int .i64 0]
/-- while a program is read: the reader, the box of what is handed back -/
structure EB (w y W : World) (p : Nat) (v : Value) (s : Rd8) (C2 : Array Value) : Prop where
  r : RI w W p v s
  plt : p < y.heap.size
  cg : Cg (fun k => k = p) y W
  b2 : W.heap[y.heap.size]? = some (.cells C2 27 (0, 0))
/-- .. and the box of the program -/
structure EU (w y W : World) (p : Nat) (v : Value) (s : Rd8) (E : Nat) (C2 C3 : Array Value) : Prop where
  b : EB w y W p v s C2
  elt : y.heap.size < E
  b3 : W.heap[E]? = some (.cells C3 27 (0, 0))
section
variable {w y W W1 : World} {p E : Nat} {v v1 : Value} {s s1 : Rd8} {C2 C3 : Array Value}
theorem EB.lt (h : EB w y W p v s C2) : y.heap.size < W.heap.size := (Array.getElem?_eq_some_iff.1 h.b2).1
theorem EB.born (h : RI w y p v s) : EB w y (y.alloc (.cells C2 27)) p v s C2 :=
  ⟨h.up ((Below.refl y.heap.size y).alloc (Nat.le_refl _) _), h.lt, (Cg.refl _ y).alloc _, heap_alloc_new _ _⟩
theorem EB.call (h : EB w y W p v s C2) (r : RI w W1 p v1 s1) (c : Cg (fun k => k = p) W W1) : EB w y W1 p v1 s1 C2 := by
  have := h.plt
  exact ⟨r, h.plt, h.cg.trans c, (c.block _ h.lt (by omega)).trans h.b2⟩
theorem EU.born (h : EB w y W p v s C2) : EU w y (W.alloc (.cells C3 27)) p v s W.heap.size C2 C3 := by
  have b := (Below.refl W.heap.size W).alloc (Nat.le_refl _) (.cells C3 27)
  exact ⟨⟨h.r.up b, h.plt, h.cg.alloc _, (b.block _ h.lt).trans h.b2⟩, h.lt, heap_alloc_new _ _⟩
theorem EU.lt (h : EU w y W p v s E C2 C3) : E < W.heap.size := (Array.getElem?_eq_some_iff.1 h.b3).1
theorem EU.call (h : EU w y W p v s E C2 C3) (r : RI w W1 p v1 s1) (c : Cg (fun k => k = p) W W1) : EU w y W1 p v1 s1 E C2 C3 := by
  have := h.b.plt
  have := h.elt
  exact ⟨h.b.call r c, h.elt, (c.block _ h.lt (by omega)).trans h.b3⟩
theorem EU.set3 (h : EU w y W p v s E C2 C3) (o : Nat) (x : Value) : EU w y (W.setCell ⟨E, o, none⟩ x) p v s E C2 (C3.setIfInBounds o x) := by
  have c := (Cg.refl (fun k => k = E) W).set ⟨E, o, none⟩ rfl x
  have hp := h.b.plt
  have he := h.elt
  have hlo := h.b.r.lo
  exact ⟨⟨h.b.r.cg c (fun k e => ⟨by omega, by omega⟩), h.b.plt, h.b.cg.trans' c (fun k e => Or.inr (by omega)), (bx_far (by omega) x).trans h.b.b2⟩, h.elt, bx_set h.b3 x⟩
theorem EU.set2 (h : EU w y W p v s E C2 C3) (o : Nat) (x : Value) : EU w y (W.setCell ⟨y.heap.size, o, none⟩ x) p v s E (C2.setIfInBounds o x) C3 := by
  have c := (Cg.refl (fun k => k = y.heap.size) W).set ⟨y.heap.size, o, none⟩ rfl x
  have hp := h.b.plt
  have he := h.elt
  have hlo := h.b.r.lo
  exact ⟨⟨h.b.r.cg c (fun k e => ⟨by omega, by omega⟩), h.b.plt, h.b.cg.trans' c (fun k e => Or.inr (by omega)), bx_set h.b.b2 x⟩, h.elt, (bx_far (by omega) x).trans h.b3⟩
theorem EU.e2 (h : EU w y W p v s E C2 C3) {o : Nat} {x : Value} (hx : C2[o]? = some x) : W.cell? ⟨y.heap.size, o, none⟩ = some x := cells_at h.b.b2 hx
theorem EU.e3 (h : EU w y W p v s E C2 C3) {o : Nat} {x : Value} (hx : C3[o]? = some x) : W.cell? ⟨E, o, none⟩ = some x := cells_at h.b3 hx
theorem EU.z2 (h : EU w y W p v s E C2 C3) (o : Nat) : W.frozen? ⟨y.heap.size, o, none⟩ = false := loose_at h.b.b2 o
theorem EU.z3 (h : EU w y W p v s E C2 C3) (o : Nat) : W.frozen? ⟨E, o, none⟩ = false := loose_at h.b3 o
end
theorem thereU5 {W : World} {E : Nat} {a b c d e : Value} {T : TypeId} (h : W.heap[E]? = some (.cells #[a, b, c, d, e] T (0, 0))) : W.there E 0 5 := by
  intro j hj
  have z := loose_at h j
  rcases (show j = 0 ∨ j = 1 ∨ j = 2 ∨ j = 3 ∨ j = 4 by omega) with rfl | rfl | rfl | rfl | rfl
  · exact ⟨by (have := cells_at (o := 0) h rfl; first | exact ⟨_, this⟩ | (rw [Nat.zero_add, this]; rfl)), by first | exact z | simpa using z⟩
  · exact ⟨by (have := cells_at (o := 1) h rfl; first | exact ⟨_, this⟩ | (rw [Nat.zero_add, this]; rfl)), by first | exact z | simpa using z⟩
  · exact ⟨by (have := cells_at (o := 2) h rfl; first | exact ⟨_, this⟩ | (rw [Nat.zero_add, this]; rfl)), by first | exact z | simpa using z⟩
  · exact ⟨by (have := cells_at (o := 3) h rfl; first | exact ⟨_, this⟩ | (rw [Nat.zero_add, this]; rfl)), by first | exact z | simpa using z⟩
  · exact ⟨by (have := cells_at (o := 4) h rfl; first | exact ⟨_, this⟩ | (rw [Nat.zero_add, this]; rfl)), by first | exact z | simpa using z⟩
theorem rangeU5 {W : World} {E : Nat} {a b c d e : Value} {T : TypeId} (h : W.heap[E]? = some (.cells #[a, b, c, d, e] T (0, 0))) : W.rangeAt E 0 [a, b, c, d, e] :=
  orange5 (cells_at h rfl) (cells_at h rfl) (cells_at h rfl) (cells_at h rfl) (cells_at h rfl)
theorem lies4 {b b' : Nat} {J1 J2 J3 J4 : Nat → Prop} {W : World} {P1 P2 P3 P4 : World → Prop} (h1 : Lies b J1 W P1) (h2 : Lies b J2 W P2) (h3 : Lies b J3 W P3) (h4 : Lies b J4 W P4) (hb : b' ≤ b) : Lies b' (fun k => J1 k ∨ J2 k ∨ J3 k ∨ J4 k) W (fun w => P1 w ∧ P2 w ∧ P3 w ∧ P4 w) := by
  refine ⟨fun w2 c => ⟨h1.1 w2 (c.mono (fun k hk e => hk (Or.inl e))), h2.1 w2 (c.mono (fun k hk e => hk (Or.inr (Or.inl e)))), h3.1 w2 (c.mono (fun k hk e => hk (Or.inr (Or.inr (Or.inl e))))), h4.1 w2 (c.mono (fun k hk e => hk (Or.inr (Or.inr (Or.inr e)))))⟩, fun k hk => ?_⟩
  rcases hk with hk | hk | hk | hk
  · have := h1.2 k hk; omega
  · have := h2.2 k hk; omega
  · have := h3.2 k hk; omega
  · have := h4.2 k hk; omega
theorem mark_list : (⟨#[84, 87, 49, 0]⟩ : ByteArray).toList = [84, 87, 49, 0] := by
  first | rfl | decide | simp
theorem text_mark {T : List Int} (h : Bd8 T) : textOf T = ⟨#[84, 87, 49, 0]⟩ ↔ T = [84, 87, 49, 0] := by
  constructor
  · intro e
    have h1 := tby_of h
    rw [e] at h1
    rw [← h1]
    rfl
  · intro e
    rw [e]
    rfl
theorem program_res {ts : Array Value} {w : World} {q : Nat} {v0 v1 v2 v3 v4 : Value} (h8 : ts.getD 2 undef = .pointer (some ⟨q, 0, none⟩)) (r0 : w.cell? ⟨q, 0, none⟩ = some v0) (r1 : w.cell? ⟨q, 1, none⟩ = some v1) (r2 : w.cell? ⟨q, 2, none⟩ = some v2) (r3 : w.cell? ⟨q, 3, none⟩ = some v3) (r4 : w.cell? ⟨q, 4, none⟩ = some v4) :
    (results Tryz.f40 ts).run Tryz.prog w = .ok (.agg #[v0, v1, v2, v3, v4]) w := by
  have h8' : ts[2]?.getD undef = .pointer (some ⟨q, 0, none⟩) := by rw [← Array.getD_eq_getD_getElem?]; exact h8
  simp [results, Tryz.results40, go_sem, h8', r0, r1, r2, r3, r4]
set_option maxHeartbeats 32000000 in
theorem program_c {w y : World} {p : Nat} {v : Value} {b : List Int} (h : RI w y p v (b, false)) (hs : b.length ≤ 100000) :
    Calls Tryz.prog 40 #[.pointer (some ⟨p, 0, none⟩)] y fun e y' => (∃ u J, e = .returned u ∧ Lies y.heap.size J y' (fun w2 => UnK w2 u (unL (markL b)).1)) ∧ (∃ v', RI w y' p v' (unL (markL b)).2) ∧ Cg (fun k => k = p) y y' := by
  have hlM := markL_le b
  have hM : markL b = if (cutR 4 (b, false)).1 = [84, 87, 49, 0] then (cutR 4 (b, false)).2 else ((cutR 4 (b, false)).2.1, true) := rfl
  have hBT := ((cutR_all 4 (by omega) (b, false)).2.2.1 h.bd).2
  have hB := Lib.hid (EB.born (C2 := z5U) h)
  have P1 := Lib.hid (take_i hB.out.r 4 (by omega) (by omega))
  generalize cutR 4 (b, false) = r at hM hBT P1
  obtain ⟨T, s1⟩ := r
  simp only at hM hBT P1
  have hT := text_mark hBT
  generalize markL b = s0 at hlM hM ⊢
  have hs0 : s0.1.length ≤ 100000 := by omega
  have hl1 := Nat.le_trans ((rowL_eat nmL_eat).le s0) hs0
  have hl2 := Nat.le_trans ((rowL_eat clL_eat).le (rowL nmL s0).2) hl1
  have hl3 := Nat.le_trans ((rowL_eat mtL_eat).le (rowL clL (rowL nmL s0).2).2) hl2
  have hU : unL s0 = (⟨(rowL nmL s0).1, (rowL clL (rowL nmL s0).2).1, (rowL mtL (rowL clL (rowL nmL s0).2).2).1, (rowL obL (rowL mtL (rowL clL (rowL nmL s0).2).2).2).1, (numL (rowL obL (rowL mtL (rowL clL (rowL nmL s0).2).2).2).2).1⟩, (numL (rowL obL (rowL mtL (rowL clL (rowL nmL s0).2).2).2).2).2) := rfl
  rw [hU]
  clear hU hlM hs h hBT
  generalize hQ1 : rowL nmL s0 = q1 at hl1 hl2 hl3
  generalize hQ2 : rowL clL q1.2 = q2 at hl2 hl3
  generalize hQ3 : rowL mtL q2.2 = q3 at hl3
  generalize hQ4 : rowL obL q3.2 = q4
  generalize hQ5 : numL q4.2 = q5
  replace hQ1 := Lib.hid hQ1
  replace hQ2 := Lib.hid hQ2
  replace hQ3 := Lib.hid hQ3
  replace hQ4 := Lib.hid hQ4
  replace hQ5 := Lib.hid hQ5
  replace hM := Lib.hid hM
  have hmf : ∀ (fn : Fn) (first cap : Array Value) (w : World), (Instr.makeFunc fn first cap).run Tryz.prog w = .ok (.func fn first cap) w := fun _ _ _ _ => rfl
  go_enter Tryz.func40, Tryz.ntmps40
  go_wp2_with fail
  with_reducible refine P1.out.mono ?_
  rintro e1 y0 ⟨⟨t0, rfl, hf, ht⟩, ⟨v0, hR⟩, hc⟩
  have PT := by_text (ht.up hR.bel)
  replace hB := Lib.hid (hB.out.call hR hc)
  clear P1 hR hc hf ht
  go_upto_if 7 with fail
  go_cut [] (fun wx => ∃ v', Hid (EB w y wx p v' s0 z5U))
  case first =>
    by_cases q : T = [84, 87, 49, 0]
    · have e1 : ((textOf T).toList == [84, 87, 49, 0]) = true := by rw [← mark_list]; exact bl_eq (hT.2 q)
      have hf := hB.out
      have e3 := hM.out
      rw [if_pos q] at e3
      rw [← e3] at hf
      replace hf := Lib.hid hf
      clear q hT e3
      simp only [e1, Bool.not_true]
      go_wp2
      go_meet
      case rel => exact ⟨_, hf⟩
    · have e1 : ((textOf T).toList == [84, 87, 49, 0]) = false := by rw [← mark_list]; exact bl_ne (fun e => q (hT.1 e))
      have e3 := hM.out
      rw [if_neg q] at e3
      have c1 := hB.out.r.c1
      have z1 := hB.out.r.z 1
      have hs1 := hB.out.r.set1 true
      have hf := hB.out.call hs1.1 hs1.2
      rw [← e3] at hf
      replace hf := Lib.hid hf
      clear q hT e3 hs1
      simp only [e1, Bool.not_false]
      go_wp2
      go_meet
      case rel => exact ⟨_, hf⟩
  case rest =>
  obtain ⟨v0', hB⟩ := hcut
  have hE := Lib.hid (EU.born (C3 := z5U) hB.out)
  have hwc := hB.out.lt
  have hpy := hB.out.plt
  clear PT hT hM
  go_upto_region 4 with fail
  generalize hEE : wc.heap.size = E at *
  generalize wc.alloc (.cells #[.slice none 0 0, .slice none 0 0, .slice none 0 0, .slice none 0 0, .int .i64 0] 27) = W0 at *
  have hyE := hE.out.b.lt
  have hlE := hE.out.lt
  have P1 := grows_c hE.out.b.r (by omega)
  rw [hQ1.out] at P1
  replace P1 := Lib.hid P1
  go_wp2_with fail
  with_reducible refine P1.out.mono ?_
  rintro e1 y1 ⟨⟨bv, A, I, rfl, hG, hA⟩, ⟨v1, hR⟩, hc⟩
  have hL1 := lies_gr hG hG.nmv
  rw [hA] at hL1
  obtain ⟨a1, m1, c1, rfl⟩ : ∃ a m c, bv = .slice a m c := by
    rcases hG.own.2 with ⟨e, _⟩ | ⟨g, cap, cur, e, _⟩
    · exact ⟨_, _, _, e⟩
    · exact ⟨_, _, _, e⟩
  replace hL1 := Lib.hid (hL1.imp (b' := E + 1) (by omega) (fun w2 hp => hp))
  replace hE := Lib.hid (hE.out.call hR hc)
  clear P1 hR hc hG hA hyE hlE
  have d0 := hE.out.e3 (o := 0) rfl
  have z0 := hE.out.z3 0
  go_upto_region 5 with fail
  replace hE := Lib.hid (hE.out.set3 0 (.slice a1 m1 c1))
  replace hL1 := Lib.hid (hL1.out.set (E := E) (o := 0) (by omega) (.slice a1 m1 c1))
  generalize y1.setCell ⟨E, 0, none⟩ (.slice a1 m1 c1) = W1 at *
  clear d0 z0
  have hyE := hE.out.b.lt
  have hlE := hE.out.lt
  have P1 := growc_c hE.out.b.r (by omega)
  rw [hQ2.out] at P1
  replace P1 := Lib.hid P1
  go_wp2_with fail
  with_reducible refine P1.out.mono ?_
  rintro e1 y2 ⟨⟨bv, A, I, rfl, hG, hA⟩, ⟨v2, hR⟩, hc⟩
  have hL2 := lies_gr hG hG.clv
  rw [hA] at hL2
  obtain ⟨a2, m2, c2, rfl⟩ : ∃ a m c, bv = .slice a m c := by
    rcases hG.own.2 with ⟨e, _⟩ | ⟨g, cap, cur, e, _⟩
    · exact ⟨_, _, _, e⟩
    · exact ⟨_, _, _, e⟩
  replace hL2 := Lib.hid (hL2.imp (b' := E + 1) (by omega) (fun w2 hp => hp))
  replace hL1 := Lib.hid (hL1.out.cg hc (fun k e => by omega))
  replace hE := Lib.hid (hE.out.call hR hc)
  clear P1 hR hc hG hA hyE hlE
  have d0 := hE.out.e3 (o := 1) rfl
  have z0 := hE.out.z3 1
  go_upto_region 6 with fail
  replace hE := Lib.hid (hE.out.set3 1 (.slice a2 m2 c2))
  replace hL1 := Lib.hid (hL1.out.set (E := E) (o := 1) (by omega) (.slice a2 m2 c2))
  replace hL2 := Lib.hid (hL2.out.set (E := E) (o := 1) (by omega) (.slice a2 m2 c2))
  generalize y2.setCell ⟨E, 1, none⟩ (.slice a2 m2 c2) = W2 at *
  clear d0 z0
  have hyE := hE.out.b.lt
  have hlE := hE.out.lt
  have P1 := growm_c hE.out.b.r (by omega)
  rw [hQ3.out] at P1
  replace P1 := Lib.hid P1
  go_wp2_with fail
  with_reducible refine P1.out.mono ?_
  rintro e1 y3 ⟨⟨bv, A, I, rfl, hG, hA⟩, ⟨v3, hR⟩, hc⟩
  have hL3 := lies_gr hG hG.mtv
  rw [hA] at hL3
  obtain ⟨a3, m3, c3, rfl⟩ : ∃ a m c, bv = .slice a m c := by
    rcases hG.own.2 with ⟨e, _⟩ | ⟨g, cap, cur, e, _⟩
    · exact ⟨_, _, _, e⟩
    · exact ⟨_, _, _, e⟩
  replace hL3 := Lib.hid (hL3.imp (b' := E + 1) (by omega) (fun w2 hp => hp))
  replace hL1 := Lib.hid (hL1.out.cg hc (fun k e => by omega))
  replace hL2 := Lib.hid (hL2.out.cg hc (fun k e => by omega))
  replace hE := Lib.hid (hE.out.call hR hc)
  clear P1 hR hc hG hA hyE hlE
  have d0 := hE.out.e3 (o := 2) rfl
  have z0 := hE.out.z3 2
  go_upto_region 7 with fail
  replace hE := Lib.hid (hE.out.set3 2 (.slice a3 m3 c3))
  replace hL1 := Lib.hid (hL1.out.set (E := E) (o := 2) (by omega) (.slice a3 m3 c3))
  replace hL2 := Lib.hid (hL2.out.set (E := E) (o := 2) (by omega) (.slice a3 m3 c3))
  replace hL3 := Lib.hid (hL3.out.set (E := E) (o := 2) (by omega) (.slice a3 m3 c3))
  generalize y3.setCell ⟨E, 2, none⟩ (.slice a3 m3 c3) = W3 at *
  clear d0 z0
  have hyE := hE.out.b.lt
  have hlE := hE.out.lt
  have P1 := growo_c hE.out.b.r (by omega)
  rw [hQ4.out] at P1
  replace P1 := Lib.hid P1
  go_wp2_with fail
  with_reducible refine P1.out.mono ?_
  rintro e1 y4 ⟨⟨bv, A, I, rfl, hG, hA⟩, ⟨v4, hR⟩, hc⟩
  have hL4 := lies_gr hG hG.obv
  rw [hA] at hL4
  obtain ⟨a4, m4, c4, rfl⟩ : ∃ a m c, bv = .slice a m c := by
    rcases hG.own.2 with ⟨e, _⟩ | ⟨g, cap, cur, e, _⟩
    · exact ⟨_, _, _, e⟩
    · exact ⟨_, _, _, e⟩
  replace hL4 := Lib.hid (hL4.imp (b' := E + 1) (by omega) (fun w2 hp => hp))
  replace hL1 := Lib.hid (hL1.out.cg hc (fun k e => by omega))
  replace hL2 := Lib.hid (hL2.out.cg hc (fun k e => by omega))
  replace hL3 := Lib.hid (hL3.out.cg hc (fun k e => by omega))
  replace hE := Lib.hid (hE.out.call hR hc)
  clear P1 hR hc hG hA hyE hlE
  have d0 := hE.out.e3 (o := 3) rfl
  have z0 := hE.out.z3 3
  go_upto_region 8 with fail
  replace hE := Lib.hid (hE.out.set3 3 (.slice a4 m4 c4))
  replace hL1 := Lib.hid (hL1.out.set (E := E) (o := 3) (by omega) (.slice a4 m4 c4))
  replace hL2 := Lib.hid (hL2.out.set (E := E) (o := 3) (by omega) (.slice a4 m4 c4))
  replace hL3 := Lib.hid (hL3.out.set (E := E) (o := 3) (by omega) (.slice a4 m4 c4))
  replace hL4 := Lib.hid (hL4.out.set (E := E) (o := 3) (by omega) (.slice a4 m4 c4))
  generalize y4.setCell ⟨E, 3, none⟩ (.slice a4 m4 c4) = W4 at *
  clear d0 z0
  have hyE := hE.out.b.lt
  have hlE := hE.out.lt
  have P1 := number_c hE.out.b.r
  rw [hQ5.out] at P1
  replace P1 := Lib.hid P1
  go_wp2_with fail
  with_reducible refine P1.out.mono ?_
  rintro e1 y5 ⟨rfl, ⟨v5, hR⟩, hc⟩
  replace hL1 := Lib.hid (hL1.out.cg hc (fun k e => by omega))
  replace hL2 := Lib.hid (hL2.out.cg hc (fun k e => by omega))
  replace hL3 := Lib.hid (hL3.out.cg hc (fun k e => by omega))
  replace hL4 := Lib.hid (hL4.out.cg hc (fun k e => by omega))
  replace hE := Lib.hid (hE.out.call hR hc)
  clear P1 hR hc
  have d0 := hE.out.e3 (o := 4) rfl
  have z0 := hE.out.z3 4
  go_upto_region 9 with fail
  replace hE := Lib.hid (hE.out.set3 4 (.int .i64 q5.1))
  replace hL1 := Lib.hid (hL1.out.set (E := E) (o := 4) (by omega) (.int .i64 q5.1))
  replace hL2 := Lib.hid (hL2.out.set (E := E) (o := 4) (by omega) (.int .i64 q5.1))
  replace hL3 := Lib.hid (hL3.out.set (E := E) (o := 4) (by omega) (.int .i64 q5.1))
  replace hL4 := Lib.hid (hL4.out.set (E := E) (o := 4) (by omega) (.int .i64 q5.1))
  generalize y5.setCell ⟨E, 4, none⟩ (.int .i64 q5.1) = W5 at *
  clear d0 z0 hyE hlE
  have hyE := hE.out.elt
  have hlE := hE.out.lt
  have b2 : W5.heap[y.heap.size]? = some (.cells z5U 27 (0, 0)) := hE.out.b.b2
  have b3 : W5.heap[E]? = some (.cells #[.slice a1 m1 c1, .slice a2 m2 c2, .slice a3 m3 c3, .slice a4 m4 c4, .int .i64 q5.1] 27 (0, 0)) := hE.out.b3
  obtain ⟨dU, hdU, hrU⟩ := orowU
  refine wp_region_lit ?_
  refine wpList_load_mid rfl 27 (.tmp 3) rfl E 0 rfl _ dU (rangeU5 b3) hdU hrU infoU5 ?_
  try simp only [Act.put, List.setIfInBounds_toArray, List.set_cons_zero, List.set_cons_succ]
  refine wpList_store_mid rfl 27 (.tmp 2) (.tmp 34) rfl y.heap.size 0 #[.slice a1 m1 c1, .slice a2 m2 c2, .slice a3 m3 c3, .slice a4 m4 c4, .int .i64 q5.1] (by simp [Act.eval]) (by simp [Act.eval]) (thereU5 b2) infoU5 (all_oneCell_toArray (cs := [.slice a1 m1 c1, .slice a2 m2 c2, .slice a3 m3 c3, .slice a4 m4 c4, .int .i64 q5.1]) (fun v hv => by simp only [List.mem_cons, List.not_mem_nil, or_false] at hv; rcases hv with rfl | rfl | rfl | rfl | rfl <;> rfl)) ?_
  refine wpList_nil ?_
  have hW9 : W5.setCells y.heap.size 0 [.slice a1 m1 c1, .slice a2 m2 c2, .slice a3 m3 c3, .slice a4 m4 c4, .int .i64 q5.1] = (((((W5.setCell ⟨y.heap.size, 0, none⟩ (.slice a1 m1 c1)).setCell ⟨y.heap.size, 1, none⟩ (.slice a2 m2 c2)).setCell ⟨y.heap.size, 2, none⟩ (.slice a3 m3 c3)).setCell ⟨y.heap.size, 3, none⟩ (.slice a4 m4 c4)).setCell ⟨y.heap.size, 4, none⟩ (.int .i64 q5.1)) := rfl
  simp only [hW9]
  clear hW9
  have hE9 := Lib.hid (((((hE.out.set2 0 (.slice a1 m1 c1)).set2 1 (.slice a2 m2 c2)).set2 2 (.slice a3 m3 c3)).set2 3 (.slice a4 m4 c4)).set2 4 (.int .i64 q5.1))
  have hM1 := Lib.hid (((((hL1.out.set (E := y.heap.size) (o := 0) (by omega) (.slice a1 m1 c1)).set (E := y.heap.size) (o := 1) (by omega) (.slice a2 m2 c2)).set (E := y.heap.size) (o := 2) (by omega) (.slice a3 m3 c3)).set (E := y.heap.size) (o := 3) (by omega) (.slice a4 m4 c4)).set (E := y.heap.size) (o := 4) (by omega) (.int .i64 q5.1))
  have hM2 := Lib.hid (((((hL2.out.set (E := y.heap.size) (o := 0) (by omega) (.slice a1 m1 c1)).set (E := y.heap.size) (o := 1) (by omega) (.slice a2 m2 c2)).set (E := y.heap.size) (o := 2) (by omega) (.slice a3 m3 c3)).set (E := y.heap.size) (o := 3) (by omega) (.slice a4 m4 c4)).set (E := y.heap.size) (o := 4) (by omega) (.int .i64 q5.1))
  have hM3 := Lib.hid (((((hL3.out.set (E := y.heap.size) (o := 0) (by omega) (.slice a1 m1 c1)).set (E := y.heap.size) (o := 1) (by omega) (.slice a2 m2 c2)).set (E := y.heap.size) (o := 2) (by omega) (.slice a3 m3 c3)).set (E := y.heap.size) (o := 3) (by omega) (.slice a4 m4 c4)).set (E := y.heap.size) (o := 4) (by omega) (.int .i64 q5.1))
  have hM4 := Lib.hid (((((hL4.out.set (E := y.heap.size) (o := 0) (by omega) (.slice a1 m1 c1)).set (E := y.heap.size) (o := 1) (by omega) (.slice a2 m2 c2)).set (E := y.heap.size) (o := 2) (by omega) (.slice a3 m3 c3)).set (E := y.heap.size) (o := 3) (by omega) (.slice a4 m4 c4)).set (E := y.heap.size) (o := 4) (by omega) (.int .i64 q5.1))
  generalize (((((W5.setCell ⟨y.heap.size, 0, none⟩ (.slice a1 m1 c1)).setCell ⟨y.heap.size, 1, none⟩ (.slice a2 m2 c2)).setCell ⟨y.heap.size, 2, none⟩ (.slice a3 m3 c3)).setCell ⟨y.heap.size, 3, none⟩ (.slice a4 m4 c4)).setCell ⟨y.heap.size, 4, none⟩ (.int .i64 q5.1)) = W9 at *
  clear hE hL1 hL2 hL3 hL4 b2 b3
  have d0 : W9.cell? ⟨y.heap.size, 0, none⟩ = some (.slice a1 m1 c1) := hE9.out.e2 (o := 0) rfl
  have d1 : W9.cell? ⟨y.heap.size, 1, none⟩ = some (.slice a2 m2 c2) := hE9.out.e2 (o := 1) rfl
  have d2 : W9.cell? ⟨y.heap.size, 2, none⟩ = some (.slice a3 m3 c3) := hE9.out.e2 (o := 2) rfl
  have d3 : W9.cell? ⟨y.heap.size, 3, none⟩ = some (.slice a4 m4 c4) := hE9.out.e2 (o := 3) rfl
  have d4 : W9.cell? ⟨y.heap.size, 4, none⟩ = some (.int .i64 q5.1) := hE9.out.e2 (o := 4) rfl
  rename (∀ (a : Act) (w : World), Code.wp _ _ _ a w → _) => hKr
  refine hKr _ _ ?_
  refine wp_ret ?_
  refine bodyPost_ret (program_res rfl d0 d1 d2 d3 d4) rfl ?_
  exact ⟨⟨_, _, rfl, (lies4 hM1.out hM2.out hM3.out hM4.out (by omega)).imp (Nat.le_refl _) (fun w2 hp => UnV.unk (U := ⟨q1.1, q2.1, q3.1, q4.1, q5.1⟩) ⟨hp.1, hp.2.1, hp.2.2.1, hp.2.2.2⟩)⟩, ⟨_, hE9.out.b.r⟩, hE9.out.b.cg⟩
end Wd
end Go.Proofs.YtgfnelhbdhbklaaGreat

/- The landed image, written: a number, a text. -/
namespace Go.Proofs.YtgfnelhbdhbklaaGreat
open Go.RowKit
set_option linter.unusedVariables false
set_option maxRecDepth 20000
namespace Wd
set_option maxHeartbeats 16000000 in
theorem pnum_c {w : World} {base : Nat} {v : Value} {L : List Int} (h : RB w base 5 v (bys L)) (hb : base ≤ w.heap.size) (hl : L.length ≤ 1000000000) (n : Int) :
    Calls Tryz.prog 39 #[v, .int .i64 n] w fun e w' => ∃ v', e = .returned v' ∧ Wr base w w' v v' (L ++ b4 n) := by
  obtain ⟨i0, hi0, hz0, hz1, hz2⟩ := info_parts infoB8
  have hmx : 2000000000 ≤ maxLen := by decide
  have hbl := bys_ln L
  replace h := Lib.hid h
  go_enter Tryz.func39, Tryz.ntmps39
  go_wp2_with (first | (at_builtin; refine wpList_app_rb rfl (.tmp 8) (.tmp 20) 36 rfl base 5 i0 (.int .u8 0) Tryz.underlying36 hi0 hz0 hz1 hz2 rfl v (bys L) (by simp [Act.eval]) (h.out.kept (fun k hk => ((Below.refl w.heap.size w).alloc (Nat.le_refl _) _).block k (h.out.lt k hk).2)) ⟨w.heap.size, 0, none⟩ 4 4 (bys [_, _, _, _]) (by simp [Act.eval]) (by simp [bys]) (bys_four ((World.cell?_alloc_new _ _ _ 0).trans rfl) ((World.cell?_alloc_new _ _ _ 1).trans rfl) ((World.cell?_alloc_new _ _ _ 2).trans rfl) ((World.cell?_alloc_new _ _ _ 3).trans rfl)) (bys_one _) (by omega) (by omega) (by simp only [World.size_alloc]; omega) ?_; intro v1 w1 hown1 hgrow1 hat1))
  go_ret
  have e4 : [n % 4294967296 / 16777216, n % 4294967296 / 65536 % 256, n % 4294967296 / 256 % 256, n % 256] = b4 n := by
    unfold b4
    congr 4
    omega
  rw [e4, ← bys_cat] at hown1
  refine ⟨_, rfl, hown1, ((Cg.refl _ w).alloc _).grown hgrow1 (fun k e => Or.inl e), fun k hk => ?_⟩
  replace hk : v1.ownBlock = some k := hk
  rcases hat1 with e | e
  · exact Or.inl (by rw [← e]; exact hk)
  · rw [e] at hk
    have := Option.some.inj hk
    simp only [World.size_alloc] at this
    exact Or.inr (by omega)
set_option maxHeartbeats 16000000 in
/-- a text is written -/
theorem ptext_c {w : World} {base : Nat} {v : Value} {L : List Int} (h : RB w base 5 v (bys L)) (hb : base ≤ w.heap.size) (s : ByteArray) (hl : L.length + s.size ≤ 900000000) :
    Calls Tryz.prog 32 #[v, .string s] w fun e w' => ∃ v', e = .returned v' ∧ Wr base w w' v v' (L ++ txt s) := by
  obtain ⟨i0, hi0, hz0, hz1, hz2⟩ := info_parts infoB8
  have hmx : 2000000000 ≤ maxLen := by decide
  replace h := Lib.hid h
  go_enter Tryz.func32, Tryz.ntmps32
  go_wp2_with fail
  with_reducible refine (pnum_c h.out hb (by omega) _).mono ?_
  rintro e w1 ⟨v1, rfl, h1⟩
  replace h1 := Lib.hid h1
  have hs1 := h1.out.cg.size
  have hbl := bys_ln (L ++ b4 s.size)
  rw [List.length_append, b4_len] at hbl
  go_wp2_with (first | (at_builtin; refine wpList_app_rbs rfl (.tmp 8) (.tmp 9) 36 9 rfl base 5 i0 Tryz.underlying36 Tryz.underlying9 hi0 hz0 hz1 hz2 v1 (bys (L ++ b4 s.size)) (by simp [Act.eval]) h1.out.rb s (by simp [Act.eval]) (by omega) (by omega) (by omega) ?_; intro v2 w2 hown2 hgrow2 hat2))
  go_ret
  rw [strB, ← bys_cat, List.append_assoc] at hown2
  refine ⟨_, rfl, h1.out.trans ⟨hown2, (Cg.refl _ w1).grown hgrow2 (fun k e => Or.inl e), fun k hk => ?_⟩⟩
  replace hk : v2.ownBlock = some k := hk
  rcases hat2 with e | e
  · exact Or.inl (by rw [← e]; exact hk)
  · rw [e] at hk
    have := Option.some.inj hk
    exact Or.inr (by omega)
end Wd
end Go.Proofs.YtgfnelhbdhbklaaGreat

/- The landed image, written: what lies where while an element is written; a pair, a row of pairs. -/
namespace Go.Proofs.YtgfnelhbdhbklaaGreat
open Go.RowKit
set_option linter.unusedVariables false
set_option maxRecDepth 20000
namespace Wd
/-- while an element is written: its box, what was written so far -/
structure BX (base : Nat) (w y : World) (E : Nat) (C : List Value) (v0 v : Value) (L : List Int) : Prop where
  wr : Wr base w y v0 v L
  lt : E < y.heap.size
  ne : v.ownBlock ≠ some E
  ks : ∀ o x, C[o]? = some x → y.cell? ⟨E, o, none⟩ = some x
  hb : base ≤ y.heap.size
section
variable {base : Nat} {w y y1 : World} {E : Nat} {C : List Value} {v0 v v1 : Value} {L M : List Int}
theorem BX.born (h : RB w base 5 v (bys L)) (hb : base ≤ w.heap.size) (T : TypeId) (C : List Value) (D : Array Value) (hD : D.toList = C) : BX base w (w.alloc (.cells D T)) w.heap.size C v v L :=
  ⟨(Wr.refl h).app _, by simp, fun e => by have := (h.lt _ e).2; omega, fun o x hx => by
    subst hD
    exact (World.cell?_alloc_new _ _ _ o).trans (by simpa using hx), by simp only [World.size_alloc]; omega⟩
theorem BX.step (h : BX base w y E C v0 v L) (g : Wr base y y1 v v1 M) : BX base w y1 E C v0 v1 M :=
  ⟨h.wr.trans g, Nat.lt_of_lt_of_le h.lt g.cg.size, fun e => by
    rcases g.ob _ e with e | e
    · exact h.ne e
    · have := h.lt; omega, fun o x hx => (cell_heap (g.cg.block E h.lt h.ne) o).trans (h.ks o x hx), Nat.le_trans h.hb g.cg.size⟩
theorem BX.drew (h : BX base w y E C v0 v L) : BX base w y.drew E C v0 v L := ⟨h.wr.drew, h.lt, h.ne, h.ks, h.hb⟩
theorem BX.s2 {a b : Value} (h : BX base w y E [a, b] v0 v L) : y.cell? ⟨E, 0, none⟩ = some a ∧ y.cell? ⟨E, 1, none⟩ = some b := ⟨h.ks 0 _ rfl, h.ks 1 _ rfl⟩
theorem BX.s4 {a b c d : Value} (h : BX base w y E [a, b, c, d] v0 v L) : y.cell? ⟨E, 0, none⟩ = some a ∧ y.cell? ⟨E, 1, none⟩ = some b ∧ y.cell? ⟨E, 2, none⟩ = some c ∧ y.cell? ⟨E, 3, none⟩ = some d := ⟨h.ks 0 _ rfl, h.ks 1 _ rfl, h.ks 2 _ rfl, h.ks 3 _ rfl⟩
end
set_option maxHeartbeats 16000000 in
theorem pval_c {w : World} {base : Nat} {v : Value} {L : List Int} (h : RB w base 5 v (bys L)) (hb : base ≤ w.heap.size) (hl : L.length ≤ 900000000) (a b : Int) :
    Calls Tryz.prog 67 #[v, .agg #[.int .i64 a, .int .i64 b]] w fun e w' => ∃ v', e = .returned v' ∧ Wr base w w' v v' (L ++ (b4 a ++ b4 b)) := by
  have hB := Lib.hid (BX.born h hb 68 [.int .i64 a, .int .i64 b] #[.int .i64 a, .int .i64 b] rfl)
  have hsz := h.lt
  clear h
  go_enter Tryz.func67, Tryz.ntmps67
  go_upto_region 1 with fail
  obtain ⟨E, hE⟩ : ∃ E, w.heap.size = E := ⟨_, rfl⟩
  obtain ⟨y0, hy0⟩ : ∃ y, w.alloc (.cells #[.int .i64 a, .int .i64 b] 68) = y := ⟨_, rfl⟩
  rw [hy0, hE] at hB
  simp only [hy0, hE]
  clear hy0
  replace hB := Lib.hid hB.out.drew
  refine wp_region_held_drew (S := (fun y => y.cell? ⟨E, 0, none⟩ = some (.int .i64 a) ∧ y.cell? ⟨E, 1, none⟩ = some (.int .i64 b))) (by kernel_rfl) ?_ (fun hHeld => ?_)
  · (try dsimp only); exact hB.out.s2
  try simp only [Act.put, nA]
  generalize y0.drew = y1 at *
  have P1 := Lib.hid (pnum_c hB.out.wr.rb hB.out.hb (by omega) a)
  refine tk (i := 0) (oi := ⟨some 5, .move (.tmp 0), 36, "put.go:47", #[], none⟩) (hy := by intro w hSw; (try dsimp only at hSw); obtain ⟨s0, s1⟩ := hSw; go_simp <;> with_reducible rfl) ?_
  try simp only [Act.put, nA]
  refine tk (i := 1) (oi := ⟨some 6, .fieldAddr 68 (.tmp 3) 0, 0, "put.go:47", #[], none⟩) (hy := by intro w hSw; (try dsimp only at hSw); obtain ⟨s0, s1⟩ := hSw; go_simp <;> with_reducible rfl) ?_
  try simp only [Act.put, nA]
  refine tk (i := 2) (oi := ⟨some 7, .load 3 (.tmp 6), 3, "put.go:47", #[⟨1, .data⟩], none⟩) (hy := by intro w hSw; (try dsimp only at hSw); obtain ⟨s0, s1⟩ := hSw; go_simp <;> with_reducible rfl) ?_
  try simp only [Act.put, nA]
  refine tk (i := 4) (oi := ⟨some 9, .fieldAddr 68 (.tmp 3) 1, 0, "put.go:47", #[], none⟩) (hy := by intro w hSw; (try dsimp only at hSw); obtain ⟨s0, s1⟩ := hSw; go_simp <;> with_reducible rfl) ?_
  try simp only [Act.put, nA]
  refine tk (i := 5) (oi := ⟨some 10, .load 3 (.tmp 9), 3, "put.go:47", #[⟨4, .data⟩], none⟩) (hy := by intro w hSw; (try dsimp only at hSw); obtain ⟨s0, s1⟩ := hSw; go_simp <;> with_reducible rfl) ?_
  try simp only [Act.put, nA]
  refine wpAnyH_ready (rs := [3]) (by kernel_rfl) (by simp) ?_
  refine AllReadyH.cons (o := ⟨some 8, .call { callee := .value (.func 39), args := #[.tmp 5, .tmp 7], argTypes := #[36, 3] }, 36, "put.go:47", #[⟨0, .data⟩, ⟨2, .data⟩], none⟩) rfl (fun K9 hK => ?_) AllReadyH.nil
  go_simp
  with_reducible refine P1.out.mono ?_
  rintro e y2 ⟨v2, rfl, hR2⟩
  replace hB := Lib.hid (hB.out.step hR2)
  clear hR2 P1
  have P2 := Lib.hid (pnum_c hB.out.wr.rb hB.out.hb (by rw [List.length_append, b4_len]; omega) b)
  go_wp2_with fail
  refine hK.out _ _ ?_ ?_
  · (try dsimp only); exact hB.out.s2
  clear hK K9 hHeld; intro hHeld
  try simp only [Act.put, nA]
  refine wpAnyH_ready (rs := [6]) (by kernel_rfl) (by simp) ?_
  refine AllReadyH.cons (o := ⟨some 11, .call { callee := .value (.func 39), args := #[.tmp 8, .tmp 10], argTypes := #[36, 3] }, 36, "put.go:47", #[⟨3, .data⟩, ⟨5, .data⟩, ⟨3, .chain⟩], none⟩) rfl (fun K9 hK => ?_) AllReadyH.nil
  go_simp
  with_reducible refine P2.out.mono ?_
  rintro e y3 ⟨v3, rfl, hR3⟩
  replace hB := Lib.hid (hB.out.step hR3)
  clear hR3 P2
  go_wp2_with fail
  refine hK.out _ _ ?_ ?_
  · (try dsimp only); exact hB.out.s2
  clear hK K9 hHeld; intro hHeld
  try simp only [Act.put, nA]
  refine tk (i := 7) (oi := ⟨some 4, .assign (.tmp 11), 36, "put.go:47", #[⟨6, .data⟩, ⟨6, .chain⟩, ⟨0, .phase⟩, ⟨1, .phase⟩, ⟨2, .phase⟩, ⟨3, .phase⟩, ⟨4, .phase⟩, ⟨5, .phase⟩, ⟨6, .phase⟩], none⟩) (hy := by intro w hSw; (try dsimp only at hSw); obtain ⟨s0, s1⟩ := hSw; go_simp <;> with_reducible rfl) ?_
  try simp only [Act.put, nA]
  refine wpAnyH_done (by kernel_rfl) ?_ _
  go_wp2
  go_ret
  have hf := hB.out.wr
  rw [List.append_assoc] at hf
  exact ⟨_, rfl, hf⟩
set_option maxHeartbeats 16000000 in
theorem pbind_c {w : World} {base : Nat} {v : Value} {L : List Int} (h : RB w base 5 v (bys L)) (hb : base ≤ w.heap.size) (hl : L.length ≤ 900000000) (a b : Int) :
    Calls Tryz.prog 65 #[v, .agg #[.int .i64 a, .int .i64 b]] w fun e w' => ∃ v', e = .returned v' ∧ Wr base w w' v v' (L ++ (b4 a ++ b4 b)) := by
  have hB := Lib.hid (BX.born h hb 66 [.int .i64 a, .int .i64 b] #[.int .i64 a, .int .i64 b] rfl)
  have hsz := h.lt
  clear h
  go_enter Tryz.func65, Tryz.ntmps65
  go_upto_region 1 with fail
  obtain ⟨E, hE⟩ : ∃ E, w.heap.size = E := ⟨_, rfl⟩
  obtain ⟨y0, hy0⟩ : ∃ y, w.alloc (.cells #[.int .i64 a, .int .i64 b] 66) = y := ⟨_, rfl⟩
  rw [hy0, hE] at hB
  simp only [hy0, hE]
  clear hy0
  replace hB := Lib.hid hB.out.drew
  refine wp_region_held_drew (S := (fun y => y.cell? ⟨E, 0, none⟩ = some (.int .i64 a) ∧ y.cell? ⟨E, 1, none⟩ = some (.int .i64 b))) (by kernel_rfl) ?_ (fun hHeld => ?_)
  · (try dsimp only); exact hB.out.s2
  try simp only [Act.put, nA]
  generalize y0.drew = y1 at *
  have P1 := Lib.hid (pnum_c hB.out.wr.rb hB.out.hb (by omega) a)
  refine tk (i := 0) (oi := ⟨some 5, .move (.tmp 0), 36, "put.go:32", #[], none⟩) (hy := by intro w hSw; (try dsimp only at hSw); obtain ⟨s0, s1⟩ := hSw; go_simp <;> with_reducible rfl) ?_
  try simp only [Act.put, nA]
  refine tk (i := 1) (oi := ⟨some 6, .fieldAddr 66 (.tmp 3) 0, 0, "put.go:32", #[], none⟩) (hy := by intro w hSw; (try dsimp only at hSw); obtain ⟨s0, s1⟩ := hSw; go_simp <;> with_reducible rfl) ?_
  try simp only [Act.put, nA]
  refine tk (i := 2) (oi := ⟨some 7, .load 3 (.tmp 6), 3, "put.go:32", #[⟨1, .data⟩], none⟩) (hy := by intro w hSw; (try dsimp only at hSw); obtain ⟨s0, s1⟩ := hSw; go_simp <;> with_reducible rfl) ?_
  try simp only [Act.put, nA]
  refine tk (i := 4) (oi := ⟨some 9, .fieldAddr 66 (.tmp 3) 1, 0, "put.go:32", #[], none⟩) (hy := by intro w hSw; (try dsimp only at hSw); obtain ⟨s0, s1⟩ := hSw; go_simp <;> with_reducible rfl) ?_
  try simp only [Act.put, nA]
  refine tk (i := 5) (oi := ⟨some 10, .load 3 (.tmp 9), 3, "put.go:32", #[⟨4, .data⟩], none⟩) (hy := by intro w hSw; (try dsimp only at hSw); obtain ⟨s0, s1⟩ := hSw; go_simp <;> with_reducible rfl) ?_
  try simp only [Act.put, nA]
  refine wpAnyH_ready (rs := [3]) (by kernel_rfl) (by simp) ?_
  refine AllReadyH.cons (o := ⟨some 8, .call { callee := .value (.func 39), args := #[.tmp 5, .tmp 7], argTypes := #[36, 3] }, 36, "put.go:32", #[⟨0, .data⟩, ⟨2, .data⟩], none⟩) rfl (fun K9 hK => ?_) AllReadyH.nil
  go_simp
  with_reducible refine P1.out.mono ?_
  rintro e y2 ⟨v2, rfl, hR2⟩
  replace hB := Lib.hid (hB.out.step hR2)
  clear hR2 P1
  have P2 := Lib.hid (pnum_c hB.out.wr.rb hB.out.hb (by rw [List.length_append, b4_len]; omega) b)
  go_wp2_with fail
  refine hK.out _ _ ?_ ?_
  · (try dsimp only); exact hB.out.s2
  clear hK K9 hHeld; intro hHeld
  try simp only [Act.put, nA]
  refine wpAnyH_ready (rs := [6]) (by kernel_rfl) (by simp) ?_
  refine AllReadyH.cons (o := ⟨some 11, .call { callee := .value (.func 39), args := #[.tmp 8, .tmp 10], argTypes := #[36, 3] }, 36, "put.go:32", #[⟨3, .data⟩, ⟨5, .data⟩, ⟨3, .chain⟩], none⟩) rfl (fun K9 hK => ?_) AllReadyH.nil
  go_simp
  with_reducible refine P2.out.mono ?_
  rintro e y3 ⟨v3, rfl, hR3⟩
  replace hB := Lib.hid (hB.out.step hR3)
  clear hR3 P2
  go_wp2_with fail
  refine hK.out _ _ ?_ ?_
  · (try dsimp only); exact hB.out.s2
  clear hK K9 hHeld; intro hHeld
  try simp only [Act.put, nA]
  refine tk (i := 7) (oi := ⟨some 4, .assign (.tmp 11), 36, "put.go:32", #[⟨6, .data⟩, ⟨6, .chain⟩, ⟨0, .phase⟩, ⟨1, .phase⟩, ⟨2, .phase⟩, ⟨3, .phase⟩, ⟨4, .phase⟩, ⟨5, .phase⟩, ⟨6, .phase⟩], none⟩) (hy := by intro w hSw; (try dsimp only at hSw); obtain ⟨s0, s1⟩ := hSw; go_simp <;> with_reducible rfl) ?_
  try simp only [Act.put, nA]
  refine wpAnyH_done (by kernel_rfl) ?_ _
  go_wp2
  go_ret
  have hf := hB.out.wr
  rw [List.append_assoc] at hf
  exact ⟨_, rfl, hf⟩
set_option maxHeartbeats 16000000 in
theorem prowv_c {wu w : World} {base : Nat} {v u : Value} {L : List Int} {V : List (Int × Int)} (hq : wu.heap.size ≤ base) (hu : PrV wu u V) (hbu : Below wu.heap.size wu w) (h : RB w base 5 v (bys L)) (hb : base ≤ w.heap.size) (hl : L.length + (rowB (fun v : Int × Int => b4 v.1 ++ b4 v.2) V).length ≤ 800000000) :
    Calls Tryz.prog 66 #[v, u, .func (.func 67) #[] #[]] w fun e w' => ∃ v', e = .returned v' ∧ Wr base w w' v v' (L ++ rowB (fun v : Int × Int => b4 v.1 ++ b4 v.2) V) := by
  obtain ⟨ad, cap, rfl, hcap, hmx⟩ := hu.form
  rw [rowB_fl] at hl ⊢
  rw [List.length_append, b4_len] at hl
  have hat := Lib.hid (fun k x (hx : V[k]? = some x) => fl_at (f := (fun v : Int × Int => b4 v.1 ++ b4 v.2)) hx)
  obtain ⟨n, hn⟩ : ∃ n, n = V.length := ⟨_, rfl⟩
  rw [← hn] at hu hcap ⊢
  have hn64 : n ≤ maxLen := by omega
  have hmx' : maxLen ≤ 9223372036854775807 := by decide
  replace hu := Lib.hid hu
  have hn' := Lib.hid hn
  replace hbu := Lib.hid hbu
  replace h := Lib.hid h
  have hlt0 := Lib.hid (fun k hk => (h.out.lt k hk).1)
  clear hmx hn
  go_enter Tryz.func66, Tryz.ntmps66
  go_wp2_with fail
  with_reducible refine (pnum_c h.out hb (by omega) _).mono ?_
  rintro e w1 ⟨v1, rfl, h1⟩
  replace h1 := Lib.hid h1
  go_wp2
  have hst : Hid (Wr base w w1 v v1 (L ++ b4 n ++ fl (fun v : Int × Int => b4 v.1 ++ b4 v.2) (V.take 0))) := Lib.hid (by simpa [fl] using h1.out)
  go_loopw [0, 15] (fun i0 i15 wr => ∃ (k : Nat), k ≤ n ∧ i15 = .int .i64 k ∧ Hid (Wr base w wr v i0 (L ++ b4 n ++ fl (fun v : Int × Int => b4 v.1 ++ b4 v.2) (V.take k)))) (fun _ i15 _ => n - (intOf i15).toNat)
  case atStart => exact ⟨0, by omega, rfl, hst⟩
  case round =>
    clear hst h1
    obtain ⟨k, hk, rfl, hR⟩ := hrel
    by_cases hlt : k < n
    · have d1 : decide ((k : Int) < (n : Int)) = true := by simp; omega
      have p0 : (0 : Int) ≤ (k : Int) := by omega
      have p1 : (k : Int) < (n : Int) := by omega
      obtain ⟨x, hx⟩ : ∃ x, V[k]? = some x := ⟨V[k]'(by have := hn'.out; omega), by simp⟩
      have hbr := wr_bel hR.out.cg hlt0.out hq hbu.out
      obtain ⟨a, b⟩ := x
      obtain ⟨a64, b64, g, off, rfl, c0, c1⟩ := (hu.out.up hbr).at hx
      simp only at a64 b64 c0 c1
      have hle : (fl (fun v : Int × Int => b4 v.1 ++ b4 v.2) (V.take k)).length + ((fun v : Int × Int => b4 v.1 ++ b4 v.2) (a, b)).length ≤ (fl (fun v : Int × Int => b4 v.1 ++ b4 v.2) V).length := hat.out k (a, b) hx
      have hlen : (L ++ b4 ↑n ++ fl (fun v : Int × Int => b4 v.1 ++ b4 v.2) (V.take k)).length + ((fun v : Int × Int => b4 v.1 ++ b4 v.2) (a, b)).length ≤ 800000000 := by rw [List.length_append, List.length_append, b4_len]; omega
      have hnx := Lib.hid (fl_next (f := (fun v : Int × Int => b4 v.1 ++ b4 v.2)) hx)
      have hsz := hR.out.cg.size
      clear hx hle
      have hR0 := Lib.hid (hR.out.app (.cells #[.int .i64 a, .int .i64 b] 68))
      have hbs : base ≤ (wr.alloc (.cells #[.int .i64 a, .int .i64 b] 68)).heap.size := by simp only [World.size_alloc]; omega
      have P := Lib.hid (pval_c hR0.out.rb hbs (by omega) a b)
      clear hbr
      go_wp2_with (first | (go_at_call 67; ((with_reducible refine P.out.mono ?_); rintro e1 w2 ⟨v2, rfl, hw2⟩)))
      have hf := hR0.out.trans hw2
      rw [List.append_assoc, ← hnx.out] at hf
      replace hf := Lib.hid hf
      clear hw2 P
      go_roundw
      case rel => exact ⟨k + 1, by omega, by go_num, hf⟩
      case measure => simp [intOf]; omega
    · have d1 : decide ((k : Int) < (n : Int)) = false := by simp; omega
      have hf := hR.out
      rw [show k = V.length by have := hn'.out; omega, List.take_length, List.append_assoc] at hf
      replace hf := Lib.hid hf
      go_wp2
      go_ret
      exact ⟨_, rfl, hf.out⟩
set_option maxHeartbeats 16000000 in
theorem prowb_c {wu w : World} {base : Nat} {v u : Value} {L : List Int} {V : List (Int × Int)} (hq : wu.heap.size ≤ base) (hu : PrV wu u V) (hbu : Below wu.heap.size wu w) (h : RB w base 5 v (bys L)) (hb : base ≤ w.heap.size) (hl : L.length + (rowB (fun v : Int × Int => b4 v.1 ++ b4 v.2) V).length ≤ 800000000) :
    Calls Tryz.prog 64 #[v, u, .func (.func 65) #[] #[]] w fun e w' => ∃ v', e = .returned v' ∧ Wr base w w' v v' (L ++ rowB (fun v : Int × Int => b4 v.1 ++ b4 v.2) V) := by
  obtain ⟨ad, cap, rfl, hcap, hmx⟩ := hu.form
  rw [rowB_fl] at hl ⊢
  rw [List.length_append, b4_len] at hl
  have hat := Lib.hid (fun k x (hx : V[k]? = some x) => fl_at (f := (fun v : Int × Int => b4 v.1 ++ b4 v.2)) hx)
  obtain ⟨n, hn⟩ : ∃ n, n = V.length := ⟨_, rfl⟩
  rw [← hn] at hu hcap ⊢
  have hn64 : n ≤ maxLen := by omega
  have hmx' : maxLen ≤ 9223372036854775807 := by decide
  replace hu := Lib.hid hu
  have hn' := Lib.hid hn
  replace hbu := Lib.hid hbu
  replace h := Lib.hid h
  have hlt0 := Lib.hid (fun k hk => (h.out.lt k hk).1)
  clear hmx hn
  go_enter Tryz.func64, Tryz.ntmps64
  go_wp2_with fail
  with_reducible refine (pnum_c h.out hb (by omega) _).mono ?_
  rintro e w1 ⟨v1, rfl, h1⟩
  replace h1 := Lib.hid h1
  go_wp2
  have hst : Hid (Wr base w w1 v v1 (L ++ b4 n ++ fl (fun v : Int × Int => b4 v.1 ++ b4 v.2) (V.take 0))) := Lib.hid (by simpa [fl] using h1.out)
  go_loopw [0, 15] (fun i0 i15 wr => ∃ (k : Nat), k ≤ n ∧ i15 = .int .i64 k ∧ Hid (Wr base w wr v i0 (L ++ b4 n ++ fl (fun v : Int × Int => b4 v.1 ++ b4 v.2) (V.take k)))) (fun _ i15 _ => n - (intOf i15).toNat)
  case atStart => exact ⟨0, by omega, rfl, hst⟩
  case round =>
    clear hst h1
    obtain ⟨k, hk, rfl, hR⟩ := hrel
    by_cases hlt : k < n
    · have d1 : decide ((k : Int) < (n : Int)) = true := by simp; omega
      have p0 : (0 : Int) ≤ (k : Int) := by omega
      have p1 : (k : Int) < (n : Int) := by omega
      obtain ⟨x, hx⟩ : ∃ x, V[k]? = some x := ⟨V[k]'(by have := hn'.out; omega), by simp⟩
      have hbr := wr_bel hR.out.cg hlt0.out hq hbu.out
      obtain ⟨a, b⟩ := x
      obtain ⟨a64, b64, g, off, rfl, c0, c1⟩ := (hu.out.up hbr).at hx
      simp only at a64 b64 c0 c1
      have hle : (fl (fun v : Int × Int => b4 v.1 ++ b4 v.2) (V.take k)).length + ((fun v : Int × Int => b4 v.1 ++ b4 v.2) (a, b)).length ≤ (fl (fun v : Int × Int => b4 v.1 ++ b4 v.2) V).length := hat.out k (a, b) hx
      have hlen : (L ++ b4 ↑n ++ fl (fun v : Int × Int => b4 v.1 ++ b4 v.2) (V.take k)).length + ((fun v : Int × Int => b4 v.1 ++ b4 v.2) (a, b)).length ≤ 800000000 := by rw [List.length_append, List.length_append, b4_len]; omega
      have hnx := Lib.hid (fl_next (f := (fun v : Int × Int => b4 v.1 ++ b4 v.2)) hx)
      have hsz := hR.out.cg.size
      clear hx hle
      have hR0 := Lib.hid (hR.out.app (.cells #[.int .i64 a, .int .i64 b] 66))
      have hbs : base ≤ (wr.alloc (.cells #[.int .i64 a, .int .i64 b] 66)).heap.size := by simp only [World.size_alloc]; omega
      have P := Lib.hid (pbind_c hR0.out.rb hbs (by omega) a b)
      clear hbr
      go_wp2_with (first | (go_at_call 65; ((with_reducible refine P.out.mono ?_); rintro e1 w2 ⟨v2, rfl, hw2⟩)))
      have hf := hR0.out.trans hw2
      rw [List.append_assoc, ← hnx.out] at hf
      replace hf := Lib.hid hf
      clear hw2 P
      go_roundw
      case rel => exact ⟨k + 1, by omega, by go_num, hf⟩
      case measure => simp [intOf]; omega
    · have d1 : decide ((k : Int) < (n : Int)) = false := by simp; omega
      have hf := hR.out
      rw [show k = V.length by have := hn'.out; omega, List.take_length, List.append_assoc] at hf
      replace hf := Lib.hid hf
      go_wp2
      go_ret
      exact ⟨_, rfl, hf.out⟩
end Wd
end Go.Proofs.YtgfnelhbdhbklaaGreat
