/- Texts joined: ILT, TK, ILU, ILV, UOL. -/
import Derived.Test.YtgfnelhbdhbklaaGreatJ2
import Derived.Test.YtgfnelhbdhbklaaGreatJ5
import Derived.Test.YtgfnelhbdhbklaaGreatJ10
import Derived.OrdersHeld
import Derived.WalkKit
import Derived.Deep.RegionHeld3
import Derived.Deep.RegionWith
import Derived.KernelRfl
/- The landed image, read: a pair, a row of pairs. -/
namespace Go.Proofs.YtgfnelhbdhbklaaGreat
open Go.RowKit
set_option linter.unusedVariables false
set_option maxRecDepth 20000
namespace Wd
theorem bx_set {W : World} {E o : Nat} {C : Array Value} {T : TypeId} (h : W.heap[E]? = some (.cells C T (0, 0))) (v : Value) : (W.setCell ⟨E, o, none⟩ v).heap[E]? = some (.cells (C.setIfInBounds o v) T (0, 0)) := by
  rw [setCell_eq_setRow W E o _ _ _ _ h]
  exact setRow_heap W E _ _ _ _ h
theorem bx_far {W : World} {E E' o : Nat} (hE : E' ≠ E) (v : Value) : (W.setCell ⟨E, o, none⟩ v).heap[E']? = W.heap[E']? := Below.heap_setCell _ _ _ _ (by simpa using hE)
/-- while an element is read: the reader, the box of what is handed back, the box of the element -/
structure EL (w y W : World) (p : Nat) (v : Value) (s : Rd8) (T : TypeId) (C2 C3 : Array Value) : Prop where
  r : RI w W p v s
  plt : p < y.heap.size
  cg : Cg (fun k => k = p) y W
  b2 : W.heap[y.heap.size]? = some (.cells C2 T (0, 0))
  b3 : W.heap[y.heap.size + 1]? = some (.cells C3 T (0, 0))
section
variable {w y W W1 : World} {p : Nat} {v v1 : Value} {s s1 : Rd8} {T : TypeId} {C2 C3 : Array Value}
theorem EL.lt (h : EL w y W p v s T C2 C3) : y.heap.size + 1 < W.heap.size := (Array.getElem?_eq_some_iff.1 h.b3).1
theorem EL.born (h : RI w y p v s) : EL w y ((y.alloc (.cells C2 T)).alloc (.cells C3 T)) p v s T C2 C3 := by
  have b1 := (Below.refl y.heap.size y).alloc (Nat.le_refl _) (.cells C2 T)
  have b2 := b1.alloc b1.size (.cells C3 T)
  refine ⟨h.up b2, h.lt, ((Cg.refl _ y).alloc _).alloc _, ?_, ?_⟩
  · exact (((Below.refl (y.alloc (.cells C2 T)).heap.size _).alloc (Nat.le_refl _) (.cells C3 T)).block y.heap.size (by simp)).trans (heap_alloc_new _ _)
  · have := heap_alloc_new (y.alloc (.cells C2 T)) (.cells C3 T)
    rw [World.size_alloc] at this
    exact this
theorem EL.call (h : EL w y W p v s T C2 C3) (r : RI w W1 p v1 s1) (c : Cg (fun k => k = p) W W1) : EL w y W1 p v1 s1 T C2 C3 := by
  have := h.plt
  have := h.lt
  exact ⟨r, h.plt, h.cg.trans c, (c.block _ (by omega) (by omega)).trans h.b2, (c.block _ (by omega) (by omega)).trans h.b3⟩
theorem EL.set3 (h : EL w y W p v s T C2 C3) (o : Nat) (x : Value) : EL w y (W.setCell ⟨y.heap.size + 1, o, none⟩ x) p v s T C2 (C3.setIfInBounds o x) := by
  have c := (Cg.refl (fun k => k = y.heap.size + 1) W).set ⟨y.heap.size + 1, o, none⟩ rfl x
  have hp := h.plt
  have hb := h.r.bel.size
  have hlo := h.r.lo
  exact ⟨h.r.cg c (fun k e => ⟨by omega, by omega⟩), h.plt, h.cg.trans' c (fun k e => Or.inr (by omega)), (bx_far (by omega) x).trans h.b2, bx_set h.b3 x⟩
theorem EL.set2 (h : EL w y W p v s T C2 C3) (o : Nat) (x : Value) : EL w y (W.setCell ⟨y.heap.size, o, none⟩ x) p v s T (C2.setIfInBounds o x) C3 := by
  have c := (Cg.refl (fun k => k = y.heap.size) W).set ⟨y.heap.size, o, none⟩ rfl x
  have hp := h.plt
  have hlo := h.r.lo
  exact ⟨h.r.cg c (fun k e => ⟨by omega, by omega⟩), h.plt, h.cg.trans' c (fun k e => Or.inr (by omega)), bx_set h.b2 x, (bx_far (by omega) x).trans h.b3⟩
theorem EL.e2 (h : EL w y W p v s T C2 C3) {o : Nat} {x : Value} (hx : C2[o]? = some x) : W.cell? ⟨y.heap.size, o, none⟩ = some x := cells_at h.b2 hx
theorem EL.e3 (h : EL w y W p v s T C2 C3) {o : Nat} {x : Value} (hx : C3[o]? = some x) : W.cell? ⟨y.heap.size + 1, o, none⟩ = some x := cells_at h.b3 hx
theorem EL.z2 (h : EL w y W p v s T C2 C3) (o : Nat) : W.frozen? ⟨y.heap.size, o, none⟩ = false := loose_at h.b2 o
theorem EL.z3 (h : EL w y W p v s T C2 C3) (o : Nat) : W.frozen? ⟨y.heap.size + 1, o, none⟩ = false := loose_at h.b3 o
end
/-- a view whose blocks lie from b on -/
def Lies (b : Nat) (J : Nat → Prop) (W : World) (P : World → Prop) : Prop := Stay J W P ∧ ∀ k, J k → b ≤ k ∧ k < W.heap.size
theorem Lies.cg {b : Nat} {J F : Nat → Prop} {W W1 : World} {P : World → Prop} (h : Lies b J W P) (c : Cg F W W1) (hF : ∀ k, F k → k < b) : Lies b J W1 P :=
  ⟨h.1.cg c (fun k hf hj => by have := (h.2 k hj).1; have := hF k hf; omega), fun k hj => ⟨(h.2 k hj).1, Nat.lt_of_lt_of_le (h.2 k hj).2 c.size⟩⟩
theorem Lies.set {b E o : Nat} {J : Nat → Prop} {W : World} {P : World → Prop} (h : Lies b J W P) (hE : E < b) (x : Value) : Lies b J (W.setCell ⟨E, o, none⟩ x) P :=
  h.cg ((Cg.refl (fun k => k = E) W).set ⟨E, o, none⟩ rfl x) (fun k e => by omega)
theorem lies_gr {α : Type} {T : TypeId} {sz : Nat} {f : List α → List Value} {Q : α → World → Prop} {b : Nat} {wr : World} {I : Nat → Prop} {v : Value} {A : List α} {P : World → Prop} (h : GrX T sz f Q b wr I v A) (g : Stay (fun k => I k ∨ v.ownBlock = some k) wr P) : Lies b (fun k => I k ∨ v.ownBlock = some k) wr P := ⟨g, h.lo2⟩
theorem val_g_res {ts : Array Value} {w : World} {q : Nat} {v0 v1 : Value} (h8 : ts.getD 2 undef = .pointer (some ⟨q, 0, none⟩)) (r0 : w.cell? ⟨q, 0, none⟩ = some v0) (r1 : w.cell? ⟨q, 1, none⟩ = some v1) :
    (results Tryz.f100 ts).run Tryz.prog w = .ok (.agg #[v0, v1]) w := by
  have h8' : ts[2]?.getD undef = .pointer (some ⟨q, 0, none⟩) := by rw [← Array.getD_eq_getD_getElem?]; exact h8
  simp [results, Tryz.results100, go_sem, h8', r0, r1]
set_option maxHeartbeats 16000000 in
theorem val_g {w y : World} {p : Nat} {v : Value} {s : Rd8} (h : RI w y p v s) :
    Calls Tryz.prog 100 #[.pointer (some ⟨p, 0, none⟩)] y fun e y' => e = .returned (.agg #[.int .i64 (prL s).1.1, .int .i64 (prL s).1.2]) ∧ (∃ v', RI w y' p v' (prL s).2) ∧ Cg (fun k => k = p) y y' := by
  have hl : prL s = (((numL s).1, (numL (numL s).2).1), (numL (numL s).2).2) := rfl
  rw [hl]
  clear hl
  have hE := Lib.hid (EL.born (T := 68) (C2 := #[.int .i64 0, .int .i64 0]) (C3 := #[.int .i64 0, .int .i64 0]) h)
  have P1 := Lib.hid (number_c hE.out.r)
  generalize numL s = q1 at P1 ⊢
  generalize hQ : numL q1.2 = q2
  replace hQ := Lib.hid hQ
  go_enter Tryz.func100, Tryz.ntmps100
  go_wp2_with fail
  with_reducible refine P1.out.mono ?_
  rintro e1 y1 ⟨rfl, ⟨v1, hR⟩, hc⟩
  replace hE := Lib.hid (hE.out.call hR hc)
  clear P1 hR hc
  have c0 := hE.out.e3 (o := 0) rfl
  have z0 := hE.out.z3 0
  go_upto_region 3 with fail
  replace hE := Lib.hid (hE.out.set3 0 (.int .i64 q1.1))
  generalize y1.setCell ⟨y.heap.size + 1, 0, none⟩ (.int .i64 q1.1) = W1 at *
  clear c0 z0
  have P1 := number_c hE.out.r
  rw [hQ.out] at P1
  replace P1 := Lib.hid P1
  go_wp2_with fail
  with_reducible refine P1.out.mono ?_
  rintro e1 y1 ⟨rfl, ⟨v2, hR⟩, hc⟩
  replace hE := Lib.hid (hE.out.call hR hc)
  clear P1 hR hc
  have c0 := hE.out.e3 (o := 1) rfl
  have z0 := hE.out.z3 1
  go_upto_region 4 with fail
  replace hE := Lib.hid (hE.out.set3 1 (.int .i64 q2.1))
  generalize y1.setCell ⟨y.heap.size + 1, 1, none⟩ (.int .i64 q2.1) = W2 at *
  clear c0 z0
  have c0 := hE.out.e3 (o := 0) rfl
  have c1 := hE.out.e3 (o := 1) rfl
  have d0 := hE.out.e2 (o := 0) rfl
  have d1 := hE.out.e2 (o := 1) rfl
  have z0 := hE.out.z2 0
  have z1 := hE.out.z2 1
  go_wp2
  replace hE := Lib.hid ((hE.out.set2 0 (.int .i64 q1.1)).set2 1 (.int .i64 q2.1))
  generalize (W2.setCell ⟨y.heap.size, 0, none⟩ (.int .i64 q1.1)).setCell ⟨y.heap.size, 1, none⟩ (.int .i64 q2.1) = W3 at *
  clear c0 c1 d0 d1 z0 z1
  have d0 : W3.cell? ⟨y.heap.size, 0, none⟩ = some (.int .i64 q1.1) := hE.out.e2 (o := 0) rfl
  have d1 : W3.cell? ⟨y.heap.size, 1, none⟩ = some (.int .i64 q2.1) := hE.out.e2 (o := 1) rfl
  refine bodyPost_ret (val_g_res rfl d0 d1) rfl ?_
  exact ⟨rfl, ⟨_, hE.out.r⟩, hE.out.cg⟩
theorem bind_g_res {ts : Array Value} {w : World} {q : Nat} {v0 v1 : Value} (h8 : ts.getD 2 undef = .pointer (some ⟨q, 0, none⟩)) (r0 : w.cell? ⟨q, 0, none⟩ = some v0) (r1 : w.cell? ⟨q, 1, none⟩ = some v1) :
    (results Tryz.f98 ts).run Tryz.prog w = .ok (.agg #[v0, v1]) w := by
  have h8' : ts[2]?.getD undef = .pointer (some ⟨q, 0, none⟩) := by rw [← Array.getD_eq_getD_getElem?]; exact h8
  simp [results, Tryz.results98, go_sem, h8', r0, r1]
set_option maxHeartbeats 16000000 in
theorem bind_g {w y : World} {p : Nat} {v : Value} {s : Rd8} (h : RI w y p v s) :
    Calls Tryz.prog 98 #[.pointer (some ⟨p, 0, none⟩)] y fun e y' => e = .returned (.agg #[.int .i64 (prL s).1.1, .int .i64 (prL s).1.2]) ∧ (∃ v', RI w y' p v' (prL s).2) ∧ Cg (fun k => k = p) y y' := by
  have hl : prL s = (((numL s).1, (numL (numL s).2).1), (numL (numL s).2).2) := rfl
  rw [hl]
  clear hl
  have hE := Lib.hid (EL.born (T := 66) (C2 := #[.int .i64 0, .int .i64 0]) (C3 := #[.int .i64 0, .int .i64 0]) h)
  have P1 := Lib.hid (number_c hE.out.r)
  generalize numL s = q1 at P1 ⊢
  generalize hQ : numL q1.2 = q2
  replace hQ := Lib.hid hQ
  go_enter Tryz.func98, Tryz.ntmps98
  go_wp2_with fail
  with_reducible refine P1.out.mono ?_
  rintro e1 y1 ⟨rfl, ⟨v1, hR⟩, hc⟩
  replace hE := Lib.hid (hE.out.call hR hc)
  clear P1 hR hc
  have c0 := hE.out.e3 (o := 0) rfl
  have z0 := hE.out.z3 0
  go_upto_region 3 with fail
  replace hE := Lib.hid (hE.out.set3 0 (.int .i64 q1.1))
  generalize y1.setCell ⟨y.heap.size + 1, 0, none⟩ (.int .i64 q1.1) = W1 at *
  clear c0 z0
  have P1 := number_c hE.out.r
  rw [hQ.out] at P1
  replace P1 := Lib.hid P1
  go_wp2_with fail
  with_reducible refine P1.out.mono ?_
  rintro e1 y1 ⟨rfl, ⟨v2, hR⟩, hc⟩
  replace hE := Lib.hid (hE.out.call hR hc)
  clear P1 hR hc
  have c0 := hE.out.e3 (o := 1) rfl
  have z0 := hE.out.z3 1
  go_upto_region 4 with fail
  replace hE := Lib.hid (hE.out.set3 1 (.int .i64 q2.1))
  generalize y1.setCell ⟨y.heap.size + 1, 1, none⟩ (.int .i64 q2.1) = W2 at *
  clear c0 z0
  have c0 := hE.out.e3 (o := 0) rfl
  have c1 := hE.out.e3 (o := 1) rfl
  have d0 := hE.out.e2 (o := 0) rfl
  have d1 := hE.out.e2 (o := 1) rfl
  have z0 := hE.out.z2 0
  have z1 := hE.out.z2 1
  go_wp2
  replace hE := Lib.hid ((hE.out.set2 0 (.int .i64 q1.1)).set2 1 (.int .i64 q2.1))
  generalize (W2.setCell ⟨y.heap.size, 0, none⟩ (.int .i64 q1.1)).setCell ⟨y.heap.size, 1, none⟩ (.int .i64 q2.1) = W3 at *
  clear c0 c1 d0 d1 z0 z1
  have d0 : W3.cell? ⟨y.heap.size, 0, none⟩ = some (.int .i64 q1.1) := hE.out.e2 (o := 0) rfl
  have d1 : W3.cell? ⟨y.heap.size, 1, none⟩ = some (.int .i64 q2.1) := hE.out.e2 (o := 1) rfl
  refine bodyPost_ret (bind_g_res rfl d0 d1) rfl ?_
  exact ⟨rfl, ⟨_, hE.out.r⟩, hE.out.cg⟩
theorem pr2_app' (A : List (Int × Int)) (x : Int × Int) : pr2 (A ++ [x]) = pr2 A ++ pr2 [x] := pr2_app _ _
theorem R32.i64 {n : Int} (h : R32 n) : In64 n := by obtain ⟨a, b⟩ := h; exact ⟨by omega, by omega⟩
theorem prL_64 {s : Rd8} (h : Bd8 s.1) : Qp (prL s).1 default := ⟨(numL_R h).i64, (numL_R (numL_eat.bd s h)).i64⟩
set_option maxHeartbeats 16000000 in
theorem growv_c {w y : World} {p : Nat} {v : Value} {s : Rd8} (h : RI w y p v s) (hs : s.1.length ≤ 100000) :
    Calls Tryz.prog 99 #[.pointer (some ⟨p, 0, none⟩), .func (.func 100) #[.pointer (some ⟨p, 0, none⟩)] #[]] y fun e y' => (∃ u A I, e = .returned u ∧ GrV y.heap.size y' I u A ∧ A = (rowL prL s).1) ∧ (∃ v', RI w y' p v' (rowL prL s).2) ∧ Cg (fun k => k = p) y y' := by
  obtain ⟨i0, hi0, hz0, hz1, hz2⟩ := info_parts infoVal
  have hmx : 400000 ≤ maxLen := by decide
  have P0 := length_c h
  have hbd := lenL_pos s
  have hle := lenL_eat.le s
  have hl31 := lenL_R h.bd
  have hr : rowL prL s = manyR prL (lenL s).1.toNat [] (lenL s).2 := rfl
  generalize rowL prL s = R at hr ⊢
  have hpy := h.lt
  generalize lenL s = r at P0 hbd hle hr hl31
  obtain ⟨x, s0⟩ := r
  replace hl31 : x < 2147483648 := hl31
  replace hbd : 0 ≤ x := hbd
  replace hle : s0.1.length ≤ s.1.length := hle
  obtain ⟨n, rfl⟩ : ∃ k : Nat, x = k := ⟨x.toNat, by omega⟩
  replace hr : R = manyR prL n [] s0 := hr
  have hF := Lib.hid (Few.start s0)
  obtain ⟨N, hN⟩ : ∃ N, s0.1.length = N := ⟨_, rfl⟩
  rw [hN] at hF hle
  have hN1 : N ≤ 100000 := by omega
  have P1 := Lib.hid P0
  replace hr := Lib.hid hr
  clear P0 h hbd hle hs hN
  go_enter Tryz.func99, Tryz.ntmps99
  go_wp2_with (first | (go_at_call 96; ((with_reducible refine P1.out.mono ?_); rintro e1 y1 ⟨rfl, ⟨v1, hR⟩, hc⟩)))
  clear P1
  have hG : Hid (GrV y.heap.size y1 (fun _ => False) (.slice none 0 0) []) := Lib.hid (GrX.nil rfl)
  replace hR := Lib.hid hR
  replace hc := Lib.hid hc
  go_loopw [5, 6] (fun i5 i6 wr => ∃ (j : Nat) (A : List (Int × Int)) (s' : Rd8) (v' : Value) (I : Nat → Prop), j ≤ n ∧ i6 = .int .i64 j ∧ Hid (Few N A.length s') ∧ Hid (R = manyR prL j (A) s') ∧ Hid (RI w wr p v' s') ∧ Hid (GrV y.heap.size wr I i5 A) ∧ Hid (Cg (fun k => k = p) y wr)) (fun _ i6 _ => (intOf i6).toNat)
  case atStart => exact ⟨n, [], s0, _, _, Nat.le_refl _, rfl, hF, hr, hR, hG, hc⟩
  case round =>
    clear hR hc hG hr hF
    obtain ⟨j, A, s', v', I, hjn, rfl, hF, hr, hR, hG, hc⟩ := hrel
    have c1 := hR.out.c1
    obtain ⟨M, b⟩ := s'
    simp only at c1
    cases j with
    | zero =>
      have d1 : decide ((0 : Int) < ((0 : Nat) : Int)) = false := by decide
      have hr' : Hid (R = (A, (M, b))) := Lib.hid hr.out
      clear hr
      go_wp2
      go_ret
      rw [hr'.out]
      exact ⟨⟨_, A, I, rfl, hG.out, rfl⟩, ⟨_, hR.out⟩, hc.out⟩
    | succ j =>
      have d1 : decide ((0 : Int) < ((j + 1 : Nat) : Int)) = true := by simp
      cases b with
      | true =>
        have hr' : Hid (R = (A, (M, true))) := Lib.hid hr.out
        clear hr
        go_wp2
        go_ret
        rw [hr'.out]
        exact ⟨⟨_, A, I, rfl, hG.out, rfl⟩, ⟨_, hR.out⟩, hc.out⟩
      | false =>
        have hr' : R = manyR prL j (A ++ [(prL (M, false)).1]) (prL (M, false)).2 := hr.out
        have hF2 := hF.out.next rfl (prL_eat.lt (M, false))
        have hn := hF.out.1
        have P1 := val_g hR.out
        have hq := prL_64 hR.out.bd
        generalize prL (M, false) = q at P1 hr' hF2 hq
        obtain ⟨⟨a, b⟩, s2⟩ := q
        simp only at P1 hr' hF2 hq
        replace P1 := Lib.hid P1
        replace hr' := Lib.hid hr'
        replace hF2 := Lib.hid hF2
        replace hq := Lib.hid hq
        have hlt := Lib.hid (fun k hk => (hG.out.own.lt k hk).2)
        have hyr := hc.out.size
        clear hr hF
        go_wp2_with (first | (go_at_call 100; ((with_reducible refine P1.out.mono ?_); rintro e1 y2 ⟨rfl, ⟨v2, hR2⟩, hc2⟩; replace hG := Lib.hid (hG.out.cg hc2 (fun k e => by omega)); replace hc := Lib.hid (hc.out.trans hc2); have hys := hc2.size; replace hR2 := Lib.hid hR2; clear P1 hc2; have hA2 := (Below.refl y2.heap.size y2).alloc (Nat.le_refl _) (.cells #[.int .i64 a, .int .i64 b] 68); have hOA := Lib.hid (row_bel hG.out.own hA2); replace hA2 := Lib.hid hA2)) | (at_builtin; refine wpList_append_lies _ rfl (.tmp 20) (.tmp 23) 53 rfl y.heap.size 68 i0 (.agg #[.int .i64 0, .int .i64 0]) 2 16 Tryz.underlying53 hi0 hz0 hz1 hz2 rfl (by decide) u5 A.length _ (by simp [Act.eval]) hOA.out ⟨y2.heap.size, 0, none⟩ 1 1 (pr2 [(a, b)]) (by simp [Act.eval]) rfl (World.news_of_block (alloc_at _ _ _ rfl)) (pr2_one _) (by omega) (by omega) (by omega) (by simp only [World.size_alloc]; omega) _ rfl ?_; intro g1 cap1 w7 hown1 hgrow1 hat1 hlt1))
        go_roundw
        case rel =>
          have hP := hG.out.push (x := (a, b)) (J := fun _ => False) (s := wr.heap.size) (Stay.const hq.out) (fun k e => e.elim) hlt.out (by omega) hA2.out hown1 hgrow1 (fun k hk => by
            have e1 : g1 = k := by simpa [Value.ownBlock] using hk
            rcases hat1 with e | e
            · exact Or.inl (by rw [← e1]; exact e)
            · exact Or.inr (by rw [← e1]; exact e)) (pr2_app' A (a, b))
          have hc3 : Cg (fun k => (u5 : Value).ownBlock = some k) y2 w7 := (Cg.below _ hA2.out).grown hgrow1 (fun k e => Or.inl e)
          have hbk := Lib.hid (fun k (e : (u5 : Value).ownBlock = some k) => (hG.out.own.lt k e).1)
          have hlo := hR2.out.lo
          have hb2 := hR2.out.bel.size
          refine ⟨j, A ++ [(a, b)], s2, _, _, by omega, by go_num, Lib.hid (by rw [List.length_append]; exact hF2.out), Lib.hid (hr'.out), Lib.hid (hR2.out.cg hc3 (fun k e => ?_)), Lib.hid hP, Lib.hid (hc.out.trans' hc3 (fun k e => Or.inr (hbk.out k e)))⟩
          have := hbk.out k e
          exact ⟨by omega, by omega⟩
        case measure => simp [intOf]
set_option maxHeartbeats 16000000 in
theorem growb_c {w y : World} {p : Nat} {v : Value} {s : Rd8} (h : RI w y p v s) (hs : s.1.length ≤ 100000) :
    Calls Tryz.prog 97 #[.pointer (some ⟨p, 0, none⟩), .func (.func 98) #[.pointer (some ⟨p, 0, none⟩)] #[]] y fun e y' => (∃ u A I, e = .returned u ∧ GrB y.heap.size y' I u A ∧ A = (rowL prL s).1) ∧ (∃ v', RI w y' p v' (rowL prL s).2) ∧ Cg (fun k => k = p) y y' := by
  obtain ⟨i0, hi0, hz0, hz1, hz2⟩ := info_parts infoBind
  have hmx : 400000 ≤ maxLen := by decide
  have P0 := length_c h
  have hbd := lenL_pos s
  have hle := lenL_eat.le s
  have hl31 := lenL_R h.bd
  have hr : rowL prL s = manyR prL (lenL s).1.toNat [] (lenL s).2 := rfl
  generalize rowL prL s = R at hr ⊢
  have hpy := h.lt
  generalize lenL s = r at P0 hbd hle hr hl31
  obtain ⟨x, s0⟩ := r
  replace hl31 : x < 2147483648 := hl31
  replace hbd : 0 ≤ x := hbd
  replace hle : s0.1.length ≤ s.1.length := hle
  obtain ⟨n, rfl⟩ : ∃ k : Nat, x = k := ⟨x.toNat, by omega⟩
  replace hr : R = manyR prL n [] s0 := hr
  have hF := Lib.hid (Few.start s0)
  obtain ⟨N, hN⟩ : ∃ N, s0.1.length = N := ⟨_, rfl⟩
  rw [hN] at hF hle
  have hN1 : N ≤ 100000 := by omega
  have P1 := Lib.hid P0
  replace hr := Lib.hid hr
  clear P0 h hbd hle hs hN
  go_enter Tryz.func97, Tryz.ntmps97
  go_wp2_with (first | (go_at_call 96; ((with_reducible refine P1.out.mono ?_); rintro e1 y1 ⟨rfl, ⟨v1, hR⟩, hc⟩)))
  clear P1
  have hG : Hid (GrB y.heap.size y1 (fun _ => False) (.slice none 0 0) []) := Lib.hid (GrX.nil rfl)
  replace hR := Lib.hid hR
  replace hc := Lib.hid hc
  go_loopw [5, 6] (fun i5 i6 wr => ∃ (j : Nat) (A : List (Int × Int)) (s' : Rd8) (v' : Value) (I : Nat → Prop), j ≤ n ∧ i6 = .int .i64 j ∧ Hid (Few N A.length s') ∧ Hid (R = manyR prL j (A) s') ∧ Hid (RI w wr p v' s') ∧ Hid (GrB y.heap.size wr I i5 A) ∧ Hid (Cg (fun k => k = p) y wr)) (fun _ i6 _ => (intOf i6).toNat)
  case atStart => exact ⟨n, [], s0, _, _, Nat.le_refl _, rfl, hF, hr, hR, hG, hc⟩
  case round =>
    clear hR hc hG hr hF
    obtain ⟨j, A, s', v', I, hjn, rfl, hF, hr, hR, hG, hc⟩ := hrel
    have c1 := hR.out.c1
    obtain ⟨M, b⟩ := s'
    simp only at c1
    cases j with
    | zero =>
      have d1 : decide ((0 : Int) < ((0 : Nat) : Int)) = false := by decide
      have hr' : Hid (R = (A, (M, b))) := Lib.hid hr.out
      clear hr
      go_wp2
      go_ret
      rw [hr'.out]
      exact ⟨⟨_, A, I, rfl, hG.out, rfl⟩, ⟨_, hR.out⟩, hc.out⟩
    | succ j =>
      have d1 : decide ((0 : Int) < ((j + 1 : Nat) : Int)) = true := by simp
      cases b with
      | true =>
        have hr' : Hid (R = (A, (M, true))) := Lib.hid hr.out
        clear hr
        go_wp2
        go_ret
        rw [hr'.out]
        exact ⟨⟨_, A, I, rfl, hG.out, rfl⟩, ⟨_, hR.out⟩, hc.out⟩
      | false =>
        have hr' : R = manyR prL j (A ++ [(prL (M, false)).1]) (prL (M, false)).2 := hr.out
        have hF2 := hF.out.next rfl (prL_eat.lt (M, false))
        have hn := hF.out.1
        have P1 := bind_g hR.out
        have hq := prL_64 hR.out.bd
        generalize prL (M, false) = q at P1 hr' hF2 hq
        obtain ⟨⟨a, b⟩, s2⟩ := q
        simp only at P1 hr' hF2 hq
        replace P1 := Lib.hid P1
        replace hr' := Lib.hid hr'
        replace hF2 := Lib.hid hF2
        replace hq := Lib.hid hq
        have hlt := Lib.hid (fun k hk => (hG.out.own.lt k hk).2)
        have hyr := hc.out.size
        clear hr hF
        go_wp2_with (first | (go_at_call 98; ((with_reducible refine P1.out.mono ?_); rintro e1 y2 ⟨rfl, ⟨v2, hR2⟩, hc2⟩; replace hG := Lib.hid (hG.out.cg hc2 (fun k e => by omega)); replace hc := Lib.hid (hc.out.trans hc2); have hys := hc2.size; replace hR2 := Lib.hid hR2; clear P1 hc2; have hA2 := (Below.refl y2.heap.size y2).alloc (Nat.le_refl _) (.cells #[.int .i64 a, .int .i64 b] 66); have hOA := Lib.hid (row_bel hG.out.own hA2); replace hA2 := Lib.hid hA2)) | (at_builtin; refine wpList_append_lies _ rfl (.tmp 20) (.tmp 23) 58 rfl y.heap.size 66 i0 (.agg #[.int .i64 0, .int .i64 0]) 2 16 Tryz.underlying58 hi0 hz0 hz1 hz2 rfl (by decide) u5 A.length _ (by simp [Act.eval]) hOA.out ⟨y2.heap.size, 0, none⟩ 1 1 (pr2 [(a, b)]) (by simp [Act.eval]) rfl (World.news_of_block (alloc_at _ _ _ rfl)) (pr2_one _) (by omega) (by omega) (by omega) (by simp only [World.size_alloc]; omega) _ rfl ?_; intro g1 cap1 w7 hown1 hgrow1 hat1 hlt1))
        go_roundw
        case rel =>
          have hP := hG.out.push (x := (a, b)) (J := fun _ => False) (s := wr.heap.size) (Stay.const hq.out) (fun k e => e.elim) hlt.out (by omega) hA2.out hown1 hgrow1 (fun k hk => by
            have e1 : g1 = k := by simpa [Value.ownBlock] using hk
            rcases hat1 with e | e
            · exact Or.inl (by rw [← e1]; exact e)
            · exact Or.inr (by rw [← e1]; exact e)) (pr2_app' A (a, b))
          have hc3 : Cg (fun k => (u5 : Value).ownBlock = some k) y2 w7 := (Cg.below _ hA2.out).grown hgrow1 (fun k e => Or.inl e)
          have hbk := Lib.hid (fun k (e : (u5 : Value).ownBlock = some k) => (hG.out.own.lt k e).1)
          have hlo := hR2.out.lo
          have hb2 := hR2.out.bel.size
          refine ⟨j, A ++ [(a, b)], s2, _, _, by omega, by go_num, Lib.hid (by rw [List.length_append]; exact hF2.out), Lib.hid (hr'.out), Lib.hid (hR2.out.cg hc3 (fun k e => ?_)), Lib.hid hP, Lib.hid (hc.out.trans' hc3 (fun k e => Or.inr (hbk.out k e)))⟩
          have := hbk.out k e
          exact ⟨by omega, by omega⟩
        case measure => simp [intOf]
end Wd
end Go.Proofs.YtgfnelhbdhbklaaGreat

/- Steps of a script over a region that draws its order, in few words. -/
namespace Go.Proofs.YtgfnelhbdhbklaaGreat
open Go.RowKit
namespace Wd
theorem nA : (∀ {α : Type} (l : List α) (i : Nat) (a : α), l.toArray.setIfInBounds i a = (l.set i a).toArray) ∧ (∀ {α : Type} (l : List α) (a b : α), (b :: l).set 0 a = a :: l) ∧ (∀ {α : Type} (l : List α) (i : Nat) (a b : α), (b :: l).set (i + 1) a = b :: l.set i a) :=
  ⟨fun _ _ _ => List.setIfInBounds_toArray .., fun _ _ _ => rfl, fun _ _ _ _ => rfl⟩
section
variable {P : Program} {ops : Array Oper} {Q : Exit → Act → World → Prop} {md : Region.Mode} {S : World → Prop}
theorem tk {i : Nat} {oi : Oper} {v : Value} {fuel : Nat} {listed : Array Bool} {a : Act} {w : World}
    (h : wpAnyH P md ops Q S fuel (listed.setIfInBounds i true) (a.put oi.dst v) w)
    (hi : ops[i]? = some oi := by rfl) (hs : Region.noSelect ops = true := by kernel_rfl) (hf : Region.free md ops listed i = true := by kernel_rfl) (hr : (Region.ready md ops listed).contains i = true := by kernel_rfl)
    (hw : Region.wanted oi (yielded ops a.tmps) = true := by rfl)
    (hy : ∀ w, S w → (execOp a.eval oi).run P w = .ok (.value v) w := by (intro w hSw; (try dsimp only at hSw); go_simp <;> with_reducible rfl))
    (hQ : ∀ c a w, Q (.panic c) (a.put oi.dst v) w → Q (.panic c) a w := by exact fun _ _ _ h => h) (hS : S w := by assumption) : wpAnyH P md ops Q S (fuel + 1) listed a w :=
  wpAnyH_take hi hs hf hr hQ (Or.inl ⟨hw, hy⟩) hS h
end
end Wd
end Go.Proofs.YtgfnelhbdhbklaaGreat

/- The landed image, read: a class, an object, a method. -/
namespace Go.Proofs.YtgfnelhbdhbklaaGreat
open Go.RowKit
set_option linter.unusedVariables false
set_option maxRecDepth 20000
namespace Wd
theorem Lies.imp {b b' : Nat} {J : Nat → Prop} {W : World} {P Q : World → Prop} (h : Lies b J W P) (hb : b' ≤ b) (hQ : ∀ w2, P w2 → Q w2) : Lies b' J W Q := ⟨h.1.imp hQ, fun k hk => ⟨Nat.le_trans hb (h.2 k hk).1, (h.2 k hk).2⟩⟩
theorem class_g_res {ts : Array Value} {w : World} {q : Nat} {v0 v1 v2 v3 : Value} (h8 : ts.getD 2 undef = .pointer (some ⟨q, 0, none⟩)) (r0 : w.cell? ⟨q, 0, none⟩ = some v0) (r1 : w.cell? ⟨q, 1, none⟩ = some v1) (r2 : w.cell? ⟨q, 2, none⟩ = some v2) (r3 : w.cell? ⟨q, 3, none⟩ = some v3) :
    (results Tryz.f72 ts).run Tryz.prog w = .ok (.agg #[v0, v1, v2, v3]) w := by
  have h8' : ts[2]?.getD undef = .pointer (some ⟨q, 0, none⟩) := by rw [← Array.getD_eq_getD_getElem?]; exact h8
  simp [results, Tryz.results72, go_sem, h8', r0, r1, r2, r3]
set_option maxHeartbeats 16000000 in
theorem class_g {w y : World} {p : Nat} {v : Value} {s : Rd8} (h : RI w y p v s) (hs : s.1.length ≤ 100000) :
    Calls Tryz.prog 72 #[.pointer (some ⟨p, 0, none⟩)] y fun e y' => (∃ bv J, e = .returned (.agg #[.string (clL s).1.nm, .int .i64 (clL s).1.super, .int .i64 (clL s).1.fields, bv]) ∧ Lies y.heap.size J y' (Qc ((clL s).1, bv)) ∧ ∃ a m c, bv = .slice a m c) ∧ (∃ v', RI w y' p v' (clL s).2) ∧ Cg (fun k => k = p) y y' := by
  have hl : clL s = (⟨(nmL s).1, (numL (nmL s).2).1, (numL (numL (nmL s).2).2).1, (rowL prL (numL (numL (nmL s).2).2).2).1⟩, (rowL prL (numL (numL (nmL s).2).2).2).2) := rfl
  rw [hl]
  clear hl
  have hl3 : (numL (numL (nmL s).2).2).2.1.length ≤ 100000 := Nat.le_trans (numL_eat.le _) (Nat.le_trans (numL_eat.le _) (Nat.le_trans (nmL_eat.le s) hs))
  have hE := Lib.hid (EL.born (T := 60) (C2 := #[.string ⟨#[]⟩, .int .i64 0, .int .i64 0, .slice none 0 0]) (C3 := #[.string ⟨#[]⟩, .int .i64 0, .int .i64 0, .slice none 0 0]) h)
  have P1 := Lib.hid (itext_c hE.out.r)
  generalize nmL s = q1 at P1 hl3 ⊢
  generalize hQ2 : numL q1.2 = q2 at hl3
  generalize hQ3 : numL q2.2 = q3 at hl3
  generalize hQ4 : rowL prL q3.2 = q4
  replace hQ2 := Lib.hid hQ2
  replace hQ3 := Lib.hid hQ3
  replace hQ4 := Lib.hid hQ4
  have hps := h.lt
  clear hs
  have hmf : ∀ (fn : Fn) (first cap : Array Value) (w : World), (Instr.makeFunc fn first cap).run Tryz.prog w = .ok (.func fn first cap) w := fun _ _ _ _ => rfl
  go_enter Tryz.func72, Tryz.ntmps72
  go_wp2_with fail
  with_reducible refine P1.out.mono ?_
  rintro e1 y1 ⟨rfl, ⟨v1, hR⟩, hc⟩
  replace hE := Lib.hid (hE.out.call hR hc)
  clear P1 hR hc
  have c0 := hE.out.e3 (o := 0) rfl
  have z0 := hE.out.z3 0
  go_upto_region 3 with fail
  replace hE := Lib.hid (hE.out.set3 0 (.string q1.1))
  generalize y1.setCell ⟨y.heap.size + 1, 0, none⟩ (.string q1.1) = W1 at *
  clear c0 z0
  have P1 := number_c hE.out.r
  have n1 := (numL_R hE.out.r.bd).i64
  rw [hQ2.out] at P1 n1
  replace P1 := Lib.hid P1
  go_wp2_with fail
  with_reducible refine P1.out.mono ?_
  rintro e1 y1 ⟨rfl, ⟨v2, hR⟩, hc⟩
  replace hE := Lib.hid (hE.out.call hR hc)
  clear P1 hR hc
  have c0 := hE.out.e3 (o := 1) rfl
  have z0 := hE.out.z3 1
  go_upto_region 4 with fail
  replace hE := Lib.hid (hE.out.set3 1 (.int .i64 q2.1))
  generalize y1.setCell ⟨y.heap.size + 1, 1, none⟩ (.int .i64 q2.1) = W2 at *
  clear c0 z0
  replace n1 := Lib.hid n1
  have n2 := n1
  clear n1
  have P1 := number_c hE.out.r
  have n1 := (numL_R hE.out.r.bd).i64
  rw [hQ3.out] at P1 n1
  replace P1 := Lib.hid P1
  go_wp2_with fail
  with_reducible refine P1.out.mono ?_
  rintro e1 y1 ⟨rfl, ⟨v3, hR⟩, hc⟩
  replace hE := Lib.hid (hE.out.call hR hc)
  clear P1 hR hc
  have c0 := hE.out.e3 (o := 2) rfl
  have z0 := hE.out.z3 2
  go_upto_region 5 with fail
  replace hE := Lib.hid (hE.out.set3 2 (.int .i64 q3.1))
  generalize y1.setCell ⟨y.heap.size + 1, 2, none⟩ (.int .i64 q3.1) = W3 at *
  clear c0 z0
  replace n1 := Lib.hid n1
  have hyE := hE.out.cg.size
  have hlE := hE.out.lt
  have P1 := growb_c hE.out.r (by omega)
  rw [hQ4.out] at P1
  replace P1 := Lib.hid P1
  go_wp2_with fail
  with_reducible refine P1.out.mono ?_
  rintro e1 y1 ⟨⟨bv, A, I, rfl, hG, hA⟩, ⟨v4, hR⟩, hc⟩
  have hL := lies_gr hG hG.prv
  rw [hA] at hL
  obtain ⟨ba, bm, bc, rfl⟩ : ∃ a m c, bv = .slice a m c := by
    rcases hG.own.2 with ⟨e, _⟩ | ⟨g, cap, cur, e, _⟩
    · exact ⟨_, _, _, e⟩
    · exact ⟨_, _, _, e⟩
  replace hL := Lib.hid hL
  replace hE := Lib.hid (hE.out.call hR hc)
  clear P1 hR hc hG hA
  have c0 := hE.out.e3 (o := 3) rfl
  have z0 := hE.out.z3 3
  go_upto_region 6 with fail
  replace hE := Lib.hid (hE.out.set3 3 (.slice ba bm bc))
  replace hL := Lib.hid (hL.out.set (E := y.heap.size + 1) (o := 3) (by omega) (.slice ba bm bc))
  generalize y1.setCell ⟨y.heap.size + 1, 3, none⟩ (.slice ba bm bc) = W4 at *
  clear c0 z0
  have c0 : W4.cell? ⟨y.heap.size + 1, 0, none⟩ = some (.string q1.1) := hE.out.e3 (o := 0) rfl
  have c1 : W4.cell? ⟨y.heap.size + 1, 1, none⟩ = some (.int .i64 q2.1) := hE.out.e3 (o := 1) rfl
  have c2 : W4.cell? ⟨y.heap.size + 1, 2, none⟩ = some (.int .i64 q3.1) := hE.out.e3 (o := 2) rfl
  have c3 : W4.cell? ⟨y.heap.size + 1, 3, none⟩ = some (.slice ba bm bc) := hE.out.e3 (o := 3) rfl
  have d0 := hE.out.e2 (o := 0) rfl
  have z0 := hE.out.z2 0
  have d1 := hE.out.e2 (o := 1) rfl
  have z1 := hE.out.z2 1
  have d2 := hE.out.e2 (o := 2) rfl
  have z2 := hE.out.z2 2
  have d3 := hE.out.e2 (o := 3) rfl
  have z3 := hE.out.z2 3
  go_wp2
  have hE9 := Lib.hid ((((hE.out.set2 0 (.string q1.1)).set2 1 (.int .i64 q2.1)).set2 2 (.int .i64 q3.1)).set2 3 (.slice ba bm bc))
  have hL9 := Lib.hid ((((hL.out.set (E := y.heap.size) (o := 0) (by omega) (.string q1.1)).set (E := y.heap.size) (o := 1) (by omega) (.int .i64 q2.1)).set (E := y.heap.size) (o := 2) (by omega) (.int .i64 q3.1)).set (E := y.heap.size) (o := 3) (by omega) (.slice ba bm bc))
  generalize (((W4.setCell ⟨y.heap.size, 0, none⟩ (.string q1.1)).setCell ⟨y.heap.size, 1, none⟩ (.int .i64 q2.1)).setCell ⟨y.heap.size, 2, none⟩ (.int .i64 q3.1)).setCell ⟨y.heap.size, 3, none⟩ (.slice ba bm bc) = W9 at *
  clear hE hL c0 d0 z0 c1 d1 z1 c2 d2 z2 c3 d3 z3
  have d0 : W9.cell? ⟨y.heap.size, 0, none⟩ = some (.string q1.1) := hE9.out.e2 (o := 0) rfl
  have d1 : W9.cell? ⟨y.heap.size, 1, none⟩ = some (.int .i64 q2.1) := hE9.out.e2 (o := 1) rfl
  have d2 : W9.cell? ⟨y.heap.size, 2, none⟩ = some (.int .i64 q3.1) := hE9.out.e2 (o := 2) rfl
  have d3 : W9.cell? ⟨y.heap.size, 3, none⟩ = some (.slice ba bm bc) := hE9.out.e2 (o := 3) rfl
  refine bodyPost_ret (class_g_res rfl d0 d1 d2 d3) rfl ?_
  exact ⟨⟨_, _, rfl, hL9.out.imp (by omega) (fun w2 hp => ⟨n2.out, n1.out, hp⟩), ⟨_, _, _, rfl⟩⟩, ⟨_, hE9.out.r⟩, hE9.out.cg⟩
theorem obj_g_res {ts : Array Value} {w : World} {q : Nat} {v0 v1 : Value} (h8 : ts.getD 2 undef = .pointer (some ⟨q, 0, none⟩)) (r0 : w.cell? ⟨q, 0, none⟩ = some v0) (r1 : w.cell? ⟨q, 1, none⟩ = some v1) :
    (results Tryz.f76 ts).run Tryz.prog w = .ok (.agg #[v0, v1]) w := by
  have h8' : ts[2]?.getD undef = .pointer (some ⟨q, 0, none⟩) := by rw [← Array.getD_eq_getD_getElem?]; exact h8
  simp [results, Tryz.results76, go_sem, h8', r0, r1]
set_option maxHeartbeats 16000000 in
theorem obj_g {w y : World} {p : Nat} {v : Value} {s : Rd8} (h : RI w y p v s) (hs : s.1.length ≤ 100000) :
    Calls Tryz.prog 76 #[.pointer (some ⟨p, 0, none⟩)] y fun e y' => (∃ bv J, e = .returned (.agg #[.int .i64 (obL s).1.cls, bv]) ∧ Lies y.heap.size J y' (Qo ((obL s).1, bv)) ∧ ∃ a m c, bv = .slice a m c) ∧ (∃ v', RI w y' p v' (obL s).2) ∧ Cg (fun k => k = p) y y' := by
  have hl : obL s = (⟨(numL s).1, (rowL prL (numL s).2).1⟩, (rowL prL (numL s).2).2) := rfl
  rw [hl]
  clear hl
  have hl3 : (numL s).2.1.length ≤ 100000 := Nat.le_trans (numL_eat.le s) hs
  have hE := Lib.hid (EL.born (T := 55) (C2 := #[.int .i64 0, .slice none 0 0]) (C3 := #[.int .i64 0, .slice none 0 0]) h)
  have P1 := Lib.hid (number_c hE.out.r)
  have n1 := Lib.hid (numL_R h.bd).i64
  generalize numL s = q1 at P1 hl3 n1 ⊢
  generalize hQ4 : rowL prL q1.2 = q4
  replace hQ4 := Lib.hid hQ4
  have hps := h.lt
  clear hs
  have hmf : ∀ (fn : Fn) (first cap : Array Value) (w : World), (Instr.makeFunc fn first cap).run Tryz.prog w = .ok (.func fn first cap) w := fun _ _ _ _ => rfl
  go_enter Tryz.func76, Tryz.ntmps76
  go_wp2_with fail
  with_reducible refine P1.out.mono ?_
  rintro e1 y1 ⟨rfl, ⟨v1, hR⟩, hc⟩
  replace hE := Lib.hid (hE.out.call hR hc)
  clear P1 hR hc
  have c0 := hE.out.e3 (o := 0) rfl
  have z0 := hE.out.z3 0
  go_upto_region 3 with fail
  replace hE := Lib.hid (hE.out.set3 0 (.int .i64 q1.1))
  generalize y1.setCell ⟨y.heap.size + 1, 0, none⟩ (.int .i64 q1.1) = W1 at *
  clear c0 z0
  have hyE := hE.out.cg.size
  have hlE := hE.out.lt
  have P1 := growv_c hE.out.r (by omega)
  rw [hQ4.out] at P1
  replace P1 := Lib.hid P1
  go_wp2_with fail
  with_reducible refine P1.out.mono ?_
  rintro e1 y1 ⟨⟨bv, A, I, rfl, hG, hA⟩, ⟨v4, hR⟩, hc⟩
  have hL := lies_gr hG hG.prv
  rw [hA] at hL
  obtain ⟨ba, bm, bc, rfl⟩ : ∃ a m c, bv = .slice a m c := by
    rcases hG.own.2 with ⟨e, _⟩ | ⟨g, cap, cur, e, _⟩
    · exact ⟨_, _, _, e⟩
    · exact ⟨_, _, _, e⟩
  replace hL := Lib.hid hL
  replace hE := Lib.hid (hE.out.call hR hc)
  clear P1 hR hc hG hA
  have c0 := hE.out.e3 (o := 1) rfl
  have z0 := hE.out.z3 1
  go_upto_region 4 with fail
  replace hE := Lib.hid (hE.out.set3 1 (.slice ba bm bc))
  replace hL := Lib.hid (hL.out.set (E := y.heap.size + 1) (o := 1) (by omega) (.slice ba bm bc))
  generalize y1.setCell ⟨y.heap.size + 1, 1, none⟩ (.slice ba bm bc) = W4 at *
  clear c0 z0
  have c0 : W4.cell? ⟨y.heap.size + 1, 0, none⟩ = some (.int .i64 q1.1) := hE.out.e3 (o := 0) rfl
  have c1 : W4.cell? ⟨y.heap.size + 1, 1, none⟩ = some (.slice ba bm bc) := hE.out.e3 (o := 1) rfl
  have d0 := hE.out.e2 (o := 0) rfl
  have z0 := hE.out.z2 0
  have d1 := hE.out.e2 (o := 1) rfl
  have z1 := hE.out.z2 1
  go_wp2
  have hE9 := Lib.hid ((hE.out.set2 0 (.int .i64 q1.1)).set2 1 (.slice ba bm bc))
  have hL9 := Lib.hid ((hL.out.set (E := y.heap.size) (o := 0) (by omega) (.int .i64 q1.1)).set (E := y.heap.size) (o := 1) (by omega) (.slice ba bm bc))
  generalize (W4.setCell ⟨y.heap.size, 0, none⟩ (.int .i64 q1.1)).setCell ⟨y.heap.size, 1, none⟩ (.slice ba bm bc) = W9 at *
  clear hE hL c0 d0 z0 c1 d1 z1
  have d0 : W9.cell? ⟨y.heap.size, 0, none⟩ = some (.int .i64 q1.1) := hE9.out.e2 (o := 0) rfl
  have d1 : W9.cell? ⟨y.heap.size, 1, none⟩ = some (.slice ba bm bc) := hE9.out.e2 (o := 1) rfl
  refine bodyPost_ret (obj_g_res rfl d0 d1) rfl ?_
  exact ⟨⟨_, _, rfl, hL9.out.imp (by omega) (fun w2 hp => ⟨n1.out, hp⟩), ⟨_, _, _, rfl⟩⟩, ⟨_, hE9.out.r⟩, hE9.out.cg⟩
theorem step_app_any2 {P : Program} {w : World} {ops : Array Oper} {o : Oper} {a : Act} {K : Act → World → Prop} {Q : Exit → Act → World → Prop} {E : Prop} (hgd : o.guard = none) (s x : Operand) (t : TypeId)
    (ho : o.op = .call { callee := .builtin .append, args := #[s, x], argTypes := #[t, t] })
    (base : Nat) (e : TypeId) (i : TypeInfo) (z : Value) (size bytes : Nat) (ht : P.underlying t = some (.slice e)) (hi : P.info? e = some i) (hz : i.zero = some z)
    (hsize : i.size = size) (hby : i.bytes = bytes) (hzs : z.cells.size = size) (hsz : 0 < size)
    (v u : Value) (n m : Nat) (xs news : List Value) (hs : a.eval s = v) (hx : a.eval x = u) (hown : w.ownsRow base e size v n xs) (hu : Rd w u m news) (hl : news.length = m * size) (h1 : ∀ u ∈ news, u.oneCell' = true)
    (h63 : n + m ≤ maxLen) (hbytes : (n + m) * bytes ≤ 140737488355328) (hbase : base ≤ w.heap.size)
    (h : ∀ v' w', w'.ownsRow base e size v' (n + m) (xs ++ news) → w.grownBy w' v.ownBlock → (v'.ownBlock = v.ownBlock ∨ v'.ownBlock = some w.heap.size) → K (a.put o.dst v') w') :
    if Region.wanted o (yielded ops a.tmps) = true then Oper.wp P o a w K Q else E := by
  have hw : Region.wanted o (yielded ops a.tmps) = true := by simp [Region.wanted, hgd]
  rw [if_pos hw]
  obtain ⟨v', w', hr, h2, h3, h5⟩ := run_app_any (P := P) w base t o.type e i z size bytes ht hi hz hsize hby hzs hsz v u n m xs news hown hu hl h1 h63 hbytes hbase
  unfold Oper.wp execOp
  simp only [ho, resolve, invoke, builtin, Sem.run_bind, Sem.run_pure, Result.andThen_ok, List.map_toArray, List.map_cons, List.map_nil, hs, hx, hr]
  exact h v' w' h2 h3 h5
theorem mtL_eq (s : Rd8) : mtL s = (⟨(numL s).1, (numL (numL s).2).1, (rowL prL (numL (numL s).2).2).1, (cutR (lenL (rowL prL (numL (numL s).2).2).2).1 (lenL (rowL prL (numL (numL s).2).2).2).2).1⟩, (cutR (lenL (rowL prL (numL (numL s).2).2).2).1 (lenL (rowL prL (numL (numL s).2).2).2).2).2) := rfl
theorem cutR_len (n : Int) (s : Rd8) : (cutR n s).1.length ≤ s.1.length := by
  unfold cutR
  split
  · simp
  · simp only [List.length_take]; omega
theorem method_g_res {ts : Array Value} {w : World} {q : Nat} {v0 v1 v2 v3 : Value} (h8 : ts.getD 2 undef = .pointer (some ⟨q, 0, none⟩)) (r0 : w.cell? ⟨q, 0, none⟩ = some v0) (r1 : w.cell? ⟨q, 1, none⟩ = some v1) (r2 : w.cell? ⟨q, 2, none⟩ = some v2) (r3 : w.cell? ⟨q, 3, none⟩ = some v3) :
    (results Tryz.f74 ts).run Tryz.prog w = .ok (.agg #[v0, v1, v2, v3]) w := by
  have h8' : ts[2]?.getD undef = .pointer (some ⟨q, 0, none⟩) := by rw [← Array.getD_eq_getD_getElem?]; exact h8
  simp [results, Tryz.results74, go_sem, h8', r0, r1, r2, r3]
set_option maxHeartbeats 16000000 in
theorem method_g {w y : World} {p : Nat} {v : Value} {s : Rd8} (h : RI w y p v s) (hs : s.1.length ≤ 100000) :
    Calls Tryz.prog 74 #[.pointer (some ⟨p, 0, none⟩)] y fun e y' => (∃ lv cv J, e = .returned (.agg #[.int .i64 (mtL s).1.args, .int .i64 (mtL s).1.temps, lv, cv]) ∧ Lies y.heap.size J y' (Qm ((mtL s).1, lv, cv)) ∧ (∃ a m c, lv = .slice a m c) ∧ ∃ a m c, cv = .slice a m c) ∧ (∃ v', RI w y' p v' (mtL s).2) ∧ Cg (fun k => k = p) y y' := by
  obtain ⟨i0, hi0, hz0, hz1, hz2⟩ := info_parts infoB8
  have hmx : 400000 ≤ maxLen := by decide
  rw [mtL_eq]
  have hl2 : (numL (numL s).2).2.1.length ≤ 100000 := Nat.le_trans (numL_eat.le _) (Nat.le_trans (numL_eat.le s) hs)
  have hb5 := rowP_eat.bd _ (numL_eat.bd _ (numL_eat.bd s h.bd))
  have hl6 := Nat.le_trans (cutR_len (lenL (rowL prL (numL (numL s).2).2).2).1 (lenL (rowL prL (numL (numL s).2).2).2).2) (Nat.le_trans (lenL_eat.le _) (Nat.le_trans (rowP_eat.le _) hl2))
  have hb6 := Lib.hid ((cutR_all (lenL (rowL prL (numL (numL s).2).2).2).1 (lenL_pos _) (lenL (rowL prL (numL (numL s).2).2).2).2).2.2.1 (lenL_eat.bd _ hb5)).2
  have h50 := lenL_pos (rowL prL (numL (numL s).2).2).2
  have h51 := lenL_R hb5
  have hE := Lib.hid (EL.born (T := 63) (C2 := #[.int .i64 0, .int .i64 0, .slice none 0 0, .slice none 0 0]) (C3 := #[.int .i64 0, .int .i64 0, .slice none 0 0, .slice none 0 0]) h)
  have P1 := Lib.hid (number_c hE.out.r)
  have n2 := Lib.hid (numL_R h.bd).i64
  clear hb5
  generalize numL s = q1 at P1 hl2 hl6 hb6 h50 h51 n2 ⊢
  generalize hQ2 : numL q1.2 = q2 at hl2 hl6 hb6 h50 h51
  generalize hQ4 : rowL prL q2.2 = q4 at hl6 hb6 h50 h51
  generalize hQ5 : lenL q4.2 = q5 at hl6 hb6 h50 h51
  generalize hQ6 : cutR q5.1 q5.2 = q6 at hl6 hb6
  replace hQ2 := Lib.hid hQ2
  replace hQ4 := Lib.hid hQ4
  replace hQ5 := Lib.hid hQ5
  replace hQ6 := Lib.hid hQ6
  have hps := h.lt
  clear hs
  have hmf : ∀ (fn : Fn) (first cap : Array Value) (w : World), (Instr.makeFunc fn first cap).run Tryz.prog w = .ok (.func fn first cap) w := fun _ _ _ _ => rfl
  go_enter Tryz.func74, Tryz.ntmps74
  go_wp2_with fail
  with_reducible refine P1.out.mono ?_
  rintro e1 y1 ⟨rfl, ⟨v1, hR⟩, hc⟩
  replace hE := Lib.hid (hE.out.call hR hc)
  clear P1 hR hc
  have c0 := hE.out.e3 (o := 0) rfl
  have z0 := hE.out.z3 0
  go_upto_region 3 with fail
  replace hE := Lib.hid (hE.out.set3 0 (.int .i64 q1.1))
  generalize y1.setCell ⟨y.heap.size + 1, 0, none⟩ (.int .i64 q1.1) = W1 at *
  clear c0 z0
  have P1 := number_c hE.out.r
  have n1 := (numL_R hE.out.r.bd).i64
  rw [hQ2.out] at P1 n1
  replace P1 := Lib.hid P1
  go_wp2_with fail
  with_reducible refine P1.out.mono ?_
  rintro e1 y1 ⟨rfl, ⟨v2, hR⟩, hc⟩
  replace hE := Lib.hid (hE.out.call hR hc)
  clear P1 hR hc
  have c0 := hE.out.e3 (o := 1) rfl
  have z0 := hE.out.z3 1
  go_upto_region 4 with fail
  replace hE := Lib.hid (hE.out.set3 1 (.int .i64 q2.1))
  generalize y1.setCell ⟨y.heap.size + 1, 1, none⟩ (.int .i64 q2.1) = W2 at *
  clear c0 z0
  replace n1 := Lib.hid n1
  have hyE := hE.out.cg.size
  have hlE := hE.out.lt
  have P1 := growv_c hE.out.r (by omega)
  rw [hQ4.out] at P1
  replace P1 := Lib.hid P1
  go_wp2_with fail
  with_reducible refine P1.out.mono ?_
  rintro e1 y1 ⟨⟨bv, A, I, rfl, hG, hA⟩, ⟨v4, hR⟩, hc⟩
  have hL := lies_gr hG hG.prv
  rw [hA] at hL
  obtain ⟨ba, bm, bc, rfl⟩ : ∃ a m c, bv = .slice a m c := by
    rcases hG.own.2 with ⟨e, _⟩ | ⟨g, cap, cur, e, _⟩
    · exact ⟨_, _, _, e⟩
    · exact ⟨_, _, _, e⟩
  replace hL := Lib.hid hL
  replace hE := Lib.hid (hE.out.call hR hc)
  clear P1 hR hc hG hA
  have c0 := hE.out.e3 (o := 2) rfl
  have z0 := hE.out.z3 2
  go_upto_region 5 with fail
  replace hE := Lib.hid (hE.out.set3 2 (.slice ba bm bc))
  replace hL := Lib.hid (hL.out.set (E := y.heap.size + 1) (o := 2) (by omega) (.slice ba bm bc))
  generalize y1.setCell ⟨y.heap.size + 1, 2, none⟩ (.slice ba bm bc) = W4 at *
  clear c0 z0
  replace hE := Lib.hid (hE.out.call (hE.out.r.up (Below.refl _ _).drew) ((Cg.refl (fun k => k = p) W4).drew))
  replace hL := Lib.hid (hL.out.cg ((Cg.refl (fun k => k = p) W4).drew) (fun k e => by omega))
  refine wp_region_last (d := 8) (fuel := 8) (S := (fun W => W.cell? ⟨y.heap.size + 1, 3, none⟩ = some (.slice none 0 0))) (by kernel_rfl) (by kernel_rfl) rfl ?_ (fun hHeld => ?_)
  · (try dsimp only); exact hE.out.e3 (o := 3) rfl
  try simp only [Act.put, nA]
  generalize W4.drew = y0 at *
  have P1 := length_c hE.out.r
  rw [hQ5.out] at P1
  replace P1 := Lib.hid P1
  refine tk (i := 0) (oi := ⟨some 15, .fieldAddr 63 (.tmp 3) 3, 0, "get.go:87", #[], none⟩) ?_
  try simp only [Act.put, nA]
  refine tk (i := 1) (oi := ⟨some 16, .load 36 (.tmp 15), 36, "get.go:87", #[⟨0, .data⟩], none⟩) ?_
  try simp only [Act.put, nA]
  refine tk (i := 2) (oi := ⟨some 17, .move (.tmp 0), 83, "get.go:87", #[], none⟩) ?_
  try simp only [Act.put, nA]
  refine tk (i := 3) (oi := ⟨some 18, .move (.tmp 0), 83, "get.go:87", #[], none⟩) ?_
  try simp only [Act.put, nA]
  refine wpAnyH_ready (rs := [4]) (by kernel_rfl) (by simp) ?_
  refine AllReadyH.cons (o := ⟨some 19, .call { callee := .value (.func 96), args := #[.tmp 18], argTypes := #[83] }, 3, "get.go:87", #[⟨3, .data⟩], none⟩) rfl (fun K9 hK => ?_) AllReadyH.nil
  go_simp
  with_reducible refine P1.out.mono ?_
  rintro e y1 ⟨rfl, ⟨v5, hR⟩, hc⟩
  replace hL := Lib.hid (hL.out.cg hc (fun k e => by omega))
  replace hE := Lib.hid (hE.out.call hR hc)
  clear P1 hR hc
  have P1 := take_i hE.out.r q5.1 h50 (by omega)
  rw [hQ6.out] at P1
  replace P1 := Lib.hid P1
  go_wp2_with fail
  refine hK.out _ _ ?_ ?_
  · (try dsimp only); exact hE.out.e3 (o := 3) rfl
  clear hK K9 hHeld; intro hHeld
  try simp only [Act.put, nA]
  refine wpAnyH_ready (rs := [5]) (by kernel_rfl) (by simp) ?_
  refine AllReadyH.cons (o := ⟨some 20, .call { callee := .value (.func 68), args := #[.tmp 17, .tmp 19], argTypes := #[83, 3] }, 36, "get.go:87", #[⟨2, .data⟩, ⟨4, .data⟩, ⟨4, .chain⟩], none⟩) rfl (fun K9 hK => ?_) AllReadyH.nil
  go_simp
  with_reducible refine P1.out.mono ?_
  rintro e y2 ⟨⟨t, rfl, hft, ht⟩, ⟨v6, hR⟩, hc⟩
  replace hL := Lib.hid (hL.out.cg hc (fun k e => by omega))
  replace hE := Lib.hid (hE.out.call hR hc)
  clear P1 hR hc hft
  have hyE := hE.out.cg.size
  have hlE := hE.out.lt
  have hT := (ht.up hE.out.r.bel).rd
  have hown : y2.ownsRow y2.heap.size 5 1 (.slice none 0 0) 0 (bys []) := ⟨rfl, Or.inl ⟨rfl, rfl⟩⟩
  replace hT := Lib.hid hT
  replace ht := Lib.hid ht
  go_wp2_with fail
  refine hK.out _ _ ?_ ?_
  · (try dsimp only); exact hE.out.e3 (o := 3) rfl
  clear hK K9 hHeld; intro hHeld
  try simp only [Act.put, nA]
  refine wpAnyH_ready (rs := [6]) (by kernel_rfl) (by simp) ?_
  refine AllReadyH.cons (o := ⟨some 21, .call { callee := .builtin .append, args := #[.tmp 16, .tmp 20], argTypes := #[36, 36] }, 36, "get.go:87", #[⟨1, .data⟩, ⟨5, .data⟩, ⟨5, .chain⟩], none⟩) rfl (fun K9 hK => ?_) AllReadyH.nil
  refine step_app_any2 rfl (.tmp 16) (.tmp 20) 36 rfl y2.heap.size 5 i0 (.int .u8 0) 1 1 Tryz.underlying36 hi0 hz0 hz1 hz2 rfl (by decide) (.slice none 0 0) t 0 q6.1.length (bys []) (bys q6.1) rfl rfl hown hT.out (by rw [bys_ln, Nat.mul_one]) (bys_one _) (by omega) (by omega) (Nat.le_refl _) ?_
  intro v7 y3 hown3 hgrow3 hat3
  have hcv := ByV.own (T := q6.1) (by simpa [bys] using hown3) hb6.out
  have hL2 := Lib.hid (show Lies y2.heap.size (fun k => v7.ownBlock = some k) y3 (fun w2 => ByV w2 v7 q6.1) from ⟨stay_byv hcv, hown3.lt⟩)
  obtain ⟨ca, cm, cc, rfl⟩ : ∃ a m c, v7 = .slice a m c := by
    rcases hown3.2 with ⟨e, _⟩ | ⟨g, cap, cur, e, _⟩
    · exact ⟨_, _, _, e⟩
    · exact ⟨_, _, _, e⟩
  have c3 : Cg (fun _ => False) y2 y3 := (Cg.refl (fun _ => False) y2).grown hgrow3 (fun k e => by cases e)
  replace hL := Lib.hid (hL.out.cg c3 (fun k e => e.elim))
  replace hE := Lib.hid (hE.out.call (hE.out.r.cg c3 (fun k e => e.elim)) (c3.mono (fun k e => e.elim)))
  clear hown hown3 hgrow3 hat3 hcv hT c3
  refine hK.out _ _ ?_ ?_
  · (try dsimp only); exact hE.out.e3 (o := 3) rfl
  clear hK K9 hHeld; intro hHeld
  try simp only [Act.put, nA]
  refine tk (i := 7) (oi := ⟨some 22, .fieldAddr 63 (.tmp 3) 3, 0, "get.go:87", #[⟨0, .phase⟩, ⟨1, .phase⟩, ⟨2, .phase⟩, ⟨3, .phase⟩, ⟨4, .phase⟩, ⟨5, .phase⟩, ⟨6, .phase⟩], none⟩) ?_
  try simp only [Act.put, nA]
  have c0 := hE.out.e3 (o := 3) rfl
  have z0 := hE.out.z3 3
  refine last_step (o := ⟨none, .store 36 (.tmp 22) (.tmp 21), 0, "get.go:87", #[⟨7, .data⟩, ⟨6, .data⟩, ⟨6, .chain⟩, ⟨0, .phase⟩, ⟨1, .phase⟩, ⟨2, .phase⟩, ⟨3, .phase⟩, ⟨4, .phase⟩, ⟨5, .phase⟩, ⟨6, .phase⟩], none⟩) rfl (by kernel_rfl) (fun K hK => ?_)
  go_simp
  refine hK.out _ _ ?_
  clear hK K
  try simp only [Act.put, nA]
  replace hE := Lib.hid (hE.out.set3 3 (.slice ca cm cc))
  replace hL := Lib.hid (hL.out.set (E := y.heap.size + 1) (o := 3) (by omega) (.slice ca cm cc))
  replace hL2 := Lib.hid (hL2.out.set (E := y.heap.size + 1) (o := 3) (by omega) (.slice ca cm cc))
  generalize y3.setCell ⟨y.heap.size + 1, 3, none⟩ (.slice ca cm cc) = W5 at *
  clear c0 z0
  replace hL := Lib.hid (show Lies (y.heap.size + 2) (fun k => _ ∨ (Value.slice ca cm cc).ownBlock = some k) W5 (fun w2 => PrV w2 (.slice ba bm bc) q4.1 ∧ ByV w2 (.slice ca cm cc) q6.1) from ⟨(hL.out.1.more (fun k e => Or.inl e)).and (hL2.out.1.more (fun k e => Or.inr e)), fun k hk => by
    rcases hk with hk | hk
    · have := hL.out.2 k hk; omega
    · have := hL2.out.2 k hk; omega⟩)
  clear hL2
  have c0 : W5.cell? ⟨y.heap.size + 1, 0, none⟩ = some (.int .i64 q1.1) := hE.out.e3 (o := 0) rfl
  have c1 : W5.cell? ⟨y.heap.size + 1, 1, none⟩ = some (.int .i64 q2.1) := hE.out.e3 (o := 1) rfl
  have c2 : W5.cell? ⟨y.heap.size + 1, 2, none⟩ = some (.slice ba bm bc) := hE.out.e3 (o := 2) rfl
  have c3 : W5.cell? ⟨y.heap.size + 1, 3, none⟩ = some (.slice ca cm cc) := hE.out.e3 (o := 3) rfl
  have d0 := hE.out.e2 (o := 0) rfl
  have z0 := hE.out.z2 0
  have d1 := hE.out.e2 (o := 1) rfl
  have z1 := hE.out.z2 1
  have d2 := hE.out.e2 (o := 2) rfl
  have z2 := hE.out.z2 2
  have d3 := hE.out.e2 (o := 3) rfl
  have z3 := hE.out.z2 3
  go_wp2
  have hE9 := Lib.hid ((((hE.out.set2 0 (.int .i64 q1.1)).set2 1 (.int .i64 q2.1)).set2 2 (.slice ba bm bc)).set2 3 (.slice ca cm cc))
  have hL9 := Lib.hid ((((hL.out.set (E := y.heap.size) (o := 0) (by omega) (.int .i64 q1.1)).set (E := y.heap.size) (o := 1) (by omega) (.int .i64 q2.1)).set (E := y.heap.size) (o := 2) (by omega) (.slice ba bm bc)).set (E := y.heap.size) (o := 3) (by omega) (.slice ca cm cc))
  generalize (((W5.setCell ⟨y.heap.size, 0, none⟩ (.int .i64 q1.1)).setCell ⟨y.heap.size, 1, none⟩ (.int .i64 q2.1)).setCell ⟨y.heap.size, 2, none⟩ (.slice ba bm bc)).setCell ⟨y.heap.size, 3, none⟩ (.slice ca cm cc) = W9 at *
  clear hE hL c0 d0 z0 c1 d1 z1 c2 d2 z2 c3 d3 z3
  have d0 : W9.cell? ⟨y.heap.size, 0, none⟩ = some (.int .i64 q1.1) := hE9.out.e2 (o := 0) rfl
  have d1 : W9.cell? ⟨y.heap.size, 1, none⟩ = some (.int .i64 q2.1) := hE9.out.e2 (o := 1) rfl
  have d2 : W9.cell? ⟨y.heap.size, 2, none⟩ = some (.slice ba bm bc) := hE9.out.e2 (o := 2) rfl
  have d3 : W9.cell? ⟨y.heap.size, 3, none⟩ = some (.slice ca cm cc) := hE9.out.e2 (o := 3) rfl
  refine bodyPost_ret (method_g_res rfl d0 d1 d2 d3) rfl ?_
  exact ⟨⟨_, _, _, rfl, hL9.out.imp (by omega) (fun w2 hp => ⟨n2.out, n1.out, hp⟩), ⟨_, _, _, rfl⟩, ⟨_, _, _, rfl⟩⟩, ⟨_, hE9.out.r⟩, hE9.out.cg⟩
end Wd
end Go.Proofs.YtgfnelhbdhbklaaGreat

/- The landed image, read: rows of names, classes, objects, methods. -/
namespace Go.Proofs.YtgfnelhbdhbklaaGreat
open Go.RowKit
set_option linter.unusedVariables false
set_option maxRecDepth 20000
namespace Wd
theorem infoStr16 : (Tryz.prog.info? 9).map (fun i => (i.zero, i.size, i.bytes)) = some (some (.string ByteArray.empty), 1, 16) := by kernel_rfl
theorem strs_app' (A : List ByteArray) (x : ByteArray) : strs (A ++ [x]) = strs A ++ strs [x] := strs_app _ _
theorem cl4s_app' (A : List (ClassA × Value)) (x : ClassA × Value) : cl4s (A ++ [x]) = cl4s A ++ cl4s [x] := cl4s_app _ _
theorem mt4s_app' (A : List (MethA × Value × Value)) (x : MethA × Value × Value) : mt4s (A ++ [x]) = mt4s A ++ mt4s [x] := mt4s_app _ _
theorem ob2s_app' (A : List (ObjA × Value)) (x : ObjA × Value) : ob2s (A ++ [x]) = ob2s A ++ ob2s [x] := ob2s_app _ _
theorem text_g {w y : World} {p : Nat} {v : Value} {s : Rd8} (h : RI w y p v s) :
    Calls Tryz.prog 70 #[.pointer (some ⟨p, 0, none⟩)] y fun e y' => e = .returned (.string (nmL s).1) ∧ (∃ v', RI w y' p v' (nmL s).2) ∧ Cg (fun k => k = p) y y' := itext_c h
set_option maxHeartbeats 16000000 in
theorem grows_c {w y : World} {p : Nat} {v : Value} {s : Rd8} (h : RI w y p v s) (hs : s.1.length ≤ 100000) :
    Calls Tryz.prog 69 #[.pointer (some ⟨p, 0, none⟩), .func (.func 70) #[.pointer (some ⟨p, 0, none⟩)] #[]] y fun e y' => (∃ u A I, e = .returned u ∧ GrN y.heap.size y' I u A ∧ A = (rowL nmL s).1) ∧ (∃ v', RI w y' p v' (rowL nmL s).2) ∧ Cg (fun k => k = p) y y' := by
  obtain ⟨i0, hi0, hz0, hz1, hz2⟩ := info_parts infoStr16
  have hmx : 400000 ≤ maxLen := by decide
  have P0 := length_c h
  have hbd := lenL_pos s
  have hle := lenL_eat.le s
  have hl31 := lenL_R h.bd
  have hr : rowL nmL s = manyR nmL (lenL s).1.toNat [] (lenL s).2 := rfl
  generalize rowL nmL s = R at hr ⊢
  have hpy := h.lt
  generalize lenL s = r at P0 hbd hle hr hl31
  obtain ⟨x, s0⟩ := r
  replace hl31 : x < 2147483648 := hl31
  replace hbd : 0 ≤ x := hbd
  replace hle : s0.1.length ≤ s.1.length := hle
  obtain ⟨n, rfl⟩ : ∃ k : Nat, x = k := ⟨x.toNat, by omega⟩
  replace hr : R = manyR nmL n [] s0 := hr
  have hF := Lib.hid (Few.start s0)
  obtain ⟨N, hN⟩ : ∃ N, s0.1.length = N := ⟨_, rfl⟩
  rw [hN] at hF hle
  have hN1 : N ≤ 100000 := by omega
  have P1 := Lib.hid P0
  replace hr := Lib.hid hr
  clear P0 h hbd hle hs hN
  go_enter Tryz.func69, Tryz.ntmps69
  go_wp2_with (first | (go_at_call 96; ((with_reducible refine P1.out.mono ?_); rintro e1 y1 ⟨rfl, ⟨v1, hR⟩, hc⟩)))
  clear P1
  have hG : Hid (GrN y.heap.size y1 (fun _ => False) (.slice none 0 0) []) := Lib.hid (GrX.nil rfl)
  replace hR := Lib.hid hR
  replace hc := Lib.hid hc
  go_loopw [5, 6] (fun i5 i6 wr => ∃ (j : Nat) (A : List ByteArray) (s' : Rd8) (v' : Value) (I : Nat → Prop), j ≤ n ∧ i6 = .int .i64 j ∧ Hid (Few N A.length s') ∧ Hid (R = manyR nmL j (A) s') ∧ Hid (RI w wr p v' s') ∧ Hid (GrN y.heap.size wr I i5 A) ∧ Hid (Cg (fun k => k = p) y wr)) (fun _ i6 _ => (intOf i6).toNat)
  case atStart => exact ⟨n, [], s0, _, _, Nat.le_refl _, rfl, hF, hr, hR, hG, hc⟩
  case round =>
    clear hR hc hG hr hF
    obtain ⟨j, A, s', v', I, hjn, rfl, hF, hr, hR, hG, hc⟩ := hrel
    have c1 := hR.out.c1
    obtain ⟨M, b⟩ := s'
    simp only at c1
    cases j with
    | zero =>
      have d1 : decide ((0 : Int) < ((0 : Nat) : Int)) = false := by decide
      have hr' : Hid (R = (A, (M, b))) := Lib.hid hr.out
      clear hr
      go_wp2
      go_ret
      rw [hr'.out]
      exact ⟨⟨_, A, I, rfl, hG.out, rfl⟩, ⟨_, hR.out⟩, hc.out⟩
    | succ j =>
      have d1 : decide ((0 : Int) < ((j + 1 : Nat) : Int)) = true := by simp
      cases b with
      | true =>
        have hr' : Hid (R = (A, (M, true))) := Lib.hid hr.out
        clear hr
        go_wp2
        go_ret
        rw [hr'.out]
        exact ⟨⟨_, A, I, rfl, hG.out, rfl⟩, ⟨_, hR.out⟩, hc.out⟩
      | false =>
        have hr' : R = manyR nmL j (A ++ [(nmL (M, false)).1]) (nmL (M, false)).2 := hr.out
        have hF2 := hF.out.next rfl (nmL_eat.lt (M, false))
        have hn := hF.out.1
        have P1 := text_g hR.out

        generalize nmL (M, false) = q at P1 hr' hF2 
        obtain ⟨c, s2⟩ := q
        simp only at P1 hr' hF2 
        replace P1 := Lib.hid P1
        replace hr' := Lib.hid hr'
        replace hF2 := Lib.hid hF2

        have hlt := Lib.hid (fun k hk => (hG.out.own.lt k hk).2)
        have hyr := hc.out.size
        clear hr hF
        go_wp2_with (first | (go_at_call 70; ((with_reducible refine P1.out.mono ?_); rintro e1 y2 ⟨rfl, ⟨v2, hR2⟩, hc2⟩; replace hG := Lib.hid (hG.out.cg hc2 (fun k e => by omega)); replace hc := Lib.hid (hc.out.trans hc2); have hys := hc2.size; replace hR2 := Lib.hid hR2; clear P1 hc2; have hA2 := (Below.refl y2.heap.size y2).alloc (Nat.le_refl _) (.cells #[.string c] 9); have hOA := Lib.hid (row_bel hG.out.own hA2); replace hA2 := Lib.hid hA2)) | (at_builtin; refine wpList_append_lies _ rfl (.tmp 20) (.tmp 23) 22 rfl y.heap.size 9 i0 (.string ByteArray.empty) 1 16 Tryz.underlying22 hi0 hz0 hz1 hz2 rfl (by decide) u5 A.length _ (by simp [Act.eval]) hOA.out ⟨y2.heap.size, 0, none⟩ 1 1 (strs [c]) (by simp [Act.eval]) rfl (World.news_of_block (alloc_at _ _ _ rfl)) (strs_one _) (by omega) (by omega) (by omega) (by simp only [World.size_alloc]; omega) _ rfl ?_; intro g1 cap1 w7 hown1 hgrow1 hat1 hlt1))
        go_roundw
        case rel =>
          have hP := hG.out.push (x := c) (J := fun _ => False) (s := wr.heap.size) (Stay.const trivial) (fun k e => e.elim) hlt.out (by omega) hA2.out hown1 hgrow1 (fun k hk => by
            have e1 : g1 = k := by simpa [Value.ownBlock] using hk
            rcases hat1 with e | e
            · exact Or.inl (by rw [← e1]; exact e)
            · exact Or.inr (by rw [← e1]; exact e)) (strs_app' A c)
          have hc3 : Cg (fun k => (u5 : Value).ownBlock = some k) y2 w7 := (Cg.below _ hA2.out).grown hgrow1 (fun k e => Or.inl e)
          have hbk := Lib.hid (fun k (e : (u5 : Value).ownBlock = some k) => (hG.out.own.lt k e).1)
          have hlo := hR2.out.lo
          have hb2 := hR2.out.bel.size
          refine ⟨j, A ++ [c], s2, _, _, by omega, by go_num, Lib.hid (by rw [List.length_append]; exact hF2.out), Lib.hid (hr'.out), Lib.hid (hR2.out.cg hc3 (fun k e => ?_)), Lib.hid hP, Lib.hid (hc.out.trans' hc3 (fun k e => Or.inr (hbk.out k e)))⟩
          have := hbk.out k e
          exact ⟨by omega, by omega⟩
        case measure => simp [intOf]
set_option maxHeartbeats 16000000 in
theorem growc_c {w y : World} {p : Nat} {v : Value} {s : Rd8} (h : RI w y p v s) (hs : s.1.length ≤ 100000) :
    Calls Tryz.prog 71 #[.pointer (some ⟨p, 0, none⟩), .func (.func 72) #[.pointer (some ⟨p, 0, none⟩)] #[]] y fun e y' => (∃ u A I, e = .returned u ∧ GrC y.heap.size y' I u A ∧ (A.map (·.1)) = (rowL clL s).1) ∧ (∃ v', RI w y' p v' (rowL clL s).2) ∧ Cg (fun k => k = p) y y' := by
  obtain ⟨i0, hi0, hz0, hz1, hz2⟩ := info_parts infoCls
  have hmx : 400000 ≤ maxLen := by decide
  have P0 := length_c h
  have hbd := lenL_pos s
  have hle := lenL_eat.le s
  have hl31 := lenL_R h.bd
  have hr : rowL clL s = manyR clL (lenL s).1.toNat [] (lenL s).2 := rfl
  generalize rowL clL s = R at hr ⊢
  have hpy := h.lt
  generalize lenL s = r at P0 hbd hle hr hl31
  obtain ⟨x, s0⟩ := r
  replace hl31 : x < 2147483648 := hl31
  replace hbd : 0 ≤ x := hbd
  replace hle : s0.1.length ≤ s.1.length := hle
  obtain ⟨n, rfl⟩ : ∃ k : Nat, x = k := ⟨x.toNat, by omega⟩
  replace hr : R = manyR clL n [] s0 := hr
  have hF := Lib.hid (Few.start s0)
  obtain ⟨N, hN⟩ : ∃ N, s0.1.length = N := ⟨_, rfl⟩
  rw [hN] at hF hle
  have hN1 : N ≤ 100000 := by omega
  have P1 := Lib.hid P0
  replace hr := Lib.hid hr
  clear P0 h hbd hle hs hN
  go_enter Tryz.func71, Tryz.ntmps71
  go_wp2_with (first | (go_at_call 96; ((with_reducible refine P1.out.mono ?_); rintro e1 y1 ⟨rfl, ⟨v1, hR⟩, hc⟩)))
  clear P1
  have hG : Hid (GrC y.heap.size y1 (fun _ => False) (.slice none 0 0) []) := Lib.hid (GrX.nil rfl)
  replace hR := Lib.hid hR
  replace hc := Lib.hid hc
  go_loopw [5, 6] (fun i5 i6 wr => ∃ (j : Nat) (A : List (ClassA × Value)) (s' : Rd8) (v' : Value) (I : Nat → Prop), j ≤ n ∧ i6 = .int .i64 j ∧ Hid (Few N A.length s') ∧ Hid (R = manyR clL j ((A.map (·.1))) s') ∧ Hid (RI w wr p v' s') ∧ Hid (GrC y.heap.size wr I i5 A) ∧ Hid (Cg (fun k => k = p) y wr)) (fun _ i6 _ => (intOf i6).toNat)
  case atStart => exact ⟨n, [], s0, _, _, Nat.le_refl _, rfl, hF, hr, hR, hG, hc⟩
  case round =>
    clear hR hc hG hr hF
    obtain ⟨j, A, s', v', I, hjn, rfl, hF, hr, hR, hG, hc⟩ := hrel
    have c1 := hR.out.c1
    obtain ⟨M, b⟩ := s'
    simp only at c1
    cases j with
    | zero =>
      have d1 : decide ((0 : Int) < ((0 : Nat) : Int)) = false := by decide
      have hr' : Hid (R = ((A.map (·.1)), (M, b))) := Lib.hid hr.out
      clear hr
      go_wp2
      go_ret
      rw [hr'.out]
      exact ⟨⟨_, A, I, rfl, hG.out, rfl⟩, ⟨_, hR.out⟩, hc.out⟩
    | succ j =>
      have d1 : decide ((0 : Int) < ((j + 1 : Nat) : Int)) = true := by simp
      cases b with
      | true =>
        have hr' : Hid (R = ((A.map (·.1)), (M, true))) := Lib.hid hr.out
        clear hr
        go_wp2
        go_ret
        rw [hr'.out]
        exact ⟨⟨_, A, I, rfl, hG.out, rfl⟩, ⟨_, hR.out⟩, hc.out⟩
      | false =>
        have hr' : R = manyR clL j ((A.map (·.1)) ++ [(clL (M, false)).1]) (clL (M, false)).2 := hr.out
        have hF2 := hF.out.next rfl (clL_eat.lt (M, false))
        have hn := hF.out.1
        have P1 := class_g hR.out (by have := hF.out.2 rfl; simp only at this; show M.length ≤ 100000; omega)

        generalize clL (M, false) = q at P1 hr' hF2 
        obtain ⟨c, s2⟩ := q
        simp only at P1 hr' hF2 
        replace P1 := Lib.hid P1
        replace hr' := Lib.hid hr'
        replace hF2 := Lib.hid hF2

        have hlt := Lib.hid (fun k hk => (hG.out.own.lt k hk).2)
        have hyr := hc.out.size
        clear hr hF
        go_wp2_with (first | (go_at_call 72; ((with_reducible refine P1.out.mono ?_); rintro e1 y2 ⟨⟨bv, J, rfl, hX, ⟨ba, bm, bc, rfl⟩⟩, ⟨v2, hR2⟩, hc2⟩; replace hX := Lib.hid hX; replace hG := Lib.hid (hG.out.cg hc2 (fun k e => by omega)); replace hc := Lib.hid (hc.out.trans hc2); have hys := hc2.size; replace hR2 := Lib.hid hR2; clear P1 hc2; have hA2 := (Below.refl y2.heap.size y2).alloc (Nat.le_refl _) (.cells #[.string c.nm, .int .i64 c.super, .int .i64 c.fields, .slice ba bm bc] 60); have hOA := Lib.hid (row_bel hG.out.own hA2); replace hA2 := Lib.hid hA2)) | (at_builtin; refine wpList_append_lies _ rfl (.tmp 20) (.tmp 23) 23 rfl y.heap.size 60 i0 (.agg #[.string ByteArray.empty, .int .i64 0, .int .i64 0, .slice none 0 0]) 4 56 Tryz.underlying23 hi0 hz0 hz1 hz2 rfl (by decide) u5 A.length _ (by simp [Act.eval]) hOA.out ⟨y2.heap.size, 0, none⟩ 1 1 (cl4s [(c, .slice ba bm bc)]) (by simp [Act.eval]) rfl (World.news_of_block (alloc_at _ _ _ rfl)) (cl4s_one _ (fun x hx => by obtain rfl := List.mem_singleton.1 hx; exact ⟨_, _, _, rfl⟩)) (by omega) (by omega) (by omega) (by simp only [World.size_alloc]; omega) _ rfl ?_; intro g1 cap1 w7 hown1 hgrow1 hat1 hlt1))
        go_roundw
        case rel =>
          have hP := hG.out.push (x := (c, .slice ba bm bc)) hX.out.1 hX.out.2 hlt.out (by omega) hA2.out hown1 hgrow1 (fun k hk => by
            have e1 : g1 = k := by simpa [Value.ownBlock] using hk
            rcases hat1 with e | e
            · exact Or.inl (by rw [← e1]; exact e)
            · exact Or.inr (by rw [← e1]; exact e)) (cl4s_app' A (c, .slice ba bm bc))
          have hc3 : Cg (fun k => (u5 : Value).ownBlock = some k) y2 w7 := (Cg.below _ hA2.out).grown hgrow1 (fun k e => Or.inl e)
          have hbk := Lib.hid (fun k (e : (u5 : Value).ownBlock = some k) => (hG.out.own.lt k e).1)
          have hlo := hR2.out.lo
          have hb2 := hR2.out.bel.size
          refine ⟨j, A ++ [(c, .slice ba bm bc)], s2, _, _, by omega, by go_num, Lib.hid (by rw [List.length_append]; exact hF2.out), Lib.hid (by rw [List.map_append]; exact hr'.out), Lib.hid (hR2.out.cg hc3 (fun k e => ?_)), Lib.hid hP, Lib.hid (hc.out.trans' hc3 (fun k e => Or.inr (hbk.out k e)))⟩
          have := hbk.out k e
          exact ⟨by omega, by omega⟩
        case measure => simp [intOf]
set_option maxHeartbeats 16000000 in
theorem growo_c {w y : World} {p : Nat} {v : Value} {s : Rd8} (h : RI w y p v s) (hs : s.1.length ≤ 100000) :
    Calls Tryz.prog 75 #[.pointer (some ⟨p, 0, none⟩), .func (.func 76) #[.pointer (some ⟨p, 0, none⟩)] #[]] y fun e y' => (∃ u A I, e = .returned u ∧ GrO y.heap.size y' I u A ∧ (A.map (·.1)) = (rowL obL s).1) ∧ (∃ v', RI w y' p v' (rowL obL s).2) ∧ Cg (fun k => k = p) y y' := by
  obtain ⟨i0, hi0, hz0, hz1, hz2⟩ := info_parts infoObj
  have hmx : 400000 ≤ maxLen := by decide
  have P0 := length_c h
  have hbd := lenL_pos s
  have hle := lenL_eat.le s
  have hl31 := lenL_R h.bd
  have hr : rowL obL s = manyR obL (lenL s).1.toNat [] (lenL s).2 := rfl
  generalize rowL obL s = R at hr ⊢
  have hpy := h.lt
  generalize lenL s = r at P0 hbd hle hr hl31
  obtain ⟨x, s0⟩ := r
  replace hl31 : x < 2147483648 := hl31
  replace hbd : 0 ≤ x := hbd
  replace hle : s0.1.length ≤ s.1.length := hle
  obtain ⟨n, rfl⟩ : ∃ k : Nat, x = k := ⟨x.toNat, by omega⟩
  replace hr : R = manyR obL n [] s0 := hr
  have hF := Lib.hid (Few.start s0)
  obtain ⟨N, hN⟩ : ∃ N, s0.1.length = N := ⟨_, rfl⟩
  rw [hN] at hF hle
  have hN1 : N ≤ 100000 := by omega
  have P1 := Lib.hid P0
  replace hr := Lib.hid hr
  clear P0 h hbd hle hs hN
  go_enter Tryz.func75, Tryz.ntmps75
  go_wp2_with (first | (go_at_call 96; ((with_reducible refine P1.out.mono ?_); rintro e1 y1 ⟨rfl, ⟨v1, hR⟩, hc⟩)))
  clear P1
  have hG : Hid (GrO y.heap.size y1 (fun _ => False) (.slice none 0 0) []) := Lib.hid (GrX.nil rfl)
  replace hR := Lib.hid hR
  replace hc := Lib.hid hc
  go_loopw [5, 6] (fun i5 i6 wr => ∃ (j : Nat) (A : List (ObjA × Value)) (s' : Rd8) (v' : Value) (I : Nat → Prop), j ≤ n ∧ i6 = .int .i64 j ∧ Hid (Few N A.length s') ∧ Hid (R = manyR obL j ((A.map (·.1))) s') ∧ Hid (RI w wr p v' s') ∧ Hid (GrO y.heap.size wr I i5 A) ∧ Hid (Cg (fun k => k = p) y wr)) (fun _ i6 _ => (intOf i6).toNat)
  case atStart => exact ⟨n, [], s0, _, _, Nat.le_refl _, rfl, hF, hr, hR, hG, hc⟩
  case round =>
    clear hR hc hG hr hF
    obtain ⟨j, A, s', v', I, hjn, rfl, hF, hr, hR, hG, hc⟩ := hrel
    have c1 := hR.out.c1
    obtain ⟨M, b⟩ := s'
    simp only at c1
    cases j with
    | zero =>
      have d1 : decide ((0 : Int) < ((0 : Nat) : Int)) = false := by decide
      have hr' : Hid (R = ((A.map (·.1)), (M, b))) := Lib.hid hr.out
      clear hr
      go_wp2
      go_ret
      rw [hr'.out]
      exact ⟨⟨_, A, I, rfl, hG.out, rfl⟩, ⟨_, hR.out⟩, hc.out⟩
    | succ j =>
      have d1 : decide ((0 : Int) < ((j + 1 : Nat) : Int)) = true := by simp
      cases b with
      | true =>
        have hr' : Hid (R = ((A.map (·.1)), (M, true))) := Lib.hid hr.out
        clear hr
        go_wp2
        go_ret
        rw [hr'.out]
        exact ⟨⟨_, A, I, rfl, hG.out, rfl⟩, ⟨_, hR.out⟩, hc.out⟩
      | false =>
        have hr' : R = manyR obL j ((A.map (·.1)) ++ [(obL (M, false)).1]) (obL (M, false)).2 := hr.out
        have hF2 := hF.out.next rfl (obL_eat.lt (M, false))
        have hn := hF.out.1
        have P1 := obj_g hR.out (by have := hF.out.2 rfl; simp only at this; show M.length ≤ 100000; omega)

        generalize obL (M, false) = q at P1 hr' hF2 
        obtain ⟨c, s2⟩ := q
        simp only at P1 hr' hF2 
        replace P1 := Lib.hid P1
        replace hr' := Lib.hid hr'
        replace hF2 := Lib.hid hF2

        have hlt := Lib.hid (fun k hk => (hG.out.own.lt k hk).2)
        have hyr := hc.out.size
        clear hr hF
        go_wp2_with (first | (go_at_call 76; ((with_reducible refine P1.out.mono ?_); rintro e1 y2 ⟨⟨bv, J, rfl, hX, ⟨ba, bm, bc, rfl⟩⟩, ⟨v2, hR2⟩, hc2⟩; replace hX := Lib.hid hX; replace hG := Lib.hid (hG.out.cg hc2 (fun k e => by omega)); replace hc := Lib.hid (hc.out.trans hc2); have hys := hc2.size; replace hR2 := Lib.hid hR2; clear P1 hc2; have hA2 := (Below.refl y2.heap.size y2).alloc (Nat.le_refl _) (.cells #[.int .i64 c.cls, .slice ba bm bc] 55); have hOA := Lib.hid (row_bel hG.out.own hA2); replace hA2 := Lib.hid hA2)) | (at_builtin; refine wpList_append_lies _ rfl (.tmp 20) (.tmp 23) 25 rfl y.heap.size 55 i0 (.agg #[.int .i64 0, .slice none 0 0]) 2 32 Tryz.underlying25 hi0 hz0 hz1 hz2 rfl (by decide) u5 A.length _ (by simp [Act.eval]) hOA.out ⟨y2.heap.size, 0, none⟩ 1 1 (ob2s [(c, .slice ba bm bc)]) (by simp [Act.eval]) rfl (World.news_of_block (alloc_at _ _ _ rfl)) (ob2s_one _ (fun x hx => by obtain rfl := List.mem_singleton.1 hx; exact ⟨_, _, _, rfl⟩)) (by omega) (by omega) (by omega) (by simp only [World.size_alloc]; omega) _ rfl ?_; intro g1 cap1 w7 hown1 hgrow1 hat1 hlt1))
        go_roundw
        case rel =>
          have hP := hG.out.push (x := (c, .slice ba bm bc)) hX.out.1 hX.out.2 hlt.out (by omega) hA2.out hown1 hgrow1 (fun k hk => by
            have e1 : g1 = k := by simpa [Value.ownBlock] using hk
            rcases hat1 with e | e
            · exact Or.inl (by rw [← e1]; exact e)
            · exact Or.inr (by rw [← e1]; exact e)) (ob2s_app' A (c, .slice ba bm bc))
          have hc3 : Cg (fun k => (u5 : Value).ownBlock = some k) y2 w7 := (Cg.below _ hA2.out).grown hgrow1 (fun k e => Or.inl e)
          have hbk := Lib.hid (fun k (e : (u5 : Value).ownBlock = some k) => (hG.out.own.lt k e).1)
          have hlo := hR2.out.lo
          have hb2 := hR2.out.bel.size
          refine ⟨j, A ++ [(c, .slice ba bm bc)], s2, _, _, by omega, by go_num, Lib.hid (by rw [List.length_append]; exact hF2.out), Lib.hid (by rw [List.map_append]; exact hr'.out), Lib.hid (hR2.out.cg hc3 (fun k e => ?_)), Lib.hid hP, Lib.hid (hc.out.trans' hc3 (fun k e => Or.inr (hbk.out k e)))⟩
          have := hbk.out k e
          exact ⟨by omega, by omega⟩
        case measure => simp [intOf]
set_option maxHeartbeats 16000000 in
theorem growm_c {w y : World} {p : Nat} {v : Value} {s : Rd8} (h : RI w y p v s) (hs : s.1.length ≤ 100000) :
    Calls Tryz.prog 73 #[.pointer (some ⟨p, 0, none⟩), .func (.func 74) #[.pointer (some ⟨p, 0, none⟩)] #[]] y fun e y' => (∃ u A I, e = .returned u ∧ GrM y.heap.size y' I u A ∧ (A.map (·.1)) = (rowL mtL s).1) ∧ (∃ v', RI w y' p v' (rowL mtL s).2) ∧ Cg (fun k => k = p) y y' := by
  obtain ⟨i0, hi0, hz0, hz1, hz2⟩ := info_parts infoMeth
  have hmx : 400000 ≤ maxLen := by decide
  have P0 := length_c h
  have hbd := lenL_pos s
  have hle := lenL_eat.le s
  have hl31 := lenL_R h.bd
  have hr : rowL mtL s = manyR mtL (lenL s).1.toNat [] (lenL s).2 := rfl
  generalize rowL mtL s = R at hr ⊢
  have hpy := h.lt
  generalize lenL s = r at P0 hbd hle hr hl31
  obtain ⟨x, s0⟩ := r
  replace hl31 : x < 2147483648 := hl31
  replace hbd : 0 ≤ x := hbd
  replace hle : s0.1.length ≤ s.1.length := hle
  obtain ⟨n, rfl⟩ : ∃ k : Nat, x = k := ⟨x.toNat, by omega⟩
  replace hr : R = manyR mtL n [] s0 := hr
  have hF := Lib.hid (Few.start s0)
  obtain ⟨N, hN⟩ : ∃ N, s0.1.length = N := ⟨_, rfl⟩
  rw [hN] at hF hle
  have hN1 : N ≤ 100000 := by omega
  have P1 := Lib.hid P0
  replace hr := Lib.hid hr
  clear P0 h hbd hle hs hN
  go_enter Tryz.func73, Tryz.ntmps73
  go_wp2_with (first | (go_at_call 96; ((with_reducible refine P1.out.mono ?_); rintro e1 y1 ⟨rfl, ⟨v1, hR⟩, hc⟩)))
  clear P1
  have hG : Hid (GrM y.heap.size y1 (fun _ => False) (.slice none 0 0) []) := Lib.hid (GrX.nil rfl)
  replace hR := Lib.hid hR
  replace hc := Lib.hid hc
  go_loopw [5, 6] (fun i5 i6 wr => ∃ (j : Nat) (A : List (MethA × Value × Value)) (s' : Rd8) (v' : Value) (I : Nat → Prop), j ≤ n ∧ i6 = .int .i64 j ∧ Hid (Few N A.length s') ∧ Hid (R = manyR mtL j ((A.map (·.1))) s') ∧ Hid (RI w wr p v' s') ∧ Hid (GrM y.heap.size wr I i5 A) ∧ Hid (Cg (fun k => k = p) y wr)) (fun _ i6 _ => (intOf i6).toNat)
  case atStart => exact ⟨n, [], s0, _, _, Nat.le_refl _, rfl, hF, hr, hR, hG, hc⟩
  case round =>
    clear hR hc hG hr hF
    obtain ⟨j, A, s', v', I, hjn, rfl, hF, hr, hR, hG, hc⟩ := hrel
    have c1 := hR.out.c1
    obtain ⟨M, b⟩ := s'
    simp only at c1
    cases j with
    | zero =>
      have d1 : decide ((0 : Int) < ((0 : Nat) : Int)) = false := by decide
      have hr' : Hid (R = ((A.map (·.1)), (M, b))) := Lib.hid hr.out
      clear hr
      go_wp2
      go_ret
      rw [hr'.out]
      exact ⟨⟨_, A, I, rfl, hG.out, rfl⟩, ⟨_, hR.out⟩, hc.out⟩
    | succ j =>
      have d1 : decide ((0 : Int) < ((j + 1 : Nat) : Int)) = true := by simp
      cases b with
      | true =>
        have hr' : Hid (R = ((A.map (·.1)), (M, true))) := Lib.hid hr.out
        clear hr
        go_wp2
        go_ret
        rw [hr'.out]
        exact ⟨⟨_, A, I, rfl, hG.out, rfl⟩, ⟨_, hR.out⟩, hc.out⟩
      | false =>
        have hr' : R = manyR mtL j ((A.map (·.1)) ++ [(mtL (M, false)).1]) (mtL (M, false)).2 := hr.out
        have hF2 := hF.out.next rfl (mtL_eat.lt (M, false))
        have hn := hF.out.1
        have P1 := method_g hR.out (by have := hF.out.2 rfl; simp only at this; show M.length ≤ 100000; omega)

        generalize mtL (M, false) = q at P1 hr' hF2 
        obtain ⟨c, s2⟩ := q
        simp only at P1 hr' hF2 
        replace P1 := Lib.hid P1
        replace hr' := Lib.hid hr'
        replace hF2 := Lib.hid hF2

        have hlt := Lib.hid (fun k hk => (hG.out.own.lt k hk).2)
        have hyr := hc.out.size
        clear hr hF
        go_wp2_with (first | (go_at_call 74; ((with_reducible refine P1.out.mono ?_); rintro e1 y2 ⟨⟨lv, cv, J, rfl, hX, ⟨la, lm, lc, rfl⟩, ⟨ca, cm, cc, rfl⟩⟩, ⟨v2, hR2⟩, hc2⟩; replace hX := Lib.hid hX; replace hG := Lib.hid (hG.out.cg hc2 (fun k e => by omega)); replace hc := Lib.hid (hc.out.trans hc2); have hys := hc2.size; replace hR2 := Lib.hid hR2; clear P1 hc2; have hA2 := (Below.refl y2.heap.size y2).alloc (Nat.le_refl _) (.cells #[.int .i64 c.args, .int .i64 c.temps, .slice la lm lc, .slice ca cm cc] 63); have hOA := Lib.hid (row_bel hG.out.own hA2); replace hA2 := Lib.hid hA2)) | (at_builtin; refine wpList_append_lies _ rfl (.tmp 20) (.tmp 23) 24 rfl y.heap.size 63 i0 (.agg #[.int .i64 0, .int .i64 0, .slice none 0 0, .slice none 0 0]) 4 64 Tryz.underlying24 hi0 hz0 hz1 hz2 rfl (by decide) u5 A.length _ (by simp [Act.eval]) hOA.out ⟨y2.heap.size, 0, none⟩ 1 1 (mt4s [(c, .slice la lm lc, .slice ca cm cc)]) (by simp [Act.eval]) rfl (World.news_of_block (alloc_at _ _ _ rfl)) (mt4s_one _ (fun x hx => by obtain rfl := List.mem_singleton.1 hx; exact ⟨⟨_, _, _, rfl⟩, _, _, _, rfl⟩)) (by omega) (by omega) (by omega) (by simp only [World.size_alloc]; omega) _ rfl ?_; intro g1 cap1 w7 hown1 hgrow1 hat1 hlt1))
        go_roundw
        case rel =>
          have hP := hG.out.push (x := (c, .slice la lm lc, .slice ca cm cc)) hX.out.1 hX.out.2 hlt.out (by omega) hA2.out hown1 hgrow1 (fun k hk => by
            have e1 : g1 = k := by simpa [Value.ownBlock] using hk
            rcases hat1 with e | e
            · exact Or.inl (by rw [← e1]; exact e)
            · exact Or.inr (by rw [← e1]; exact e)) (mt4s_app' A (c, .slice la lm lc, .slice ca cm cc))
          have hc3 : Cg (fun k => (u5 : Value).ownBlock = some k) y2 w7 := (Cg.below _ hA2.out).grown hgrow1 (fun k e => Or.inl e)
          have hbk := Lib.hid (fun k (e : (u5 : Value).ownBlock = some k) => (hG.out.own.lt k e).1)
          have hlo := hR2.out.lo
          have hb2 := hR2.out.bel.size
          refine ⟨j, A ++ [(c, .slice la lm lc, .slice ca cm cc)], s2, _, _, by omega, by go_num, Lib.hid (by rw [List.length_append]; exact hF2.out), Lib.hid (by rw [List.map_append]; exact hr'.out), Lib.hid (hR2.out.cg hc3 (fun k e => ?_)), Lib.hid hP, Lib.hid (hc.out.trans' hc3 (fun k e => Or.inr (hbk.out k e)))⟩
          have := hbk.out k e
          exact ⟨by omega, by omega⟩
        case measure => simp [intOf]
end Wd
end Go.Proofs.YtgfnelhbdhbklaaGreat

/- Turning a program: the fields of an object that are all written. -/
namespace Go.Proofs.YtgfnelhbdhbklaaGreat
open Go.RowKit
set_option linter.unusedVariables false
set_option maxRecDepth 20000
namespace Wd
/-- the object k has the fields B, which lie in block g3; all else is as it came -/
structure OL (w0 wr : World) (b : Nat) (N : List ByteArray) (T : List (ClassA × Value)) (M : List (MethA × Value × Value)) (O : List (ObjA × Value)) (nv cv mv ov : Value) (main : Int) (k : Nat) (c : Int) (B : List (Int × Int)) (g3 n3 c3 : Nat) : Prop where
  bx : OB w0 wr nv cv mv ov main
  on : wr.ownsRow (w0.heap.size + 2) 9 1 nv N.length (strs N)
  oc : wr.ownsRow (w0.heap.size + 2) 60 4 cv T.length (cl4s T)
  om : wr.ownsRow (w0.heap.size + 2) 63 4 mv M.length (mt4s M)
  oo : wr.ownsRow (w0.heap.size + 2) 55 2 ov O.length (ob2s (O.set k (⟨c, B⟩, .slice (some ⟨g3, 0, none⟩) n3 c3)))
  o3 : wr.ownsRow (w0.heap.size + 2) 68 2 (.slice (some ⟨g3, 0, none⟩) n3 c3) n3 (pr2 B)
  bl : B.length = n3
  b64 : ∀ x ∈ B, In64 x.1 ∧ In64 x.2
  nb : n3 ≤ b
  c64 : In64 c
  ic : ∀ x ∈ T, In64 x.1.super ∧ In64 x.1.fields ∧ x.1.binds.length ≤ b ∧ StP w0.heap.size (fun _ => False) wr x.2 x.1.binds
  im : ∀ x ∈ M, In64 x.1.args ∧ In64 x.1.temps ∧ x.1.lits.length ≤ b ∧ x.1.code.length ≤ b ∧ StP w0.heap.size (fun _ => False) wr x.2.1 x.1.lits ∧ StB w0.heap.size (fun _ => False) wr x.2.2 x.1.code
  io : ∀ x ∈ O, In64 x.1.cls ∧ x.1.flds.length ≤ b ∧ StP w0.heap.size (fun _ => False) wr x.2 x.1.flds
  a3 : nv.ownBlock ≠ some g3 ∧ cv.ownBlock ≠ some g3 ∧ mv.ownBlock ≠ some g3 ∧ ov.ownBlock ≠ some g3
  hk : k < O.length
  ct : 1 ≤ T.length ∧ 1 ≤ M.length ∧ 1 ≤ O.length
  cn : N.length ≤ b ∧ T.length ≤ b ∧ M.length ≤ b ∧ O.length ≤ b
  ns : ∀ x ∈ N, x.size ≤ 140737488355328
  cs : ∀ x ∈ T, x.1.nm.size ≤ 140737488355328
section
variable {w0 wr w1 : World} {b b' : Nat} {N : List ByteArray} {T : List (ClassA × Value)} {M : List (MethA × Value × Value)} {O : List (ObjA × Value)} {nv cv mv ov : Value} {main : Int} {k : Nat} {c : Int} {B : List (Int × Int)} {g3 n3 c3 : Nat}
theorem ob2s_same : ∀ (O : List (ObjA × Value)) (k : Nat) (c : Int) (B B' : List (Int × Int)) (v : Value), ob2s (O.set k (⟨c, B⟩, v)) = ob2s (O.set k (⟨c, B'⟩, v))
  | [], k, c, B, B', v => rfl
  | x :: O, 0, c, B, B', v => rfl
  | x :: O, k + 1, c, B, B', v => by simp only [List.set_cons_succ, ob2s, ob2s_same O k c B B' v]
theorem OL.turn (h : OL w0 wr b N T M O nv cv mv ov main k c B g3 n3 c3) {B' : List (Int × Int)} (cg : Cg (fun q => q = g3) wr w1) (h3 : w1.ownsRow (w0.heap.size + 2) 68 2 (.slice (some ⟨g3, 0, none⟩) n3 c3) n3 (pr2 B')) (hl : B'.length = n3) (hb : ∀ x ∈ B', In64 x.1 ∧ In64 x.2) : OL w0 w1 b N T M O nv cv mv ov main k c B' g3 n3 c3 := by
  have hg := (h.o3.lt g3 rfl).1
  have hi : ∀ q, q = g3 → w0.heap.size ≤ q ∧ ¬ False := fun q hq => ⟨by omega, fun e => e⟩
  obtain ⟨a1, a2, a3, a4⟩ := h.a3
  exact ⟨h.bx.cg cg (fun q hq => by omega), row_cg h.on cg (fun q e hf => a1 (by rw [e, hf])), row_cg h.oc cg (fun q e hf => a2 (by rw [e, hf])), row_cg h.om cg (fun q e hf => a3 (by rw [e, hf])), by rw [ob2s_same O k c B' B]; exact row_cg h.oo cg (fun q e hf => a4 (by rw [e, hf])), h3, hl, hb, h.nb, h.c64, fun x hx => by obtain ⟨a, d, e, f⟩ := h.ic x hx; exact ⟨a, d, e, f.cg cg hi⟩, fun x hx => by obtain ⟨a, d, e, f, p, q⟩ := h.im x hx; exact ⟨a, d, e, f, p.cg cg hi, q.cg cg hi⟩, fun x hx => by obtain ⟨a, d, e⟩ := h.io x hx; exact ⟨a, d, e.cg cg hi⟩, h.a3, h.hk, h.ct, h.cn, h.ns, h.cs⟩
theorem OL.up (h : OL w0 wr b N T M O nv cv mv ov main k c B g3 n3 c3) (bl : Below wr.heap.size wr w1) : OL w0 w1 b N T M O nv cv mv ov main k c B g3 n3 c3 :=
  h.turn (Cg.below _ bl) (row_bel h.o3 bl) h.bl h.b64
theorem OL.fin (h : OL w0 wr b N T M O nv cv mv ov main k c B g3 n3 c3) (hb : b ≤ b') : OUf w0 wr b' := by
  have hF : ∀ {v : Value} {e : TypeId} {sz n : Nat} {xs : List Value}, wr.ownsRow (w0.heap.size + 2) e sz v n xs → ∀ k, v.ownBlock = some k → ¬ k = w0.heap.size + 1 := fun hr k hk e => by have := (hr.lt k hk).1; omega
  have hi : ∀ k, k = w0.heap.size + 1 → w0.heap.size ≤ k ∧ ¬ False := fun k hk => ⟨by omega, fun e => e⟩
  have hmem : ∀ x ∈ O.set k (⟨c, B⟩, .slice (some ⟨g3, 0, none⟩) n3 c3), x = (⟨c, B⟩, .slice (some ⟨g3, 0, none⟩) n3 c3) ∨ x ∈ O := fun x hx => (List.mem_or_eq_of_mem_set hx).symm
  refine ⟨nv, cv, mv, ov, ⟨N, T.map (·.1), M.map (·.1), (O.set k (⟨c, B⟩, .slice (some ⟨g3, 0, none⟩) n3 c3)).map (·.1), main⟩, h.bx, fun w2 cg => ?_, ?_⟩
  · exact ⟨NmV.own2 (row_cg h.on cg (hF h.on)), ClV.own (row_cg h.oc cg (hF h.oc)) (fun x hx => by obtain ⟨a, d, _, f⟩ := h.ic x hx; exact ⟨a, d, (f.cg cg hi).view⟩), MtV.own (row_cg h.om cg (hF h.om)) (fun x hx => by obtain ⟨a, d, _, _, f, g⟩ := h.im x hx; exact ⟨a, d, (f.cg cg hi).view, (g.cg cg hi).view⟩), ObV.own (by rw [List.length_set]; exact row_cg h.oo cg (hF h.oo)) (fun x hx => by
      rcases hmem x hx with rfl | hx
      · have h3 := row_cg h.o3 cg (hF h.o3)
        rw [← h.bl] at h3
        have hp := PrV.own h3 h.b64
        rw [h.bl] at hp
        exact ⟨h.c64, hp⟩
      · obtain ⟨a, _, f⟩ := h.io x hx; exact ⟨a, (f.cg cg hi).view⟩)⟩
  · obtain ⟨p, q, r⟩ := h.ct
    obtain ⟨n1, n2, n3', n4⟩ := h.cn
    exact ⟨Nat.le_trans n1 hb, by simpa using p, by simpa using Nat.le_trans n2 hb, by simpa using q, by simpa using Nat.le_trans n3' hb, by simpa using r, by simpa using Nat.le_trans n4 hb, fun x hx => by obtain ⟨y, hy, rfl⟩ := List.mem_map.1 hx; exact Nat.le_trans (h.ic y hy).2.2.1 hb, fun x hx => by obtain ⟨y, hy, rfl⟩ := List.mem_map.1 hx; exact ⟨Nat.le_trans (h.im y hy).2.2.1 hb, Nat.le_trans (h.im y hy).2.2.2.1 hb⟩, fun x hx => by
      obtain ⟨y, hy, rfl⟩ := List.mem_map.1 hx
      rcases hmem y hy with rfl | hy
      · simp only; rw [h.bl]; exact Nat.le_trans h.nb hb
      · exact Nat.le_trans (h.io y hy).2.1 hb, h.ns, fun x hx => by obtain ⟨y, hy, rfl⟩ := List.mem_map.1 hx; exact h.cs y hy⟩
theorem OL.start {w3 : World} {ox : ObjA} {fv : Value} {g n cp : Nat} (h : OU w0 wr (fun _ => False) b N T M O nv cv mv (.slice (some ⟨g, 0, none⟩) n cp) main) (hn : O.length = n) (hx : O[k]? = some (ox, fv)) (B3 : Below wr.heap.size wr w3) (hg3 : wr.heap.size ≤ g3) (h3 : w3.ownsRow (w0.heap.size + 2) 68 2 (.slice (some ⟨g3, 0, none⟩) n3 c3) n3 (pr2 ox.flds)) (hl : ox.flds.length = n3) (hb : ∀ x ∈ ox.flds, In64 x.1 ∧ In64 x.2) :
    w3.cell? ⟨g, k * 2 + 1, none⟩ = some fv ∧ w3.frozen? ⟨g, k * 2 + 1, none⟩ = false ∧ OL w0 (w3.setCell ⟨g, k * 2 + 1, none⟩ (.slice (some ⟨g3, 0, none⟩) n3 c3)) b N T M O nv cv mv (.slice (some ⟨g, 0, none⟩) n cp) main k ox.cls ox.flds g3 n3 c3 := by
  have hk := (List.getElem?_eq_some_iff.1 hx).1
  have h1 := h.up B3
  have ho := h1.oo
  rw [hn] at ho
  have hgl := (h.oo.lt g rfl)
  have hget := ob2s_get O k _ hx
  have hup := (ob2s_up O k _ hx 0 ox.flds (.slice (some ⟨g3, 0, none⟩) n3 c3)).2
  simp only at hget hup
  have hst := (ho.stored (k * 2 + 1) (.slice (some ⟨g3, 0, none⟩) n3 c3)).1
  rw [← hup] at hst
  obtain ⟨a1, a2, a3, a4⟩ := h1.ap
  have c : Cg (fun q => q = g) w3 (w3.setCell ⟨g, k * 2 + 1, none⟩ (.slice (some ⟨g3, 0, none⟩) n3 c3)) := (Cg.refl (fun q => q = g) w3).set ⟨g, k * 2 + 1, none⟩ rfl _
  have hi : ∀ q, q = g → w0.heap.size ≤ q ∧ ¬ False := fun q hq => ⟨by omega, fun e => e⟩
  obtain ⟨s0, nf, _⟩ := h1.io _ (List.mem_of_getElem? hx)
  simp only at s0 nf
  refine ⟨(ho.cellAt (k * 2 + 1) (by omega)).trans hget.2, ho.frozenAt (k * 2 + 1), ?_⟩
  exact ⟨h1.bx.cg c (fun q hq => by omega), row_set h1.on _ _ (fun e => (a1 g e).2.2.1 rfl), row_set h1.oc _ _ (fun e => (a2 g e).2.1 rfl), row_set h1.om _ _ (fun e => (a3 g e).1 rfl), by rw [hn]; exact hst, row_set h3 _ _ (fun e => by have : g3 = g := (by simpa [Value.ownBlock] using e); omega), hl, hb, by rw [← hl]; exact nf, s0, fun x hx => by obtain ⟨a, d, e, f⟩ := h1.ic x hx; exact ⟨a, d, e, f.cg c hi⟩, fun x hx => by obtain ⟨a, d, e, f, p, q⟩ := h1.im x hx; exact ⟨a, d, e, f, p.cg c hi, q.cg c hi⟩, fun x hx => by obtain ⟨a, d, e⟩ := h1.io x hx; exact ⟨a, d, e.cg c hi⟩,
    ⟨fun e => by have := (h.on.lt _ e).2; omega, fun e => by have := (h.oc.lt _ e).2; omega, fun e => by have := (h.om.lt _ e).2; omega, fun e => by have := (h.oo.lt _ e).2; omega⟩, hk, h1.ct, h1.cn, h1.ns, h1.cs⟩
theorem OL.cell {g n cp : Nat} (h : OL w0 wr b N T M O nv cv mv (.slice (some ⟨g, 0, none⟩) n cp) main k c B g3 n3 c3) (hn : O.length = n) : wr.cell? ⟨g, k * 2 + 1, none⟩ = some (.slice (some ⟨g3, 0, none⟩) n3 c3) := by
  have hk := h.hk
  have ho := h.oo
  rw [hn] at ho
  exact (ho.cellAt (k * 2 + 1) (by omega)).trans (ob2s_get _ k _ (List.getElem?_set_self hk)).2
theorem pr2_two : ∀ (B : List (Int × Int)) (i : Nat), i < B.length → ∀ (x y : Int), pr2 (B.set i (x, y)) = ((pr2 B).set (i * 2) (.int .i64 x)).set (i * 2 + 1) (.int .i64 y)
  | [], i, h, _, _ => by simp at h
  | s :: T, 0, _, x, y => by simp [pr2]
  | s :: T, i + 1, h, x, y => by
    have := pr2_two T i (by simpa using h) x y
    rw [List.set_cons_succ, show (i + 1) * 2 = i * 2 + 2 by omega, show i * 2 + 2 + 1 = i * 2 + 1 + 2 by omega]
    simp [pr2, this]
/-- the field i is written -/
theorem OL.put (h : OL w0 wr b N T M O nv cv mv ov main k c B g3 n3 c3) {i : Nat} (hi : i < n3) (x y : Int) (hx : In64 x) (hy : In64 y) : OL w0 ((wr.setCell ⟨g3, i * 2, none⟩ (.int .i64 x)).setCell ⟨g3, i * 2 + 1, none⟩ (.int .i64 y)) b N T M O nv cv mv ov main k c (B.set i (x, y)) g3 n3 c3 := by
  have h1 := (h.o3.stored (i * 2) (.int .i64 x)).1
  have h2 := (h1.stored (i * 2 + 1) (.int .i64 y)).1
  rw [← pr2_two B i (by have := h.bl; omega) x y] at h2
  exact h.turn (((Cg.refl (fun q => q = g3) wr).set ⟨g3, i * 2, none⟩ rfl _).set ⟨g3, i * 2 + 1, none⟩ rfl _) h2 (by rw [List.length_set]; exact h.bl) (fun z hz => by
    rcases List.mem_or_eq_of_mem_set hz with hz | rfl
    · exact h.b64 z hz
    · exact ⟨hx, hy⟩)
end
end Wd
end Go.Proofs.YtgfnelhbdhbklaaGreat
