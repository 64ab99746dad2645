/- Texts joined: TNF, TNG, TNI, TNJ. -/
import Derived.Test.YtkodnioheifalaaDoorJ16
import Derived.Test.YtkodnioheifalaaDoorJ17
import Derived.Maps.AppendAt
import Derived.Deep.AppendLies
/- The law's own values: does the landed Value say what the law's own does? -/
namespace Go.Proofs.YtkodnioheifalaaDoor
open Go.RowKit
set_option linter.unusedVariables false
set_option maxRecDepth 20000
namespace Wd
set_option maxHeartbeats 8000000 in
theorem lvalues_c (l : Bs) (hm : l.length ≤ 1000) (he : lvalP l = valP l) (w : World) :
    Calls Tryd.prog 11 #[.string (bs l)] w fun e w' => e = .returned (.bool true) ∧ Below w.heap.size w w' := by
  have C1 := Lib.hid (fun w => value_c l (by omega) w)
  have C2 := Lib.hid (fun w => lvalue_c l hm w)
  rw [he] at C2
  clear he
  generalize valP l = A at *
  obtain ⟨⟨a, b⟩, c⟩ := A
  simp only at C1 C2
  have gc : (c == c) = true := by simp
  generalize bs l = TS at *
  go_enter Tryd.func11, Tryd.ntmps11
  go_upto_region 2 with (go_at_call 18; (with_reducible refine (C1.out _).mono ?_); rintro e y1 ⟨rfl, hb⟩)
  have hB := Lib.hid (hb.alloc hb.size (.cells #[.int .i64 a, .int .i64 b] 49))
  have hX := Lib.hid (heap_alloc_new y1 (.cells #[.int .i64 a, .int .i64 b] 49))
  clear hb C1
  generalize y1.alloc (.cells #[.int .i64 a, .int .i64 b] 49) = W1 at *
  generalize y1.heap.size = q1 at *
  go_upto_region 3 with (go_at_call 25; (with_reducible refine (C2.out _).mono ?_); rintro e y2 ⟨rfl, hb⟩)
  replace hX := Lib.hid (blk_up hX.out (hb.alloc hb.size (.cells #[.int .i64 a, .int .i64 b] 49)))
  replace hB := Lib.hid (hB.out.trans ((hb.alloc hb.size (.cells #[.int .i64 a, .int .i64 b] 49)).mono hB.out.size))
  have hY := Lib.hid (heap_alloc_new y2 (.cells #[.int .i64 a, .int .i64 b] 49))
  clear hb C2
  generalize y2.alloc (.cells #[.int .i64 a, .int .i64 b] 49) = W2 at *
  generalize y2.heap.size = q2 at *
  have x0 : W2.cell? ⟨q1, 0, none⟩ = some (.int .i64 a) := by rw [Lib.cell_of_heap hX.out]; rfl
  have x1 : W2.cell? ⟨q1, 1, none⟩ = some (.int .i64 b) := by rw [Lib.cell_of_heap hX.out]; rfl
  have x2 : W2.cell? ⟨q2, 0, none⟩ = some (.int .i64 a) := by rw [Lib.cell_of_heap hY.out]; rfl
  have x3 : W2.cell? ⟨q2, 1, none⟩ = some (.int .i64 b) := by rw [Lib.cell_of_heap hY.out]; rfl
  go_wp2_with fail
  go_ret
  exact ⟨rfl, hB.out⟩
end Wd
end Go.Proofs.YtkodnioheifalaaDoor

/- The law's own same. -/
namespace Go.Proofs.YtkodnioheifalaaDoor
open Go.RowKit
set_option linter.unusedVariables false
set_option maxRecDepth 20000
namespace Wd
theorem hdL_inj {a t b u : Int} (ha : a.natAbs < 10 ^ 20) (ht : t.natAbs < 10 ^ 20) (hb : b.natAbs < 10 ^ 20) (hu : u.natAbs < 10 ^ 20) (h : hdL a t = hdL b u) : a = b ∧ t = u := by
  unfold hdL at h
  rw [List.append_assoc, List.append_assoc] at h
  have h1 := List.append_cancel_left h
  have c1 := cut1_app 32 (numB a) (numB t) (numB_no (by decide))
  have c2 := cut1_app 32 (numB b) (numB u) (numB_no (by decide))
  rw [h1, c2] at c1
  injection c1 with e1 e2
  exact ⟨(numB_inj hb ha e1).symm, (numB_inj hu ht e2).symm⟩
theorem par_out {a t : Int} {C : List Int} (ha : In64 a) (ht : In64 t) (hg : goM a t [] = false) {S : TS} {n : Nat} (h : parT (printR a t [] C) = (S, n)) : n ≠ 0 ∧ S = tz := by
  have hn : n ≠ 0 := by
    rintro rfl
    obtain ⟨h1, _, h3⟩ := parT_sound h
    unfold printR at h3
    have n1 : ∀ l ∈ lineR a t [] C, 10 ∉ l := lineR_no
    have n2 : ∀ l ∈ lineR S.a S.t S.L S.C, 10 ∉ l := lineR_no
    unfold lineR at h3 n1 n2
    rw [joinL_cons, joinL_cons] at h3
    have c1 := cut1_app 10 (hdL a t) (joinL ([].map liL ++ insL C)) (n1 _ (by simp))
    have c2 := cut1_app 10 (hdL S.a S.t) (joinL (S.L.map liL ++ insL S.C)) (n2 _ (by simp))
    rw [h3, c1] at c2
    injection c2 with e1 _
    obtain ⟨g1, g2, _⟩ := goM_iff.1 h1
    obtain ⟨i1, i2⟩ := ha
    obtain ⟨i3, i4⟩ := ht
    have := hdL_inj (a := a) (t := t) (b := S.a) (u := S.t) (by omega) (by omega) (by omega) (by omega) e1
    rw [goM_iff.2 ⟨by omega, by omega, by simp⟩] at hg
    cases hg
  exact ⟨hn, parT_bad h hn⟩
set_option maxHeartbeats 16000000 in
theorem lsame_c {w : World} {v : Value} {m : MethA} (hm : MeV w v m) (hG : Gl w) (hL : m.lits.length ≤ 20) (hC : m.code.length ≤ 300) (hgo : goM m.args m.temps m.lits = true ∨ m.lits = []) :
    Calls Tryd.prog 9 #[v] w fun e w' => e = .returned (.bool true) ∧ Below w.heap.size w w' := by
  obtain ⟨la, lc, ca, cc, rfl, hm⟩ := me_form hm
  have hM := Lib.hid (Mb.born hm)
  have hB := Lib.hid ((Below.refl w.heap.size w).alloc (Nat.le_refl _) (.cells #[.int .i64 m.args, .int .i64 m.temps, .slice la m.lits.length lc, .slice ca m.code.length cc] 37))
  have hcy : ∀ x ∈ m.code, 0 ≤ x ∧ x ≤ 255 := by
    obtain ⟨_, _, _, _, e, _, hby⟩ := hm.ex
    cases e
    exact hby.bd
  have C1 := Lib.hid (fun y (b : Below w.heap.size w y) (hy : Gl y) => print_c (hm.up b) hy (by omega) (by omega))
  have C2 := Lib.hid (fun y (b : Below w.heap.size w y) => lprint_c (hm.up b) (by omega) (by omega))
  have C4 := Lib.hid (fun y (b : Below w.heap.size w y) => lgoes_c (hm.up b) (by omega))
  have hlen := printR_len m.args m.temps m.lits m.code
  have C3 := Lib.hid (fun y => parse_c (printR m.args m.temps m.lits m.code) (by omega) y)
  obtain ⟨S, n, hr⟩ : ∃ S n, parT (printR m.args m.temps m.lits m.code) = (S, n) := ⟨_, _, rfl⟩
  rw [hr] at C3
  simp only at C3
  have hfin : (goM m.args m.temps m.lits = true ∧ n = 0 ∧ S.a = m.args ∧ S.t = m.temps ∧ S.L = m.lits ∧ S.C = m.code) ∨ (goM m.args m.temps m.lits = false ∧ n ≠ 0 ∧ S = tz) := by
    cases hg : goM m.args m.temps m.lits with
    | true =>
      obtain ⟨k, h4⟩ := parT_print hg hcy
      rw [hr] at h4
      injection h4 with h4 h5
      left
      rw [h4]
      exact ⟨rfl, h5, rfl, rfl, rfl, rfl⟩
    | false =>
      right
      rcases hgo with h | h
      · rw [hg] at h; cases h
      · rw [h] at hr hg
        exact ⟨rfl, par_out hm.a64 hm.t64 hg hr⟩
  clear hr hcy hgo hlen
  have gT : ((bs (printR m.args m.temps m.lits m.code)).toList == (bs (printR m.args m.temps m.lits m.code)).toList) = true := by simp
  generalize bs (printR m.args m.temps m.lits m.code) = TS at *
  replace hG := Lib.hid hG
  obtain ⟨a0, a1, a2, a3⟩ := hM.out.c
  go_enter Tryd.func9, Tryd.ntmps9
  go_upto_region 2 with (go_at_call 15; (with_reducible refine (C1.out _ hB.out (hG.out.up hB.out)).mono ?_); rintro e y1 ⟨rfl, hb⟩)
  replace hM := Lib.hid (hM.out.up hb)
  replace hB := Lib.hid (hB.out.trans (hb.mono hB.out.size))
  clear a0 a1 a2 a3 hb C1
  obtain ⟨q, hq⟩ : ∃ q, w.heap.size = q := ⟨_, rfl⟩
  simp only [hq] at hM ⊢
  clear hq
  obtain ⟨a0, a1, a2, a3⟩ := hM.out.c
  go_upto_region 4 with (go_at_call 23; (with_reducible refine (C2.out _ hB.out).mono ?_); rintro e y2 ⟨rfl, hb⟩)
  replace hM := Lib.hid (hM.out.up hb)
  replace hB := Lib.hid (hB.out.trans (hb.mono hB.out.size))
  clear a0 a1 a2 a3 hb C2
  go_upto_region 5 with (go_at_call 12; (with_reducible refine (C3.out _).mono ?_); rintro e y3 ⟨⟨zv, rfl, hzv⟩, hb⟩; obtain ⟨lz, lzc, cz, czc, rfl, hZ⟩ := me_form hzv)
  have hZ1 : Hid (Mb (y3.alloc (.cells #[.int .i64 S.a, .int .i64 S.t, .slice lz S.L.length lzc, .slice cz S.C.length czc] 37)) y3.heap.size lz lzc cz czc ⟨S.a, S.t, S.L, S.C⟩) := Lib.hid (Mb.born (m := ⟨S.a, S.t, S.L, S.C⟩) hZ)
  replace hb := hb.alloc hb.size (.cells #[.int .i64 S.a, .int .i64 S.t, .slice lz S.L.length lzc, .slice cz S.C.length czc] 37)
  replace hM := Lib.hid (hM.out.up hb)
  replace hB := Lib.hid (hB.out.trans (hb.mono hB.out.size))
  clear hb hZ hzv C3
  generalize y3.alloc (.cells #[.int .i64 S.a, .int .i64 S.t, .slice lz S.L.length lzc, .slice cz S.C.length czc] 37) = W6 at *
  generalize y3.heap.size = q6 at *
  obtain ⟨a0, a1, a2, a3⟩ := hM.out.c
  rcases hfin with ⟨hg, rfl, e1, e2, e3, e4⟩ | ⟨hg, hn, rfl⟩
  · have C6 := Lib.hid (fun (y : World) (b : Below W6.heap.size W6 y) => rsamem_c (hZ1.out.v.up b) (hM.out.v.up b))
    rw [show methEq ⟨S.a, S.t, S.L, S.C⟩ m = true from meq5 e1 e2 e3 e4] at C6
    rw [hg] at C4
    clear hg e1 e2 e3 e4
    simp only at C6
    go_upto_region 6 with (go_at_call 24; (with_reducible refine (C4.out _ hB.out).mono ?_); rintro e y4 ⟨rfl, hb⟩)
    have hM' := Lib.hid (hM.out.up hb)
    have hZ' := Lib.hid (hZ1.out.up hb)
    replace hB := Lib.hid (hB.out.trans (hb.mono hB.out.size))
    have hb' := Lib.hid hb
    clear a0 a1 a2 a3 hb
    obtain ⟨a0, a1, a2, a3⟩ := hM'.out.c
    obtain ⟨z0, z1, z2, z3⟩ := hZ'.out.c
    simp only at z0 z1 z2 z3
    go_wp2_with (go_at_call 16; (refine (C6.out _ hb'.out).mono ?_); rintro e y5 ⟨rfl, hb⟩)
    go_ret
    exact ⟨rfl, hB.out.trans (hb.mono hB.out.size)⟩
  · have C6 := Lib.hid (fun (y : World) (b : Below W6.heap.size W6 y) => rsamem_c (hZ1.out.v.up b) (me_zero y))
    rw [show methEq ⟨tz.a, tz.t, tz.L, tz.C⟩ ⟨0, 0, [], []⟩ = true from meq5 rfl rfl rfl rfl] at C6
    rw [hg] at C4
    clear hg
    have n0 : decide ((n : Int) > 0) = true := by simp; omega
    have n1 : (0 : Int) < (n : Int) := by omega
    go_upto_region 7 with (go_at_call 24; (with_reducible refine (C4.out _ hB.out).mono ?_); rintro e y4 ⟨rfl, hb⟩)
    have hZ' := Lib.hid (hZ1.out.up hb)
    replace hB := Lib.hid (hB.out.trans (hb.mono hB.out.size))
    have hb' := Lib.hid hb
    clear a0 a1 a2 a3 hb
    obtain ⟨z0, z1, z2, z3⟩ := hZ'.out.c
    clear hZ1 hZ'
    simp only [tz, List.length_nil] at z0 z1 z2 z3 C6 ⊢
    go_wp2_with (go_at_call 16; (refine (C6.out _ hb'.out).mono ?_); rintro e y5 ⟨rfl, hb⟩)
    go_ret
    exact ⟨rfl, hB.out.trans (hb.mono hB.out.size)⟩
end Wd
end Go.Proofs.YtkodnioheifalaaDoor

/- A text in lines, one line more: what the law's own broken goes by. -/
namespace Go.Proofs.YtkodnioheifalaaDoor
open Go.RowKit
set_option linter.unusedVariables false
set_option maxRecDepth 20000
namespace Wd
/-- so far read: these lines, the next begins at f -/
structure SpL (s : Bs) (A : List Bs) (f i : Nat) : Prop where
  mk ::
  le : f ≤ i
  hi : i ≤ s.length
  tk : s.take f = joinL A
  no : 10 ∉ (s.take i).drop f
  ls : ∀ l ∈ A, 10 ∉ l
theorem SpL.start (s : Bs) : SpL s [] 0 0 := ⟨by omega, by omega, by simp [joinL], by simp, by simp⟩
theorem take_split {s : Bs} {f i : Nat} (h : f ≤ i) : s.take i = s.take f ++ (s.take i).drop f := by
  have := List.take_append_drop f (s.take i)
  rw [List.take_take, Nat.min_eq_left h] at this
  exact this.symm
theorem SpL.step {s : Bs} {A : List Bs} {f i : Nat} {c : UInt8} (h : SpL s A f i) (hc : s[i]? = some c) (hn : c ≠ 10) : SpL s A f (i + 1) := by
  have hl := (List.getElem?_eq_some_iff.1 hc).1
  have h1 := h.le
  refine ⟨by omega, by omega, h.tk, ?_, h.ls⟩
  rw [take_next hc, List.drop_append_of_le_length (by rw [List.length_take]; omega)]
  intro hm
  rcases List.mem_append.1 hm with hm | hm
  · exact h.no hm
  · exact hn (List.mem_singleton.1 hm).symm
theorem SpL.line {s : Bs} {A : List Bs} {f i : Nat} (h : SpL s A f i) (hc : s[i]? = some 10) : SpL s (A ++ [(s.take i).drop f]) (i + 1) (i + 1) := by
  have hl := (List.getElem?_eq_some_iff.1 hc).1
  refine ⟨Nat.le_refl _, by omega, ?_, ?_, ?_⟩
  · have e := take_split (s := s) h.le
    rw [h.tk] at e
    rw [take_next hc, joinL_app, joinL_one, ← List.append_assoc, ← e]
  · rw [List.drop_of_length_le (by rw [List.length_take]; omega)]
    simp
  · intro l hm
    rcases List.mem_append.1 hm with hm | hm
    · exact h.ls l hm
    · rw [List.mem_singleton.1 hm]; exact h.no
theorem splitL_no10 : ∀ (r : Bs), 10 ∉ r → splitL r = ([], r)
  | [], _ => rfl
  | c :: r, h => by
    have h1 : c ≠ 10 := fun e => h (by simp [e])
    have h2 := splitL_no10 r (fun e => h (by simp [e]))
    conv => lhs; unfold splitL
    rw [if_neg h1, h2]
theorem SpL.done {s : Bs} {A ls : List Bs} {f : Nat} (h : SpL s A f s.length) (e : s = joinL ls) (hls : ∀ l ∈ ls, 10 ∉ l) : A = ls := by
  have h1 : s = joinL A ++ s.drop f := by rw [← h.tk, List.take_append_drop]
  have h2 : 10 ∉ s.drop f := by have := h.no; rwa [List.take_length] at this
  have h3 := splitL_join A (s.drop f) h.ls
  rw [← h1, e] at h3
  have h4 := splitL_join ls [] hls
  rw [List.append_nil] at h4
  rw [e] at h2
  rw [h4, splitL_no10 _ h2, splitL_no10 [] (by simp), List.append_nil, List.append_nil] at h3
  injection h3 with h3 _
  exact h3.symm
/-- the rows of a list with one more at k, i rounds of it -/
def mI (k i : Nat) : Nat := if i ≤ k then i else i + 1
def FL (ls : List Bs) (k : Nat) (l : Bs) : List Bs := ls.take k ++ l :: ls.drop k
theorem FL_lt {ls : List Bs} {k i : Nat} {l x : Bs} (h : i < k) (hk : k ≤ ls.length) (hx : ls[i]? = some x) : (FL ls k l)[i]? = some x := by
  unfold FL
  rw [List.getElem?_append_left (by rw [List.length_take]; omega), List.getElem?_take, if_pos h, hx]
theorem FL_eq {ls : List Bs} {k : Nat} {l : Bs} (hk : k ≤ ls.length) : (FL ls k l)[k]? = some l := by
  unfold FL
  rw [List.getElem?_append_right (by rw [List.length_take]; omega), List.length_take, Nat.min_eq_left hk, Nat.sub_self]
  rfl
theorem FL_ge {ls : List Bs} {k i : Nat} {l x : Bs} (h : k ≤ i) (hx : ls[i]? = some x) : (FL ls k l)[i + 1]? = some x := by
  have := (List.getElem?_eq_some_iff.1 hx).1
  unfold FL
  rw [List.getElem?_append_right (by rw [List.length_take]; omega), List.length_take, Nat.min_eq_left (by omega), show i + 1 - k = (i - k) + 1 by omega, List.getElem?_cons_succ, List.getElem?_drop, show k + (i - k) = i by omega, hx]
theorem FL_len {ls : List Bs} {k : Nat} {l : Bs} (hk : k ≤ ls.length) : (FL ls k l).length = ls.length + 1 := by
  unfold FL
  rw [List.length_append, List.length_cons, List.length_take, List.length_drop]
  omega
def TI (ls : List Bs) (k : Nat) (l : Bs) (i : Nat) : Bs := joinL ((FL ls k l).take (mI k i))
theorem TI_lt {ls : List Bs} {k i : Nat} {l x : Bs} (h : i < k) (hk : k ≤ ls.length) (hx : ls[i]? = some x) : TI ls k l (i + 1) = TI ls k l i ++ (x ++ [10]) := by
  unfold TI mI
  rw [if_pos (by omega), if_pos (by omega), take_next (FL_lt h hk hx), joinL_app, joinL_one]
theorem TI_eq {ls : List Bs} {k : Nat} {l x : Bs} (hx : ls[k]? = some x) : TI ls k l (k + 1) = TI ls k l k ++ (l ++ [10]) ++ (x ++ [10]) := by
  have := (List.getElem?_eq_some_iff.1 hx).1
  unfold TI mI
  rw [if_neg (by omega), if_pos (by omega), take_next (FL_ge (Nat.le_refl k) hx), take_next (FL_eq (by omega)), joinL_app, joinL_app, joinL_one, joinL_one]
theorem TI_eqn {ls : List Bs} {k : Nat} {l : Bs} (hk : k = ls.length) : TI ls k l (k + 1) = TI ls k l k ++ (l ++ [10]) := by
  unfold TI mI
  rw [if_neg (by omega), if_pos (by omega)]
  have h := take_next (FL_eq (l := l) (show k ≤ ls.length by omega))
  rw [List.take_of_length_le (show (FL ls k l).length ≤ k + 1 + 1 by rw [FL_len (by omega)]; omega)]
  rw [List.take_of_length_le (show (FL ls k l).length ≤ k + 1 by rw [FL_len (by omega)]; omega)] at h
  rw [h, joinL_app, joinL_one, ← h]
theorem TI_gt {ls : List Bs} {k i : Nat} {l x : Bs} (h : k < i) (hx : ls[i]? = some x) : TI ls k l (i + 1) = TI ls k l i ++ (x ++ [10]) := by
  unfold TI mI
  rw [if_neg (by omega), if_neg (by omega), take_next (FL_ge (by omega) hx), joinL_app, joinL_one]
theorem TI_end {ls : List Bs} {k : Nat} {l : Bs} (h : k ≤ ls.length) : TI ls k l (ls.length + 1) = joinL (FL ls k l) := by
  unfold TI mI
  rw [if_neg (by omega), List.take_of_length_le (by rw [FL_len h]; omega)]
theorem TI_last {ls : List Bs} {k : Nat} {l : Bs} (h : k < ls.length) : TI ls k l (ls.length + 1) = TI ls k l ls.length := by
  rw [TI_end (by omega)]
  unfold TI mI
  rw [if_neg (by omega), List.take_of_length_le (by rw [FL_len (by omega)]; omega)]
theorem joinL_take (F : List Bs) (i : Nat) : (joinL (F.take i)).length ≤ (joinL F).length := by
  have h := congrArg List.length (congrArg joinL (List.take_append_drop i F))
  rw [joinL_app, List.length_append] at h
  omega
theorem TI_le {ls : List Bs} {k : Nat} {l : Bs} (i : Nat) : (TI ls k l i).length ≤ (joinL ls).length + l.length + 1 := by
  have h1 := joinL_take (FL ls k l) (mI k i)
  have h2 : (joinL (FL ls k l)).length = (joinL ls).length + l.length + 1 := by
    have h := congrArg List.length (congrArg joinL (List.take_append_drop k ls))
    rw [joinL_app, List.length_append] at h
    unfold FL
    rw [joinL_app, joinL_cons, List.length_append, List.length_append, List.length_cons]
    omega
  unfold TI
  omega
theorem TI_0 {ls : List Bs} {k : Nat} {l : Bs} : TI ls k l 0 = [] := by
  unfold TI mI
  rw [if_pos (by omega)]
  rfl
end Wd
end Go.Proofs.YtkodnioheifalaaDoor

/- The law's own broken. -/
namespace Go.Proofs.YtkodnioheifalaaDoor
open Go.RowKit
set_option linter.unusedVariables false
set_option maxRecDepth 20000
namespace Wd
theorem bs_ext (s : Bs) (f i : Nat) : (bs s).extract f i = bs ((s.take i).drop f) := by
  apply ByteArray.ext
  simp [bs, ByteArray.data_extract, List.drop_take]
theorem joinL_mem {A : List Bs} {i : Nat} {x : Bs} (h : A[i]? = some x) : x.length + 1 ≤ (joinL A).length := by
  have h1 := joinL_take A (i + 1)
  rw [take_next h, joinL_app, joinL_one, List.length_append, List.length_append, List.length_cons, List.length_nil] at h1
  omega
theorem infoS : (Tryd.prog.info? 9).map (fun i => (i.zero, i.size, i.bytes)) = some (some (.string ByteArray.empty), 1, 16) := by kernel_rfl
def strL (A : List Bs) : List Value := A.map (fun l => Value.string (bs (l ++ [10])))
theorem strL_one (A : List Bs) : ∀ u ∈ strL A, u.oneCell' = true := by
  intro u hu
  obtain ⟨x, _, rfl⟩ := List.mem_map.1 hu
  rfl
theorem one_atS {w : World} {g : Nat} {x : Bs} (h : w.cell? ⟨g, 0, none⟩ = some (.string (bs (x ++ [10])))) : ∀ j u, (strL [x])[j]? = some u → w.cell? ((⟨g, 0, none⟩ : Addr).add j) = some u := by
  intro j u hu
  match j, hu with
  | 0, hu =>
    simp only [strL, List.map_cons, List.map_nil, List.getElem?_cons_zero, Option.some.injEq] at hu
    subst hu
    exact h
  | j + 1, hu => simp [strL] at hu
/-- so many lines are set down -/
structure LnS (w : World) (v : Value) (wr : World) (A : List Bs) : Prop where
  own : wr.ownsRow w.heap.size 9 1 v A.length (strL A)
  bel : Below w.heap.size w wr
theorem LnS.next {w wr w4 : World} {v v4 : Value} {A : List Bs} {x : Bs} {o : Obj} (h : LnS w v wr A) (ho : w4.ownsRow w.heap.size 9 1 v4 (A.length + 1) (strL A ++ strL [x])) (hg : (wr.alloc o).grownBy w4 v.ownBlock) : LnS w v4 w4 (A ++ [x]) := by
  have hA : Below wr.heap.size wr (wr.alloc o) := (Below.refl _ _).alloc (Nat.le_refl _) _
  refine ⟨by simpa [strL] using ho, (h.bel.trans (hA.mono h.bel.size)).grown hg (Nat.le_trans h.bel.size hA.size) (fun k e => (h.own.lt k e).1)⟩
theorem LnS.at {w wr : World} {a : Option Addr} {n c : Nat} {A : List Bs} (h : LnS w (.slice a n c) wr A) {k : Nat} {x : Bs} (hx : A[k]? = some x) : ∃ g, a = some ⟨g, 0, none⟩ ∧ wr.cell? ⟨g, k, none⟩ = some (.string (bs (x ++ [10]))) := by
  have hk := (List.getElem?_eq_some_iff.1 hx).1
  have hn : n = A.length := by
    obtain ⟨a', c', e⟩ := row_shape h.own
    cases e; rfl
  subst hn
  obtain ⟨g, rfl⟩ := row_some h.own (by omega)
  refine ⟨g, rfl, ?_⟩
  rw [(own_base h.own).cellAt k (by omega)]
  simp [strL, hx]
set_option maxHeartbeats 16000000 in
theorem lbroken_c {w : World} {v : Value} {m : MethA} (hm : MeV w v m) (hL : m.lits.length ≤ 20) (hC : m.code.length ≤ 300) (hgo : goM m.args m.temps m.lits = true) {a : Int} (ha : In64 a) {l : Bs} (hl : l.length ≤ 100) (hno : noL l = true) (h10 : 10 ∉ l) :
    Calls Tryd.prog 10 #[v, .int .i64 a, .string (bs l)] w fun e w' => e = .returned (.bool true) ∧ Below w.heap.size w w' := by
  obtain ⟨la, lc, ca, cc, rfl, hm⟩ := me_form hm
  obtain ⟨i0, hi0, hz0, hz1, hz2⟩ := info_parts infoS
  have hmx : 100000 ≤ maxLen := by decide
  have hB := Lib.hid ((Below.refl w.heap.size w).alloc (Nat.le_refl _) (.cells #[.int .i64 m.args, .int .i64 m.temps, .slice la m.lits.length lc, .slice ca m.code.length cc] 37))
  have hcy : ∀ x ∈ m.code, 0 ≤ x ∧ x ≤ 255 := by
    obtain ⟨_, _, _, _, e, _, hby⟩ := hm.ex
    cases e
    exact hby.bd
  have C1 := Lib.hid (fun y (b : Below w.heap.size w y) => lprint_c (hm.up b) (by omega) (by omega))
  obtain ⟨ls, hls⟩ : ∃ ls, ls = lineR m.args m.temps m.lits m.code := ⟨_, rfl⟩
  have hpr : printR m.args m.temps m.lits m.code = joinL ls := by rw [hls]; rfl
  have hlen : (joinL ls).length ≤ 26001 := by
    have := printR_len m.args m.temps m.lits m.code
    rw [hpr] at this
    omega
  have hln10 : ∀ x ∈ ls, 10 ∉ x := by rw [hls]; exact lineR_no
  have hlsl : ls.length ≤ 26001 := Nat.le_trans (joinL_ge ls) hlen
  have hfin := Lib.hid (fun (k : Nat) => parT_broken (A := ls.take k) (B := ls.drop k) hgo hcy (by rw [← hls, List.take_append_drop]) hno h10)
  rw [hpr] at C1
  obtain ⟨s, hs⟩ : ∃ s, s = joinL ls := ⟨_, rfl⟩
  rw [← hs] at C1 hlen
  have hsz : (bs s).size = s.length := bs_size s
  obtain ⟨N, hN⟩ : ∃ N, s.length = N := ⟨_, rfl⟩
  rw [hN] at hsz hlen
  have hix := Lib.hid (fun (k : Nat) (c : UInt8) (hk : s[k]? = some c) (h : k < (bs s).size) => (show (bs s)[k]'h = c by
    obtain ⟨h1, h2⟩ := List.getElem?_eq_some_iff.1 hk
    rw [← h2]
    simp [bs, ByteArray.getElem_eq_getElem_data]))
  have hex := Lib.hid (fun (f i : Nat) => bs_ext s f i)
  have S0 := Lib.hid (SpL.start s)
  have L0 : Hid (LnS w (.slice none 0 0) (w.alloc (.cells #[.int .i64 m.args, .int .i64 m.temps, .slice la m.lits.length lc, .slice ca m.code.length cc] 37)) []) := Lib.hid ⟨by simpa [strL] using World.ownsRow_nil _ _ _ _, hB.out⟩
  replace hN := Lib.hid hN
  replace hs := Lib.hid hs
  replace hls := Lib.hid hls
  replace hln10 := Lib.hid hln10
  clear hgo hno h10 hcy hpr
  have hM := Lib.hid (Mb.born hm)
  obtain ⟨a0, a1, a2, a3⟩ := hM.out.c
  clear hM
  go_enter Tryd.func10, Tryd.ntmps10
  go_upto_region 4 with (go_at_call 23; (with_reducible refine (C1.out _ hB.out).mono ?_); rintro e y1 ⟨rfl, hb⟩)
  replace L0 : Hid (LnS w (.slice none 0 0) y1 []) := Lib.hid ⟨by simpa [strL] using World.ownsRow_nil _ _ _ _, L0.out.bel.trans (hb.mono L0.out.bel.size)⟩
  clear a0 a1 a2 a3 hb C1 hB
  go_upto_region 5 with fail
  go_loopw [7, 8, 10] (fun v7 v8 v10 wr => ∃ (A : List Bs) (f i : Nat), i ≤ N ∧ f ≤ i ∧ v8 = .int .i64 f ∧ v10 = .int .i64 i ∧ Hid (SpL s A f i) ∧ Hid (LnS w v7 wr A)) (fun _ _ v10 _ => N - (intOf v10).toNat)
  case atStart => exact ⟨[], 0, 0, by omega, by omega, rfl, rfl, S0, L0⟩
  case round =>
    clear S0 L0
    obtain ⟨A, f, i, hiN, hfi, rfl, rfl, hS, hR⟩ := hrel
    obtain ⟨la7, c7, rfl⟩ := row_shape hR.out.own
    by_cases hlt : i < N
    · have d1 : decide ((i : Int) < (N : Int)) = true := by simp; omega
      have p0 : (0 : Int) ≤ (i : Int) := by omega
      have p1 : (i : Int) < (N : Int) := by omega
      have wi : IntKind.i64.wrap ((i : Int) + 1) = (i : Int) + 1 := IntWalk.i64_in _ (by omega)
      obtain ⟨c, hc⟩ : ∃ c, s[i]? = some c := ⟨s[i]'(by have := hN.out; omega), by simp⟩
      have ix := hix.out i c hc
      by_cases h1 : c = 10
      · subst h1
        have hS' := Lib.hid (hS.out.line hc)
        obtain ⟨x, hx⟩ : ∃ x, x = (s.take i).drop f := ⟨_, rfl⟩
        rw [← hx] at hS'
        have ex : (bs s).extract f (i + 1) = bs (x ++ [10]) := by
          rw [hex.out f (i + 1), take_next hc, List.drop_append_of_le_length (by rw [List.length_take]; have := hN.out; omega), hx]
        have ti : ((i : Int) + 1).toNat = i + 1 := by omega
        have p2 : (f : Int) ≤ (i : Int) + 1 := by omega
        have p3 : (i : Int) + 1 ≤ (N : Int) := by omega
        have hAl : A.length ≤ 26001 := by
          have h1 := joinL_ge A
          have h2 := congrArg List.length hS.out.tk
          rw [List.length_take] at h2
          omega
        clear hc hx hS
        go_wp2_with (first | (at_builtin; refine wpList_append_lies _ rfl (.tmp 28) (.tmp 34) 22 rfl w.heap.size 9 i0 (.string ByteArray.empty) 1 16 Tryd.underlying22 hi0 hz0 hz1 hz2 rfl (by decide) (.slice la7 A.length c7) A.length _ (by simp [Act.eval]) (hR.out.own.alloc _) ⟨wr.heap.size, 0, none⟩ 1 1 (strL [x]) (by simp [Act.eval]) (by simp [strL]) (one_atS ((World.cell?_alloc_new _ _ _ 0).trans rfl)) (strL_one _) (by omega) (by omega) (by omega) (by simp only [World.size_alloc]; have := hR.out.bel.size; omega) _ rfl ?_; intro g4 cap4 w4 hown4 hgrow4 hat4 hlt4))
        have hN4 := Lib.hid (hR.out.next hown4 hgrow4)
        clear hown4 hgrow4 hat4 hlt4 hR
        go_roundw
        case rel => exact ⟨_, i + 1, i + 1, by omega, by omega, by go_num, by go_num, hS', by simpa using hN4⟩
        case measure => simp [intOf]; omega
      · have g1 : ((c.toNat : Int) == 10) = false := by
          have : ¬ c.toNat = 10 := fun e => h1 (UInt8.toNat_inj.1 e)
          simp; omega
        have hS' := Lib.hid (hS.out.step hc h1)
        clear hc hS
        go_wp2_with fail
        go_roundw
        case rel => exact ⟨A, f, i + 1, by omega, by omega, rfl, by go_num, hS', hR⟩
        case measure => simp [intOf]; omega
    · have d1 : decide ((i : Int) < (N : Int)) = false := by simp; omega
      obtain rfl : i = N := by omega
      have hAe : A = ls := by
        have h1 := hS.out
        rw [← hN.out] at h1
        exact h1.done hs.out hln10.out
      subst hAe
      obtain ⟨n, hn⟩ : ∃ n, A.length = n := ⟨_, rfl⟩
      have hPW := Lib.hid (fun w => within40_c a 0 (n : Int) ha.1 ha.2 (by omega) (by omega) (by omega) w)
      have hka := within_bd a 0 (n : Int) (by omega)
      generalize within a 0 (n : Int) = kk at *
      obtain ⟨k, rfl⟩ : ∃ k : Nat, kk = (k : Int) := ⟨kk.toNat, by omega⟩
      have hk : k ≤ n := by omega
      have wk : IntKind.i64.wrap ((k : Int) + 1) = (k : Int) + 1 := IntWalk.i64_in _ (by omega)
      have hkl : k ≤ A.length := by omega
      have hf := hfin.out k
      rw [List.length_take, Nat.min_eq_left hkl, show A.take k ++ l :: A.drop k = FL A k l from rfl, ← TI_end hkl, hn] at hf
      have hbd := Lib.hid (fun i => (show (bs (TI A k l i)).size ≤ 26102 by
        have h1 := TI_le (ls := A) (k := k) (l := l) i
        rw [← hs.out, hN.out] at h1
        rw [bs_size]; omega))
      have hbl := Lib.hid (fun (x : Bs) (i : Nat) (hx : A[i]? = some x) => (show (bs (x ++ [10])).size ≤ 26102 by
        have h1 := joinL_mem hx
        rw [← hs.out, hN.out] at h1
        rw [bs_size, List.length_append, List.length_cons, List.length_nil]; omega))
      have hbL : (bs l).size ≤ 100 := by rw [bs_size]; exact hl
      have C3 := Lib.hid (fun y => parse_c (TI A k l (n + 1)) (by
        have h1 := TI_le (ls := A) (k := k) (l := l) (n + 1)
        rw [← hs.out, hN.out] at h1
        omega) y)
      rw [hf] at C3
      simp only at C3
      have T0 : Hid (bs (TI A k l 0) = ⟨#[]⟩) := Lib.hid (by rw [TI_0]; rfl)
      replace hS := Lib.hid True.intro
      rw [hn] at hR ⊢
      go_upto_region 12 with (go_at_call 14; (with_reducible refine (hPW.out _).mono ?_); rintro e y1 ⟨rfl, hy1⟩; subst y1)
      clear hPW hfin hf hka d1 hS hiN hfi hlt
      go_upto_region 13 with fail
      rw [← T0.out]
      go_loopw [12, 13] (fun v12 v13 wx => ∃ (i : Nat), i ≤ n + 1 ∧ v12 = .string (bs (TI A k l i)) ∧ v13 = .int .i64 i ∧ wx = wr) (fun _ v13 _ => n + 1 - (intOf v13).toNat)
      case atStart => exact ⟨0, by omega, rfl, rfl, rfl⟩
      case round =>
        clear T0
        obtain ⟨i, hi, rfl, rfl, rfl⟩ := hrel
        have hbi := hbd.out i
        have p0 : (0 : Int) ≤ (i : Int) := by omega
        by_cases hle : i ≤ n
        · have d1 : decide ((i : Int) ≤ (n : Int)) = true := by simp; omega
          by_cases hlt : i < n
          · have d2 : decide ((i : Int) < (n : Int)) = true := by simp; omega
            have p1 : (i : Int) < (n : Int) := by omega
            obtain ⟨x, hx⟩ : ∃ x, A[i]? = some x := ⟨A[i]'(by omega), by simp⟩
            obtain ⟨g, rfl, c0⟩ := hR.out.at hx
            have hbx := hbl.out x i hx
            by_cases hik : i = k
            · have d3 : ((i : Int) == (k : Int)) = true := by simp; omega
              have hT : Hid (bs (TI A k l (i + 1)) = bs (TI A k l i) ++ (bs l ++ ⟨#[10]⟩) ++ bs (x ++ [10])) := Lib.hid (by
                subst hik
                rw [TI_eq hx, ← bs_app, ← bs_app, ← bs_app l [10]]
                rfl)
              clear hx hik
              generalize bs (TI A k l i) = T1 at *
              generalize bs (x ++ [10]) = X1 at *
              generalize bs l = LL at *
              have r1 : ¬ (9223372036854775807 : Nat) < LL.size + 1 := by omega
              have r2 : ¬ (9223372036854775807 : Nat) < T1.size + (LL.size + 1) := by omega
              have r3 : ¬ (9223372036854775807 : Nat) < T1.size + (LL.size + 1) + X1.size := by omega
              clear hbi hbx hbL
              go_wp2_with fail
              go_roundw
              case rel => exact ⟨i + 1, by omega, by rw [hT.out], by go_num, by trivial⟩
              case measure => simp [intOf]; omega
            · have d3 : ((i : Int) == (k : Int)) = false := by simp; omega
              have hT : Hid (bs (TI A k l (i + 1)) = bs (TI A k l i) ++ bs (x ++ [10])) := Lib.hid (by
                rcases Nat.lt_or_ge i k with h | h
                · rw [TI_lt h hkl hx, ← bs_app]
                · rw [TI_gt (by omega) hx, ← bs_app])
              clear hx hik
              generalize bs (TI A k l i) = T1 at *
              generalize bs (x ++ [10]) = X1 at *
              have r1 : ¬ (9223372036854775807 : Nat) < T1.size + X1.size := by omega
              clear hbi hbx hbL
              go_wp2_with fail
              go_roundw
              case rel => exact ⟨i + 1, by omega, by rw [hT.out], by go_num, by trivial⟩
              case measure => simp [intOf]; omega
          · have d2 : decide ((i : Int) < (n : Int)) = false := by simp; omega
            obtain rfl : i = n := by omega
            by_cases hik : i = k
            · have d3 : ((i : Int) == (k : Int)) = true := by simp; omega
              have hT : Hid (bs (TI A k l (i + 1)) = bs (TI A k l i) ++ (bs l ++ ⟨#[10]⟩)) := Lib.hid (by
                subst hik
                rw [TI_eqn hn.symm, ← bs_app, ← bs_app l [10]]
                rfl)
              clear hik
              generalize bs (TI A k l i) = T1 at *
              generalize bs l = LL at *
              have r1 : ¬ (9223372036854775807 : Nat) < LL.size + 1 := by omega
              have r2 : ¬ (9223372036854775807 : Nat) < T1.size + (LL.size + 1) := by omega
              clear hbi hbL
              go_wp2_with fail
              go_roundw
              case rel => exact ⟨i + 1, by omega, by rw [hT.out], by go_num, by trivial⟩
              case measure => simp [intOf]
            · have d3 : ((i : Int) == (k : Int)) = false := by simp; omega
              have hT : Hid (bs (TI A k l (i + 1)) = bs (TI A k l i)) := Lib.hid (by
                rw [← hn, TI_last (by omega)])
              clear hik
              go_wp2_with fail
              go_roundw
              case rel => exact ⟨i + 1, by omega, by rw [hT.out], by go_num, by trivial⟩
              case measure => simp [intOf]
        · have d1 : decide ((i : Int) ≤ (n : Int)) = false := by simp; omega
          obtain rfl : i = n + 1 := by omega
          have hB := Lib.hid hR.out.bel
          clear hR hbi hbl hbd hbL
          generalize bs (TI A k l (n + 1)) = TT at *
          have ek : (((k : Nat) : Int) + 1 == (k : Int) + 1) = true := by simp
          go_upto_region 20 with (go_at_call 12; (with_reducible refine (C3.out _).mono ?_); rintro e y3 ⟨⟨zv, rfl, hzv⟩, hb⟩; obtain ⟨lz, lzc, cz, czc, rfl, hZ⟩ := me_form hzv)
          simp only [tz, List.length_nil] at hZ ⊢
          have hZ1 : Hid (Mb (y3.alloc (.cells #[.int .i64 0, .int .i64 0, .slice lz 0 lzc, .slice cz 0 czc] 37)) y3.heap.size lz lzc cz czc ⟨0, 0, [], []⟩) := Lib.hid (Mb.born (m := ⟨0, 0, [], []⟩) hZ)
          replace hb := hb.alloc hb.size (.cells #[.int .i64 0, .int .i64 0, .slice lz 0 lzc, .slice cz 0 czc] 37)
          replace hB := Lib.hid (hB.out.trans (hb.mono hB.out.size))
          clear hb hZ hzv C3
          generalize y3.alloc (.cells #[.int .i64 0, .int .i64 0, .slice lz 0 lzc, .slice cz 0 czc] 37) = W6 at *
          generalize y3.heap.size = q6 at *
          have C6 := Lib.hid (rsamem_c hZ1.out.v (me_zero W6))
          rw [show methEq ⟨0, 0, [], []⟩ ⟨0, 0, [], []⟩ = true from meq5 rfl rfl rfl rfl] at C6
          simp only [List.length_nil] at C6
          obtain ⟨z0, z1, z2, z3⟩ := hZ1.out.c
          simp only [List.length_nil] at z0 z1 z2 z3
          go_wp2_with (go_at_call 16; (refine (C6.out).mono ?_); rintro e y5 ⟨rfl, hb⟩)
          go_ret
          exact ⟨rfl, hB.out.trans (hb.mono hB.out.size)⟩
end Wd
end Go.Proofs.YtkodnioheifalaaDoor
