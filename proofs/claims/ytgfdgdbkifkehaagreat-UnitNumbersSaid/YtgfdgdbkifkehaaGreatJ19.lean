/- Texts joined: VM, VN, VA, LB, LR, VB, SLaw, QBase, QCls, QBind, QR. -/
import Derived.Test.YtgfdgdbkifkehaaGreatJ1
import Derived.Test.YtgfdgdbkifkehaaGreatJ2
import Derived.Test.YtgfdgdbkifkehaaGreatJ3
import Derived.Test.YtgfdgdbkifkehaaGreatJ5
import Derived.Lib.Strings
import Derived.Lib.Walk
import Derived.Lib.BufferWrite
import Derived.Lib.UnsafeStr
import Derived.Lib.Hide
import Derived.Laws.MakeOwn
import Derived.Lib.BytesEntry
import Derived.Lib.IndexLaws
import Derived.Lib.CountLaws
import Derived.Deep.DeepCutAuto
/- The landed programs: a text, rows of pairs, a row of bytes, copied. -/
namespace Go.Proofs.YtgfdgdbkifkehaaGreat
open Go.RowKit
set_option linter.unusedVariables false
set_option maxRecDepth 20000
namespace Wd
set_option maxHeartbeats 4000000 in
set_option maxRecDepth 100000 in
theorem clone_c (s : ByteArray) (hlim : s.size ≤ 281474976710656) (w : World) :
    Calls Tryz.prog 97 #[.string s] w fun e w' => e = .returned (.string s) ∧ Below w.heap.size w w' := by
  by_cases h0 : s.size = 0
  · have hs : s = ⟨#[]⟩ := by
      apply ByteArray.ext
      exact Array.eq_empty_of_size_eq_zero h0
    subst hs
    go_enter Tryz.func97, Tryz.ntmps97
    go_wp2
    go_ret
    exact ⟨rfl, Below.refl _ _⟩
  · obtain ⟨i0, hi, hz0, hz1, hz2⟩ := info_parts infoB8
    have hinfo : (Tryz.prog.info? 5).map (·.size) = some 1 := by rw [hi]; simp [hz1]
    have hco : Tryz.prog.cellsOf 5 = 1 := by simp [Program.cellsOf, hi, hz1]
    obtain ⟨M, hM⟩ : ∃ M, M = madeCells (Value.int .u8 0).cells (((s.size : Nat) : Int).toNat * i0.size) := ⟨_, rfl⟩
    have hMs : M.size = s.size := by rw [hM, size_madeCells, hz1]; simp
    have hmk : ∀ W : World, (Instr.makeSlice 48 (.int .i64 (s.size : Int)) (.int .i64 (s.size : Int))).run Tryz.prog W = .ok (.slice (some ⟨W.heap.size, 0, none⟩) s.size s.size) (W.alloc (.cells M 5)) := fun W => by
      have h := run_make (P := Tryz.prog) W 48 5 i0 (.int .u8 0) Tryz.underlying48 hi hz0 .i64 .i64 (s.size : Int) (s.size : Int) (by omega) (by omega) (by rw [hz2]; omega) (by omega)
      rw [← hM] at h
      simpa using h
    clear hM
    have hcp := Lib.run_copy_row_string (P := Tryz.prog) (w.alloc (.cells M 5)) 48 9 3 5 w.heap.size 0 s.size s.size s M 5 Tryz.underlying48 hinfo (heap_alloc_new w _) (Nat.le_refl _) (by omega)
    obtain ⟨Y, hY⟩ : ∃ Y, Y = (M.toList.take 0 ++ Lib.byteCells s.data.toList ++ M.toList.drop (0 + s.size)).toArray := ⟨_, rfl⟩
    rw [← hY] at hcp
    have hYl : Y.toList = Lib.byteCells s.data.toList := by
      rw [hY, List.toList_toArray, List.take_zero, List.nil_append, List.drop_of_length_le (by rw [Array.length_toList]; omega), List.append_nil]
    have hYs : Y.size = s.size := by rw [← Array.length_toList, hYl, Lib.byteCells_length, ← Lib.size_eq]
    have hgY : ((w.alloc (.cells M 5)).setRow w.heap.size Y).heap[w.heap.size]? = some (.cells Y 5 (0, 0)) := setRow_heap _ _ M _ 5 (0, 0) (heap_alloc_new w _)
    have hne : s.data.toList ≠ [] := fun e => h0 (by rw [Lib.size_eq, e]; rfl)
    have hUS := Lib.run_unsafeString_row (P := Tryz.prog) ((w.alloc (.cells M 5)).setRow w.heap.size Y) 130 3 9 5 Tryz.underlying130 hco w.heap.size Y.size (by unfold World.shape?; rw [hgY]) s.data.toList hne (by rw [← Lib.size_eq]; omega) (by rw [← Lib.size_eq]; omega)
      (fun j x hx => Lib.cells_of_row hgY Y.size j _ (by rw [List.take_of_length_le (by rw [Array.length_toList]; exact Nat.le_refl _), hYl]; simp [Lib.byteCells, hx]))
    rw [← Lib.size_eq] at hUS
    clear hY
    go_enter Tryz.func97, Tryz.ntmps97
    go_wp2
    go_ret
    have hb1 : Below w.heap.size w (w.alloc (.cells M 5)) := (Below.refl _ w).alloc (Nat.le_refl _) _
    have hb2 : Below w.heap.size (w.alloc (.cells M 5)) ((w.alloc (.cells M 5)).setRow w.heap.size Y) := ⟨rfl, rfl, rfl, by simp, fun k hk => setRow_other _ _ _ _ (by omega)⟩
    exact ⟨rfl, Lib.below_freeze (hb1.trans hb2) (p := ⟨w.heap.size, 0, none⟩) (Nat.le_refl _) _⟩
theorem uclone_c (s : ByteArray) (hlim : s.size ≤ 140737488355328) (w : World) :
    Calls Tryz.prog 64 #[.string s] w fun e w' => e = .returned (.string s) ∧ Below w.heap.size w w' := by
  have PC := Lib.hid (fun w => clone_c s (by omega) w)
  clear hlim
  go_enter Tryz.func64, Tryz.ntmps64
  go_wp2_with (first | (go_at_call 97; ((with_reducible refine (PC.out _).mono ?_); rintro e1 w2 ⟨rfl, hb⟩)))
  go_ret
  exact ⟨rfl, hb⟩
/-- made of nothing: all of it is new -/
theorem grown_nil {w w' : World} (h : w.grownBy w' none) : Below w.heap.size w w' := ⟨h.os, h.tape, h.output, h.size, fun k hk => h.block k hk (by simp)⟩
theorem infoBnd : (Tryz.prog.info? 53).map (fun i => (i.zero, i.size, i.bytes)) = some (some (.agg #[.int .i64 0, .int .i64 0]), 2, 16) := by kernel_rfl
set_option maxHeartbeats 4000000 in
theorem ucpbind_c {w : World} {v : Value} {L : List (Int × Int)} (h : PrV w v L) (hz : L.length ≤ 8796093022208) :
    Calls Tryz.prog 65 #[v] w fun e w' => ∃ v', e = .returned v' ∧ w'.ownsRow w.heap.size 53 2 v' L.length (pr2 L) ∧ Below w.heap.size w w' := by
  obtain ⟨ad, cap, e, h1, h2, _⟩ := h.ex
  obtain ⟨i0, hi0, hz0, hz1, hz2⟩ := info_parts infoBnd
  have hrd := Lib.hid h.rd
  have hl : Hid ((pr2 L).length = L.length * 2) := Lib.hid (pr2_len L)
  have ho : Hid (∀ u ∈ pr2 L, u.oneCell' = true) := Lib.hid (pr2_one L)
  have hm : L.length ≤ maxLen := Nat.le_trans h1 h2
  clear h e h1 h2
  go_enter Tryz.func65, Tryz.ntmps65
  go_wp2_with (first | (at_builtin; refine wpList_app_any rfl (.const (.slice none 0 0)) (.tmp 3) 43 rfl w.heap.size 53 i0 (.agg #[.int .i64 0, .int .i64 0]) 2 16 Tryz.underlying43 hi0 hz0 hz1 hz2 rfl (by decide) (.slice none 0 0) v 0 L.length [] (pr2 L) (by simp [Act.eval]) (by simp [Act.eval]) (World.ownsRow_nil _ _ _ _) hrd.out hl.out ho.out (by omega) (by omega) (Nat.le_refl _) ?_; intro v' w' hown hgr hat))
  go_ret
  refine ⟨v', rfl, ?_, grown_nil hgr⟩
  rw [Nat.zero_add, List.nil_append] at hown
  exact hown
set_option maxHeartbeats 4000000 in
theorem ucpval_c {w : World} {v : Value} {L : List (Int × Int)} (h : PrV w v L) (hz : L.length ≤ 8796093022208) :
    Calls Tryz.prog 66 #[v] w fun e w' => ∃ v', e = .returned v' ∧ w'.ownsRow w.heap.size 57 2 v' L.length (pr2 L) ∧ Below w.heap.size w w' := by
  obtain ⟨ad, cap, e, h1, h2, _⟩ := h.ex
  obtain ⟨i0, hi0, hz0, hz1, hz2⟩ := info_parts infoVal
  have hrd := Lib.hid h.rd
  have hl : Hid ((pr2 L).length = L.length * 2) := Lib.hid (pr2_len L)
  have ho : Hid (∀ u ∈ pr2 L, u.oneCell' = true) := Lib.hid (pr2_one L)
  have hm : L.length ≤ maxLen := Nat.le_trans h1 h2
  clear h e h1 h2
  go_enter Tryz.func66, Tryz.ntmps66
  go_wp2_with (first | (at_builtin; refine wpList_app_any rfl (.const (.slice none 0 0)) (.tmp 3) 47 rfl w.heap.size 57 i0 (.agg #[.int .i64 0, .int .i64 0]) 2 16 Tryz.underlying47 hi0 hz0 hz1 hz2 rfl (by decide) (.slice none 0 0) v 0 L.length [] (pr2 L) (by simp [Act.eval]) (by simp [Act.eval]) (World.ownsRow_nil _ _ _ _) hrd.out hl.out ho.out (by omega) (by omega) (Nat.le_refl _) ?_; intro v' w' hown hgr hat))
  go_ret
  refine ⟨v', rfl, ?_, grown_nil hgr⟩
  rw [Nat.zero_add, List.nil_append] at hown
  exact hown
set_option maxHeartbeats 4000000 in
theorem ucpbyte_c {w : World} {v : Value} {L : List Int} (h : ByV w v L) (hz : L.length ≤ 140737488355328) :
    Calls Tryz.prog 67 #[v] w fun e w' => ∃ v', e = .returned v' ∧ w'.ownsRow w.heap.size 5 1 v' L.length (bys L) ∧ Below w.heap.size w w' := by
  obtain ⟨ad, cap, e, h1, h2, _⟩ := h.ex
  obtain ⟨i0, hi0, hz0, hz1, hz2⟩ := info_parts infoB8
  have hrd := Lib.hid h.rd
  have hl : Hid ((bys L).length = L.length * 1) := Lib.hid (by simp [bys])
  have ho : Hid (∀ u ∈ bys L, u.oneCell' = true) := Lib.hid (bys_one L)
  have hm : L.length ≤ maxLen := Nat.le_trans h1 h2
  clear h e h1 h2
  go_enter Tryz.func67, Tryz.ntmps67
  go_wp2_with (first | (at_builtin; refine wpList_app_any rfl (.const (.slice none 0 0)) (.tmp 3) 48 rfl w.heap.size 5 i0 (.int .u8 0) 1 1 Tryz.underlying48 hi0 hz0 hz1 hz2 rfl (by decide) (.slice none 0 0) v 0 L.length [] (bys L) (by simp [Act.eval]) (by simp [Act.eval]) (World.ownsRow_nil _ _ _ _) hrd.out hl.out ho.out (by omega) (by omega) (Nat.le_refl _) ?_; intro v' w' hown hgr hat))
  go_ret
  refine ⟨v', rfl, ?_, grown_nil hgr⟩
  rw [Nat.zero_add, List.nil_append] at hown
  exact hown
end Wd
end Go.Proofs.YtgfdgdbkifkehaaGreat

/- A program that is being copied: its box, its rows, the rows inside them. -/
namespace Go.Proofs.YtgfdgdbkifkehaaGreat
open Go.RowKit
set_option linter.unusedVariables false
set_option maxRecDepth 20000
namespace Wd
/-- a row of the call's own -/
structure RwD where
  e : TypeId
  sz : Nat
  v : Value
  n : Nat
  xs : List Value
/-- a box of four rows, and rows inside them, each in blocks of its own -/
structure CU (q : Nat) (wr : World) (r : Nat → RwD) (J : List RwD) (main : Int) : Prop where
  cel : ∀ i, i < 4 → wr.cell? ⟨q, i, none⟩ = some (r i).v
  c4 : wr.cell? ⟨q, 4, none⟩ = some (.int .i64 main)
  fz : ∀ j, wr.frozen? ⟨q, j, none⟩ = false
  own : ∀ i, i < 4 → wr.ownsRow (q + 1) (r i).e (r i).sz (r i).v (r i).n (r i).xs
  apt : ∀ i j, i < 4 → j < 4 → i ≠ j → ∀ k, (r i).v.ownBlock = some k → (r j).v.ownBlock ≠ some k
  inn : ∀ x ∈ J, wr.ownsRow (q + 1) x.e x.sz x.v x.n x.xs ∧ ∀ i, i < 4 → ∀ k, x.v.ownBlock = some k → (r i).v.ownBlock ≠ some k
section
variable {q : Nat} {wr w1 wA w5 : World} {r r' : Nat → RwD} {J K : List RwD} {main : Int}
theorem CU.lt (h : CU q wr r J main) : q < wr.heap.size := World.block_lt_of_cell? _ _ h.c4
theorem CU.up (h : CU q wr r J main) (b : Below wr.heap.size wr w1) : CU q w1 r J main :=
  ⟨fun i hi => cell_up b (h.cel i hi), cell_up b h.c4, fun j => (World.frozen?_of_block (a := ⟨q, j, none⟩) (b.block q h.lt)).trans (h.fz j), fun i hi => row_bel (h.own i hi) b, h.apt, fun x hx => ⟨row_bel (h.inn x hx).1 b, (h.inn x hx).2⟩⟩
/-- a row grows, and what it holds is new rows inside -/
theorem CU.push (h : CU q wA r J main) {i : Nat} (hi : i < 4) {v' : Value} {n' : Nat} {xs' : List Value}
    (hK : ∀ x ∈ K, wA.ownsRow (q + 1) x.e x.sz x.v x.n x.xs ∧ ∀ j, j < 4 → ∀ k, x.v.ownBlock = some k → (r j).v.ownBlock ≠ some k)
    (ho : w5.ownsRow (q + 1) (r i).e (r i).sz v' n' xs') (hg : wA.grownBy w5 (r i).v.ownBlock) (hat : ∀ k, v'.ownBlock = some k → (r i).v.ownBlock = some k ∨ k = wA.heap.size)
    (hr : r' i = ⟨(r i).e, (r i).sz, v', n', xs'⟩) (hro : ∀ j, j < 4 → j ≠ i → r' j = r j) : CU q (w5.setCell ⟨q, i, none⟩ v') r' (J ++ K) main := by
  have hq := h.lt
  have hqr : ∀ j, j < 4 → (r j).v.ownBlock ≠ some q := fun j hj e => by have := ((h.own j hj).lt q e).1; omega
  have hqb : w5.heap[q]? = wA.heap[q]? := hg.block q hq (fun e => hqr i hi e.symm)
  have c5 : Cg (fun k => (r i).v.ownBlock = some k) wA w5 := (Cg.refl (fun k => (r i).v.ownBlock = some k) wA).grown hg (fun k hk => Or.inl hk)
  have hvq : v'.ownBlock ≠ some q := fun e => by have := (ho.lt q e).1; omega
  have old : ∀ {y : RwD}, wA.ownsRow (q + 1) y.e y.sz y.v y.n y.xs → (∀ k, y.v.ownBlock = some k → (r i).v.ownBlock ≠ some k) → (w5.setCell ⟨q, i, none⟩ v').ownsRow (q + 1) y.e y.sz y.v y.n y.xs := fun {y} hy hn =>
    row_set (row_cg hy c5 (fun k hk e => hn k hk e)) _ _ (fun e => by have := (hy.lt q e).1; omega)
  have far : ∀ {y : RwD}, wA.ownsRow (q + 1) y.e y.sz y.v y.n y.xs → (∀ k, y.v.ownBlock = some k → (r i).v.ownBlock ≠ some k) → ∀ k, y.v.ownBlock = some k → v'.ownBlock ≠ some k := fun {y} hy hn k hk e => by
    rcases hat k e with e1 | e1
    · exact hn k hk e1
    · have := (hy.lt k hk).2; omega
  have inn : ∀ x : RwD, (wA.ownsRow (q + 1) x.e x.sz x.v x.n x.xs ∧ ∀ j, j < 4 → ∀ k, x.v.ownBlock = some k → (r j).v.ownBlock ≠ some k) → (w5.setCell ⟨q, i, none⟩ v').ownsRow (q + 1) x.e x.sz x.v x.n x.xs ∧ ∀ j, j < 4 → ∀ k, x.v.ownBlock = some k → (r' j).v.ownBlock ≠ some k := fun x ⟨hx, hd⟩ => by
    refine ⟨old hx (hd i hi), fun j hj k hk => ?_⟩
    by_cases hji : j = i
    · subst hji; rw [hr]; exact far hx (hd j hj) k hk
    · rw [hro j hj hji]; exact hd j hj k hk
  refine ⟨fun j hj => ?_, ?_, fun j => ?_, fun j hj => ?_, fun a b ha hb hab k hk => ?_, fun x hx => ?_⟩
  · by_cases hji : j = i
    · subst hji
      rw [hr]
      exact World.cell?_setCell_same _ _ _ ((World.cell?_of_block (a := ⟨q, j, none⟩) hqb).trans (h.cel j hj))
    · rw [hro j hj hji]
      exact (World.cell?_setCell_other _ _ _ _ (by intro e; injection e with _ h2; exact hji (by first | exact h2 | exact h2.symm))).trans ((World.cell?_of_block (a := ⟨q, j, none⟩) hqb).trans (h.cel j hj))
  · exact (World.cell?_setCell_other _ _ _ _ (by intro e; injection e with _ h2; omega)).trans ((World.cell?_of_block (a := ⟨q, 4, none⟩) hqb).trans h.c4)
  · exact (World.frozen?_setCell _ _ _ _).trans ((World.frozen?_of_block (a := ⟨q, j, none⟩) hqb).trans (h.fz j))
  · by_cases hji : j = i
    · subst hji; rw [hr]; exact row_set ho _ _ hvq
    · rw [hro j hj hji]; exact old (h.own j hj) (h.apt j i hj hi hji)
  · by_cases hai : a = i
    · subst hai
      rw [hr] at hk
      rw [hro b hb (fun e => hab e.symm)]
      intro e
      exact far (h.own b hb) (h.apt b a hb ha (fun e => hab e.symm)) k e hk
    · rw [hro a ha hai] at hk
      by_cases hbi : b = i
      · subst hbi; rw [hr]; exact far (h.own a ha) (h.apt a b ha hb hab) k hk
      · rw [hro b hb hbi]; exact h.apt a b ha hb hab k hk
  · rcases List.mem_append.1 hx with hx | hx
    · exact inn x (h.inn x hx)
    · exact inn x (hK x hx)
/-- .. and nothing below the box changes -/
theorem CU.bel {w : World} (h : CU q wA r J main) (b : Below w.heap.size w wA) (hw : w.heap.size ≤ q) {i : Nat} (hi : i < 4) (hg : wA.grownBy w5 (r i).v.ownBlock) (v' : Value) : Below w.heap.size w (w5.setCell ⟨q, i, none⟩ v') :=
  (b.grown hg b.size (fun k hk => by have := ((h.own i hi).lt k hk).1; omega)).setCell hw _
/-- a box's block below the one that changes -/
theorem CU.low {k : Nat} (h : CU q wA r J main) (hk : k < q) {i : Nat} (hi : i < 4) (hg : wA.grownBy w5 (r i).v.ownBlock) (v' : Value) : (w5.setCell ⟨q, i, none⟩ v').heap[k]? = wA.heap[k]? :=
  (Below.heap_setCell _ _ _ _ (by simp only; omega)).trans (hg.block k (by have := h.lt; omega) (fun e => by have := ((h.own i hi).lt k e.symm).1; omega))
end
/-- the four rows of a program -/
def rws (N : List ByteArray) (T : List (ClassA × Value)) (M : List (MethA × Value × Value)) (O : List (ObjA × Value)) (nv cv mv ov : Value) : Nat → RwD
  | 0 => ⟨9, 1, nv, N.length, strs N⟩
  | 1 => ⟨45, 4, cv, T.length, cl4s T⟩
  | 2 => ⟨50, 4, mv, M.length, mt4s M⟩
  | _ => ⟨55, 2, ov, O.length, ob2s O⟩
def rwB (x : ClassA × Value) : RwD := ⟨53, 2, x.2, x.1.binds.length, pr2 x.1.binds⟩
def rwL (x : MethA × Value × Value) : RwD := ⟨57, 2, x.2.1, x.1.lits.length, pr2 x.1.lits⟩
def rwC (x : MethA × Value × Value) : RwD := ⟨5, 1, x.2.2, x.1.code.length, bys x.1.code⟩
def rwF (x : ObjA × Value) : RwD := ⟨57, 2, x.2, x.1.flds.length, pr2 x.1.flds⟩
abbrev uz5c : Obj := .cells #[.slice none 0 0, .slice none 0 0, .slice none 0 0, .slice none 0 0, .int .i64 0] 27 (0, 0)
/-- as far as the copy is -/
structure CW (w wr : World) (N : List ByteArray) (T : List (ClassA × Value)) (M : List (MethA × Value × Value)) (O : List (ObjA × Value)) (nv cv mv ov x0 x1 x2 x3 : Value) (main : Int) : Prop where
  mk ::
  ex : ∃ J, CU (w.heap.size + 2) wr (rws N T M O nv cv mv ov) J main ∧ (∀ x ∈ T, rwB x ∈ J) ∧ (∀ x ∈ M, rwL x ∈ J ∧ rwC x ∈ J) ∧ (∀ x ∈ O, rwF x ∈ J)
  bel : Below w.heap.size w wr
  ub : wr.heap[w.heap.size]? = some (.cells #[x0, x1, x2, x3, .int .i64 main] 27 (0, 0))
  res : wr.heap[w.heap.size + 1]? = some uz5c
section
variable {w wr w1 wA w5 : World} {N : List ByteArray} {T : List (ClassA × Value)} {M : List (MethA × Value × Value)} {O : List (ObjA × Value)} {nv cv mv ov x0 x1 x2 x3 v' : Value} {main : Int}
theorem CW.up (h : CW w wr N T M O nv cv mv ov x0 x1 x2 x3 main) (b : Below wr.heap.size wr w1) : CW w w1 N T M O nv cv mv ov x0 x1 x2 x3 main := by
  obtain ⟨J, hc, hj⟩ := h.ex
  have hq := hc.lt
  exact ⟨⟨J, hc.up b, hj⟩, h.bel.trans (b.mono h.bel.size), (b.block _ (by omega)).trans h.ub, (b.block _ (by omega)).trans h.res⟩
theorem CW.cells (h : CW w wr N T M O nv cv mv ov x0 x1 x2 x3 main) : wr.cell? ⟨w.heap.size + 2, 0, none⟩ = some nv ∧ wr.cell? ⟨w.heap.size + 2, 1, none⟩ = some cv ∧ wr.cell? ⟨w.heap.size + 2, 2, none⟩ = some mv ∧ wr.cell? ⟨w.heap.size + 2, 3, none⟩ = some ov ∧ wr.cell? ⟨w.heap.size + 2, 4, none⟩ = some (.int .i64 main) := by
  obtain ⟨J, hc, hj⟩ := h.ex
  exact ⟨hc.cel 0 (by decide), hc.cel 1 (by decide), hc.cel 2 (by decide), hc.cel 3 (by decide), hc.c4⟩
theorem CW.fz (h : CW w wr N T M O nv cv mv ov x0 x1 x2 x3 main) (j : Nat) : wr.frozen? ⟨w.heap.size + 2, j, none⟩ = false := by
  obtain ⟨J, hc, hj⟩ := h.ex
  exact hc.fz j
theorem CW.ubs (h : CW w wr N T M O nv cv mv ov x0 x1 x2 x3 main) : wr.cell? ⟨w.heap.size, 0, none⟩ = some x0 ∧ wr.cell? ⟨w.heap.size, 1, none⟩ = some x1 ∧ wr.cell? ⟨w.heap.size, 2, none⟩ = some x2 ∧ wr.cell? ⟨w.heap.size, 3, none⟩ = some x3 ∧ wr.cell? ⟨w.heap.size, 4, none⟩ = some (.int .i64 main) :=
  ⟨cell_in h.ub rfl, cell_in h.ub rfl, cell_in h.ub rfl, cell_in h.ub rfl, cell_in h.ub rfl⟩
theorem CW.sz (h : CW w wr N T M O nv cv mv ov x0 x1 x2 x3 main) : w.heap.size + 3 ≤ wr.heap.size := by
  obtain ⟨J, hc, hj⟩ := h.ex
  have := hc.lt; omega
theorem CW.own0 (h : CW w wr N T M O nv cv mv ov x0 x1 x2 x3 main) : wr.ownsRow (w.heap.size + 2 + 1) 9 1 nv N.length (strs N) := by
  obtain ⟨J, hc, hj⟩ := h.ex
  exact hc.own 0 (by decide)
theorem CW.own1 (h : CW w wr N T M O nv cv mv ov x0 x1 x2 x3 main) : wr.ownsRow (w.heap.size + 2 + 1) 45 4 cv T.length (cl4s T) := by
  obtain ⟨J, hc, hj⟩ := h.ex
  exact hc.own 1 (by decide)
theorem CW.own2 (h : CW w wr N T M O nv cv mv ov x0 x1 x2 x3 main) : wr.ownsRow (w.heap.size + 2 + 1) 50 4 mv M.length (mt4s M) := by
  obtain ⟨J, hc, hj⟩ := h.ex
  exact hc.own 2 (by decide)
theorem CW.own3 (h : CW w wr N T M O nv cv mv ov x0 x1 x2 x3 main) : wr.ownsRow (w.heap.size + 2 + 1) 55 2 ov O.length (ob2s O) := by
  obtain ⟨J, hc, hj⟩ := h.ex
  exact hc.own 3 (by decide)
/-- a new row, made behind wr, is apart from all that is there -/
theorem CW.new {s n sz : Nat} {e : TypeId} {v : Value} {xs : List Value} (h : CW w wr N T M O nv cv mv ov x0 x1 x2 x3 main) (hs : wr.heap.size ≤ s) (ho : wA.ownsRow s e sz v n xs) : wA.ownsRow (w.heap.size + 2 + 1) e sz v n xs ∧ ∀ j, j < 4 → ∀ k, v.ownBlock = some k → (rws N T M O nv cv mv ov j).v.ownBlock ≠ some k := by
  have hz := h.sz
  obtain ⟨J, hc, hj⟩ := h.ex
  refine ⟨?_, fun j hj k hk e => ?_⟩
  · obtain ⟨h1, h2⟩ := ho
    refine ⟨h1, ?_⟩
    rcases h2 with h2 | ⟨g, cap, cur, e, hg, h3⟩
    · exact Or.inl h2
    · exact Or.inr ⟨g, cap, cur, e, by omega, h3⟩
  have h1 := (ho.lt k hk).1
  have h2 := ((hc.own j hj).lt k e).2
  omega
theorem CW.push0 {x : ByteArray} (h : CW w wA N T M O nv cv mv ov x0 x1 x2 x3 main) (ho : w5.ownsRow (w.heap.size + 2 + 1) 9 1 v' (N.length + 1) (strs N ++ strs [x])) (hg : wA.grownBy w5 nv.ownBlock) (hat : ∀ k, v'.ownBlock = some k → nv.ownBlock = some k ∨ k = wA.heap.size) : CW w (w5.setCell ⟨w.heap.size + 2, 0, none⟩ v') (N ++ [x]) T M O v' cv mv ov x0 x1 x2 x3 main := by
  obtain ⟨J, hc, hj⟩ := h.ex
  have hp := hc.push (K := []) (r' := rws (N ++ [x]) T M O v' cv mv ov) (i := 0) (by decide) (fun x hx => by cases hx) ho hg hat (by simp [rws, strs]) (fun j hj hn => by
    match j, hj, hn with
    | 0, _, hn => exact absurd rfl hn
    | 1, _, _ => rfl
    | 2, _, _ => rfl
    | 3, _, _ => rfl)
  rw [List.append_nil] at hp
  exact ⟨⟨J, hp, hj⟩, hc.bel h.bel (by omega) (i := 0) (by decide) hg v', (hc.low (by omega) (i := 0) (by decide) hg v').trans h.ub, (hc.low (by omega) (i := 0) (by decide) hg v').trans h.res⟩
theorem CW.push1 {x : ClassA × Value} (h : CW w wA N T M O nv cv mv ov x0 x1 x2 x3 main) (hx : wA.ownsRow (w.heap.size + 2 + 1) 53 2 x.2 x.1.binds.length (pr2 x.1.binds) ∧ ∀ j, j < 4 → ∀ k, x.2.ownBlock = some k → (rws N T M O nv cv mv ov j).v.ownBlock ≠ some k) (ho : w5.ownsRow (w.heap.size + 2 + 1) 45 4 v' (T.length + 1) (cl4s T ++ cl4s [x])) (hg : wA.grownBy w5 cv.ownBlock) (hat : ∀ k, v'.ownBlock = some k → cv.ownBlock = some k ∨ k = wA.heap.size) : CW w (w5.setCell ⟨w.heap.size + 2, 1, none⟩ v') N (T ++ [x]) M O nv v' mv ov x0 x1 x2 x3 main := by
  obtain ⟨J, hc, h1, h2, h3⟩ := h.ex
  have hp := hc.push (K := [rwB x]) (r' := rws N (T ++ [x]) M O nv v' mv ov) (i := 1) (by decide) (fun y hy => by rw [List.mem_singleton.1 hy]; exact hx) ho hg hat (by simp [rws, cl4s_app]) (fun j hj hn => by
    match j, hj, hn with
    | 0, _, _ => rfl
    | 1, _, hn => exact absurd rfl hn
    | 2, _, _ => rfl
    | 3, _, _ => rfl)
  exact ⟨⟨J ++ [rwB x], hp, fun y hy => (List.mem_append.1 hy).elim (fun m => List.mem_append_left _ (h1 y m)) (fun m => by rw [List.mem_singleton.1 m]; simp), fun y hy => ⟨List.mem_append_left _ (h2 y hy).1, List.mem_append_left _ (h2 y hy).2⟩, fun y hy => List.mem_append_left _ (h3 y hy)⟩, hc.bel h.bel (by omega) (i := 1) (by decide) hg v', (hc.low (by omega) (i := 1) (by decide) hg v').trans h.ub, (hc.low (by omega) (i := 1) (by decide) hg v').trans h.res⟩
theorem CW.push2 {x : MethA × Value × Value} (h : CW w wA N T M O nv cv mv ov x0 x1 x2 x3 main) (hx : wA.ownsRow (w.heap.size + 2 + 1) 57 2 x.2.1 x.1.lits.length (pr2 x.1.lits) ∧ ∀ j, j < 4 → ∀ k, x.2.1.ownBlock = some k → (rws N T M O nv cv mv ov j).v.ownBlock ≠ some k) (hy : wA.ownsRow (w.heap.size + 2 + 1) 5 1 x.2.2 x.1.code.length (bys x.1.code) ∧ ∀ j, j < 4 → ∀ k, x.2.2.ownBlock = some k → (rws N T M O nv cv mv ov j).v.ownBlock ≠ some k) (ho : w5.ownsRow (w.heap.size + 2 + 1) 50 4 v' (M.length + 1) (mt4s M ++ mt4s [x])) (hg : wA.grownBy w5 mv.ownBlock) (hat : ∀ k, v'.ownBlock = some k → mv.ownBlock = some k ∨ k = wA.heap.size) : CW w (w5.setCell ⟨w.heap.size + 2, 2, none⟩ v') N T (M ++ [x]) O nv cv v' ov x0 x1 x2 x3 main := by
  obtain ⟨J, hc, h1, h2, h3⟩ := h.ex
  have hp := hc.push (K := [rwL x, rwC x]) (r' := rws N T (M ++ [x]) O nv cv v' ov) (i := 2) (by decide) (fun y hy2 => by
    rcases List.mem_cons.1 hy2 with rfl | hy2
    · exact hx
    · rw [List.mem_singleton.1 hy2]; exact hy) ho hg hat (by simp [rws, mt4s_app]) (fun j hj hn => by
    match j, hj, hn with
    | 0, _, _ => rfl
    | 1, _, _ => rfl
    | 2, _, hn => exact absurd rfl hn
    | 3, _, _ => rfl)
  exact ⟨⟨J ++ [rwL x, rwC x], hp, fun y hy => List.mem_append_left _ (h1 y hy), fun y hy => (List.mem_append.1 hy).elim (fun m => ⟨List.mem_append_left _ (h2 y m).1, List.mem_append_left _ (h2 y m).2⟩) (fun m => by rw [List.mem_singleton.1 m]; simp), fun y hy => List.mem_append_left _ (h3 y hy)⟩, hc.bel h.bel (by omega) (i := 2) (by decide) hg v', (hc.low (by omega) (i := 2) (by decide) hg v').trans h.ub, (hc.low (by omega) (i := 2) (by decide) hg v').trans h.res⟩
theorem CW.push3 {x : ObjA × Value} (h : CW w wA N T M O nv cv mv ov x0 x1 x2 x3 main) (hx : wA.ownsRow (w.heap.size + 2 + 1) 57 2 x.2 x.1.flds.length (pr2 x.1.flds) ∧ ∀ j, j < 4 → ∀ k, x.2.ownBlock = some k → (rws N T M O nv cv mv ov j).v.ownBlock ≠ some k) (ho : w5.ownsRow (w.heap.size + 2 + 1) 55 2 v' (O.length + 1) (ob2s O ++ ob2s [x])) (hg : wA.grownBy w5 ov.ownBlock) (hat : ∀ k, v'.ownBlock = some k → ov.ownBlock = some k ∨ k = wA.heap.size) : CW w (w5.setCell ⟨w.heap.size + 2, 3, none⟩ v') N T M (O ++ [x]) nv cv mv v' x0 x1 x2 x3 main := by
  obtain ⟨J, hc, h1, h2, h3⟩ := h.ex
  have hp := hc.push (K := [rwF x]) (r' := rws N T M (O ++ [x]) nv cv mv v') (i := 3) (by decide) (fun y hy => by rw [List.mem_singleton.1 hy]; exact hx) ho hg hat (by simp [rws, ob2s_app]) (fun j hj hn => by
    match j, hj, hn with
    | 0, _, _ => rfl
    | 1, _, _ => rfl
    | 2, _, _ => rfl
    | 3, _, hn => exact absurd rfl hn)
  exact ⟨⟨J ++ [rwF x], hp, fun y hy => List.mem_append_left _ (h1 y hy), fun y hy => ⟨List.mem_append_left _ (h2 y hy).1, List.mem_append_left _ (h2 y hy).2⟩, fun y hy => (List.mem_append.1 hy).elim (fun m => List.mem_append_left _ (h3 y m)) (fun m => by rw [List.mem_singleton.1 m]; simp)⟩, hc.bel h.bel (by omega) (i := 3) (by decide) hg v', (hc.low (by omega) (i := 3) (by decide) hg v').trans h.ub, (hc.low (by omega) (i := 3) (by decide) hg v').trans h.res⟩
end
end Wd
end Go.Proofs.YtgfdgdbkifkehaaGreat

/- The landed programs: one of so many, how much of each, a value, fields, the class of an object. -/
namespace Go.Proofs.YtgfdgdbkifkehaaGreat
open Go.RowKit
set_option linter.unusedVariables false
set_option maxRecDepth 20000
namespace Wd
theorem uisOne_c (x n : Int) (w : World) : Calls Tryz.prog 23 #[.int .i64 x, .int .i64 n] w fun e w' => e = .returned (.bool (decide (0 ≤ x) && decide (x < n))) ∧ w' = w := by
  by_cases h : 0 ≤ x
  · have d1 : decide (x ≥ 0) = true := by simpa using h
    rw [decide_eq_true h]
    go_enter Tryz.func23, Tryz.ntmps23
    go_wp2
    go_ret
    exact ⟨rfl, rfl⟩
  · have d1 : decide (x ≥ 0) = false := by simpa using h
    rw [decide_eq_false h]
    go_enter Tryz.func23, Tryz.ntmps23
    go_wp2
    go_ret
    exact ⟨rfl, rfl⟩
set_option maxHeartbeats 8000000 in
theorem uval_c (kx x : Int) (no : Nat) (w : World) : Calls Tryz.prog 85 #[.agg #[.int .i64 kx, .int .i64 x], .int .i64 (no : Int)] w fun e w' => e = .returned (.bool (fldOk (kx, x) no)) ∧ Below w.heap.size w w' := by
  have hB := Lib.hid ((Below.refl w.heap.size w).alloc (Nat.le_refl _) (.cells #[.int .i64 kx, .int .i64 x] 57))
  by_cases k012 : kx = 0 ∨ kx = 1 ∨ kx = 2
  · have ef := Lib.hid (fld_012 (x := x) no k012)
    generalize fldOk (kx, x) no = r at *
    rcases k012 with rfl | rfl | rfl <;> (
      go_enter Tryz.func85, Tryz.ntmps85
      go_wp2
      go_ret
      exact ⟨congrArg (fun b => Ending.returned (Value.bool b)) ef.out.symm, hB.out⟩)
  by_cases k3 : kx = 3
  · subst k3
    clear k012
    have ef := Lib.hid (fld_3 x no)
    generalize fldOk (3, x) no = r at *
    unfold num30 at ef
    by_cases h : -1073741824 ≤ x
    · have d1 : decide (x ≥ -1073741824) = true := by simpa using h
      rw [decide_eq_true h, Bool.true_and] at ef
      go_enter Tryz.func85, Tryz.ntmps85
      go_wp2
      go_ret
      exact ⟨congrArg (fun b => Ending.returned (Value.bool b)) ef.out.symm, hB.out⟩
    · have d1 : decide (x ≥ -1073741824) = false := by simpa using h
      rw [decide_eq_false h, Bool.false_and] at ef
      go_enter Tryz.func85, Tryz.ntmps85
      go_wp2
      go_ret
      exact ⟨congrArg (fun b => Ending.returned (Value.bool b)) ef.out.symm, hB.out⟩
  by_cases k4 : kx = 4
  · subst k4
    clear k012 k3
    have ef := Lib.hid (fld_4 x no)
    generalize fldOk (4, x) no = r at *
    unfold inN at ef
    have PI := Lib.hid (uisOne_c x (no : Int))
    go_enter Tryz.func85, Tryz.ntmps85
    go_wp2_with (first | (go_at_call 23; ((with_reducible refine (PI.out _).mono ?_); rintro e1 w2 ⟨rfl, hw2⟩; subst w2)))
    go_ret
    exact ⟨congrArg (fun b => Ending.returned (Value.bool b)) ef.out.symm, hB.out⟩
  have ef := Lib.hid (fld_no (x := x) no k012 k3 k4)
  have f0 : (kx == 0) = false := by rw [beq_eq_false_iff_ne]; exact fun h => k012 (Or.inl h)
  have f1 : (kx == 1) = false := by rw [beq_eq_false_iff_ne]; exact fun h => k012 (Or.inr (Or.inl h))
  have f2 : (kx == 2) = false := by rw [beq_eq_false_iff_ne]; exact fun h => k012 (Or.inr (Or.inr h))
  have f3 : (kx == 3) = false := by simpa using k3
  have f4 : (kx == 4) = false := by simpa using k4
  generalize fldOk (kx, x) no = r at *
  clear k012 k3 k4
  go_enter Tryz.func85, Tryz.ntmps85
  go_wp2
  go_ret
  exact ⟨congrArg (fun b => Ending.returned (Value.bool b)) ef.out.symm, hB.out⟩
set_option maxHeartbeats 8000000 in
theorem ufields_c {w : World} {v : Value} {L : List (Int × Int)} (h : PrV w v L) (no : Nat) : Calls Tryz.prog 51 #[v, .int .i64 (no : Int)] w fun e w' => e = .returned (.bool (L.all (fldOk · no))) ∧ Below w.heap.size w w' := by
  obtain ⟨ad, cap, rfl, hc1, hc2⟩ := h.form
  have hle := len_le (Nat.le_trans hc1 hc2)
  obtain ⟨n, hn⟩ : ∃ n, n = L.length := ⟨_, rfl⟩
  have hn' := Lib.hid hn
  rw [← hn] at h hle ⊢
  replace h := Lib.hid h
  have hst := Lib.hid (FdR.start L no)
  clear hn hc1 hc2
  go_enter Tryz.func51, Tryz.ntmps51
  go_wp2
  go_loopw [9] (fun i9 wr => ∃ (j : Nat), j ≤ n ∧ i9 = .int .i64 j ∧ Hid (FdR L no j) ∧ Hid (Below w.heap.size w wr)) (fun i9 _ => n - (intOf i9).toNat)
  case atStart => exact ⟨0, by omega, rfl, hst, Lib.hid (Below.refl _ _)⟩
  case round =>
    clear hst
    obtain ⟨j, hj, rfl, hR, hB⟩ := hrel
    by_cases hlt : j < n
    · have hlt' : decide ((j : Int) < (n : Int)) = true := by simp; omega
      have p0 : (0 : Int) ≤ (j : Int) := by omega
      have p1 : (j : Int) < (n : Int) := by omega
      obtain ⟨⟨kx, x⟩, hx⟩ : ∃ x, L[j]? = some x := ⟨L[j]'(by have := hn'.out; omega), by simp⟩
      obtain ⟨_, _, g, off, rfl, c0, c1⟩ := PrV.at (h.out.up hB.out) hx
      simp only at c0 c1
      have hx' := Lib.hid hx
      have hB2 := Lib.hid (hB.out.alloc hB.out.size (.cells #[.int .i64 kx, .int .i64 x] 57))
      have PV := Lib.hid (uval_c kx x no)
      clear hx hlt
      cases hv : fldOk (kx, x) no with
      | true =>
        have hR' := Lib.hid (hR.out.step hx'.out hv)
        rw [hv] at PV
        clear hv
        go_wp2_with (first | (go_at_call 85; ((with_reducible refine (PV.out _).mono ?_); rintro e1 w2 ⟨rfl, hb⟩)))
        go_roundw
        case rel => exact ⟨j + 1, by omega, by go_num, hR', Lib.hid (hB2.out.trans (hb.mono hB2.out.size))⟩
        case measure => simp [intOf]; omega
      | false =>
        have e := Lib.hid (fd_bad hx'.out hv)
        rw [hv] at PV
        clear hv
        go_wp2_with (first | (go_at_call 85; ((with_reducible refine (PV.out _).mono ?_); rintro e1 w2 ⟨rfl, hb⟩)))
        go_ret
        exact ⟨congrArg (fun b => Ending.returned (Value.bool b)) e.out.symm, hB2.out.trans (hb.mono hB2.out.size)⟩
    · have e : Hid (L.all (fldOk · no) = true) := Lib.hid (FdR.last (by have := hR.out; rw [show j = L.length by have := hn'.out; omega] at this; exact this))
      have hlt' : decide ((j : Int) < (n : Int)) = false := by simp; omega
      go_wp2
      go_ret
      exact ⟨congrArg (fun b => Ending.returned (Value.bool b)) e.out.symm, hB.out⟩
end Wd
end Go.Proofs.YtgfdgdbkifkehaaGreat

/- The landed names: letters, digits, signs; words and rows of signs. -/
namespace Go.Proofs.YtgfdgdbkifkehaaGreat
open Go.RowKit
set_option linter.unusedVariables false
set_option maxRecDepth 20000
namespace Wd
theorem slib_c (s : ByteArray) (c : Int) (w : World) :
    Calls Tryz.prog 118 #[.string s, .int .u8 c] w fun e w' => e = .returned (.int .i64 (Lib.indexByte s.data.toList c.toNat.toUInt8)) ∧ w' = w := by
  go_enter Tryz.func118, Tryz.ntmps118
  go_wp2
  rw [run_callFunc_extern Tryz.func120 (by kernel_rfl) (by kernel_rfl) (by kernel_rfl) (e := Extern.BytealgIndexByte.indexByte) (by kernel_rfl), Lib.run_indexByteString]
  simp only [Result.andThen]
  rw [Oper.upon_value]
  go_wp2
  go_ret
  exact ⟨rfl, rfl⟩
theorem sib_c (s : ByteArray) (c : Int) (w : World) :
    Calls Tryz.prog 109 #[.string s, .int .u8 c] w fun e w' => e = .returned (.int .i64 (Lib.indexByte s.data.toList c.toNat.toUInt8)) ∧ w' = w := by
  have P := slib_c s c w
  go_enter Tryz.func109, Tryz.ntmps109
  go_wp2_with fail
  refine P.mono ?_
  rintro e w1 ⟨rfl, hw⟩
  subst w1
  clear P
  go_wp2
  go_ret
  exact ⟨rfl, rfl⟩
def sgnB : ByteArray := ⟨#[43, 45, 42, 47, 60, 62, 61, 126, 38, 124, 37]⟩
def sgB (x : UInt8) : Bool := inR x.toNat sgnB
def ltB (x : UInt8) : Bool := letterR x.toNat
def dgB (x : UInt8) : Bool := decide (48 ≤ x.toNat ∧ x.toNat ≤ 57)
def okB (x : UInt8) : Bool := ltB x || dgB x || decide (x.toNat = 58)
theorem index_in (l : List UInt8) (x : UInt8) : decide (0 ≤ Lib.indexByte l x) = l.any fun y => y.toNat == x.toNat := by
  have hge := Lib.indexByte_ge l x
  by_cases h : 0 ≤ Lib.indexByte l x
  · obtain ⟨o, ho⟩ : ∃ o : Nat, Lib.indexByte l x = o := ⟨(Lib.indexByte l x).toNat, by omega⟩
    rw [decide_eq_true h]
    have := (Lib.indexByte_some ho).1
    exact (List.any_eq_true.2 ⟨x, List.mem_of_getElem? this, by simp⟩).symm
  · have h1 : Lib.indexByte l x = -1 := by omega
    rw [decide_eq_false h]
    symm
    rw [List.any_eq_false]
    intro y hy
    have e : ¬ y = x := by
      rintro rfl
      obtain ⟨k, hk⟩ := List.getElem?_of_mem hy
      exact Lib.indexByte_none h1 k hk
    intro h2
    exact e (UInt8.toNat_inj.1 (by simpa using h2))
theorem sign_c (x : UInt8) (w : World) :
    Calls Tryz.prog 100 #[.int .u8 (x.toNat : Nat)] w fun e w' => e = .returned (.bool (sgB x)) ∧ w' = w := by
  have P := sib_c ⟨#[43, 45, 42, 47, 60, 62, 61, 126, 38, 124, 37]⟩ (x.toNat : Nat) w
  have hi : decide (0 ≤ Lib.indexByte [43, 45, 42, 47, 60, 62, 61, 126, 38, 124, 37] x) = sgB x := index_in _ x
  rw [show ((x.toNat : Nat) : Int).toNat.toUInt8 = x by simp] at P
  change Calls _ _ _ _ (fun e w' => e = .returned (.int .i64 (Lib.indexByte [43, 45, 42, 47, 60, 62, 61, 126, 38, 124, 37] x)) ∧ w' = w) at P
  generalize Lib.indexByte [43, 45, 42, 47, 60, 62, 61, 126, 38, 124, 37] x = i at *
  generalize sgB x = b at *
  generalize ((x.toNat : Nat) : Int) = xi at *
  go_enter Tryz.func100, Tryz.ntmps100
  go_wp2_with fail
  refine P.mono ?_
  rintro e w1 ⟨rfl, hw⟩
  subst w1
  clear P
  go_wp2
  go_ret
  exact ⟨rfl, rfl⟩
theorem let_c (x : UInt8) (w : World) :
    Calls Tryz.prog 98 #[.int .u8 (x.toNat : Nat)] w fun e w' => e = .returned (.bool (ltB x)) ∧ w' = w := by
  unfold ltB letterR
  generalize x.toNat = c
  by_cases h1 : 97 ≤ c <;> by_cases h2 : c ≤ 122 <;> by_cases h3 : 65 ≤ c <;> by_cases h4 : c ≤ 90 <;> (try omega) <;> (
    have h1' : decide ((97 : Int) ≤ (c : Int)) = decide (97 ≤ c) := by simp <;> omega
    have h2' : decide ((c : Int) ≤ 122) = decide (c ≤ 122) := by simp <;> omega
    have h3' : decide ((65 : Int) ≤ (c : Int)) = decide (65 ≤ c) := by simp <;> omega
    have h4' : decide ((c : Int) ≤ 90) = decide (c ≤ 90) := by simp <;> omega
    simp only [h1, h2, h3, h4] at *
    go_enter Tryz.func98, Tryz.ntmps98
    go_wp2
    go_ret
    exact ⟨rfl, rfl⟩)
theorem dig_c (x : UInt8) (w : World) :
    Calls Tryz.prog 99 #[.int .u8 (x.toNat : Nat)] w fun e w' => e = .returned (.bool (dgB x)) ∧ w' = w := by
  unfold dgB
  generalize x.toNat = c
  by_cases h1 : 48 ≤ c <;> by_cases h2 : c ≤ 57 <;> (try omega) <;> (
    have h1' : decide ((48 : Int) ≤ (c : Int)) = decide (48 ≤ c) := by simp <;> omega
    have h2' : decide ((c : Int) ≤ 57) = decide (c ≤ 57) := by simp <;> omega
    simp only [h1, h2] at *
    go_enter Tryz.func99, Tryz.ntmps99
    go_wp2
    go_ret
    exact ⟨rfl, rfl⟩)
/-- so far: each is of the kind -/
def AllB (p : UInt8 → Bool) (b : ByteArray) (k : Nat) : Prop := ∀ j, j < k → ∀ x, b.data.toList[j]? = some x → p x = true
theorem AllB.start (p : UInt8 → Bool) (b : ByteArray) : AllB p b 0 := fun j hj => by omega
section
variable {p : UInt8 → Bool} {b : ByteArray} {k : Nat}
theorem AllB.step (h : AllB p b k) (hk : k < b.size) (e : p b[k] = true) : AllB p b (k + 1) := by
  intro j hj x hx
  rcases (show j < k ∨ j = k by omega) with hj | rfl
  · exact h j hj x hx
  · rw [ba_at hk] at hx; cases hx; exact e
theorem AllB.last (h : AllB p b k) (hk : ¬ k < b.size) : b.data.toList.all p = true := by
  rw [List.all_eq_true]
  intro x hx
  obtain ⟨j, hj⟩ := List.getElem?_of_mem hx
  have hl := (List.getElem?_eq_some_iff.1 hj).1
  have hs : b.data.toList.length = b.size := Array.length_toList
  exact h j (by omega) x hj
theorem all_bad (hk : k < b.size) (e : p b[k] = false) : b.data.toList.all p = false := by
  rw [List.all_eq_false]
  exact ⟨b[k], List.mem_of_getElem? (ba_at hk), by rw [e]; decide⟩
end
def headB (p : UInt8 → Bool) (b : ByteArray) : Bool := match b.data.toList with | [] => false | x :: _ => p x
theorem headB_eq {b : ByteArray} (p : UInt8 → Bool) (h : 0 < b.size) : headB p b = p b[0] := by
  have := ba_at h
  unfold headB
  cases hL : b.data.toList with
  | nil => rw [hL] at this; simp at this
  | cons x R => rw [hL] at this; simp at this; simp [this]
def wordB (b : ByteArray) : Bool := headB ltB b && b.data.toList.all okB
def signsB (b : ByteArray) : Bool := b.data.toList.all sgB && decide (b.size ≤ 2)
set_option maxHeartbeats 4000000 in
theorem word_c (b : ByteArray) (h1 : 1 ≤ b.size) (h16 : b.size ≤ 16) (w : World) :
    Calls Tryz.prog 71 #[.string b] w fun e w' => e = .returned (.bool (wordB b)) ∧ w' = w := by
  have hst := Lib.hid (AllB.start okB b)
  have h0 : 0 < b.size := h1
  have P0 := Lib.hid (let_c b[0])
  cases hl : ltB b[0] with
  | false =>
    have hr : Hid (wordB b = false) := Lib.hid (by unfold wordB; rw [headB_eq _ h0, hl, Bool.false_and])
    rw [hl] at P0
    clear hl hst
    go_enter Tryz.func71, Tryz.ntmps71
    go_wp2_with (first | (go_at_call 98; ((with_reducible refine (P0.out _).mono ?_); rintro e1 w2 ⟨rfl, hw2⟩; subst w2)))
    go_ret
    exact ⟨congrArg (fun b => Ending.returned (Value.bool b)) hr.out.symm, rfl⟩
  | true =>
    have hhd : Hid (headB ltB b = true) := Lib.hid (by rw [headB_eq _ h0, hl])
    rw [hl] at P0
    clear hl
    go_enter Tryz.func71, Tryz.ntmps71
    go_wp2_with (first | (go_at_call 98; ((with_reducible refine (P0.out _).mono ?_); rintro e1 w2 ⟨rfl, hw2⟩; subst w2)))
    clear P0
    go_loopw [11] (fun i wr => ∃ (k : Nat), k ≤ b.size ∧ i = .int .i64 k ∧ Hid (AllB okB b k) ∧ wr = w) (fun i _ => b.size - (intOf i).toNat)
    case atStart => exact ⟨0, by omega, rfl, hst, rfl⟩
    case round =>
      obtain ⟨k, hk, rfl, hA, rfl⟩ := hrel
      by_cases h : k < b.size
      · have h' : (k : Int) < (b.size : Int) := by omega
        have PL := Lib.hid (let_c b[k])
        have PD := Lib.hid (dig_c b[k])
        by_cases hok : okB b[k] = true
        · have hA' := Lib.hid (hA.out.step h hok)
          unfold okB at hok
          cases hl : ltB b[k] with
          | true =>
            rw [hl] at PL
            clear hok hl
            go_wp2_with (first | (go_at_call 98; ((with_reducible refine (PL.out _).mono ?_); rintro e1 w2 ⟨rfl, hw2⟩; subst w2)) | (go_at_call 99; ((with_reducible refine (PD.out _).mono ?_); rintro e1 w2 ⟨rfl, hw2⟩; subst w2)))
            go_roundw
            case rel => exact ⟨k + 1, by omega, by go_num, hA', trivial⟩
            case measure => simp [intOf]; omega
          | false =>
            rw [hl] at PL
            cases hd : dgB b[k] with
            | true =>
              rw [hd] at PD
              clear hok hl hd
              go_wp2_with (first | (go_at_call 98; ((with_reducible refine (PL.out _).mono ?_); rintro e1 w2 ⟨rfl, hw2⟩; subst w2)) | (go_at_call 99; ((with_reducible refine (PD.out _).mono ?_); rintro e1 w2 ⟨rfl, hw2⟩; subst w2)))
              go_roundw
              case rel => exact ⟨k + 1, by omega, by go_num, hA', trivial⟩
              case measure => simp [intOf]; omega
            | false =>
              rw [hd] at PD
              rw [hl, hd] at hok
              have hx : b[k].toNat = 58 := by simpa using hok
              have hx' : ((b[k].toNat : Int) == 58) = true := by simp [hx]
              have hx2 : ((b[k].toNat : Int) != 58) = false := by simp [hx]
              clear hok hl hd hx
              go_wp2_with (first | (go_at_call 98; ((with_reducible refine (PL.out _).mono ?_); rintro e1 w2 ⟨rfl, hw2⟩; subst w2)) | (go_at_call 99; ((with_reducible refine (PD.out _).mono ?_); rintro e1 w2 ⟨rfl, hw2⟩; subst w2)))
              go_roundw
              case rel => exact ⟨k + 1, by omega, by go_num, hA', trivial⟩
              case measure => simp [intOf]; omega
        · rw [Bool.not_eq_true] at hok
          have hr : Hid (wordB b = false) := Lib.hid (by unfold wordB; rw [all_bad h hok, Bool.and_false])
          unfold okB at hok
          rw [Bool.or_eq_false_iff, Bool.or_eq_false_iff] at hok
          obtain ⟨⟨hl, hd⟩, hx⟩ := hok
          have hx0 : ¬ b[k].toNat = 58 := by simpa using hx
          have hx' : ((b[k].toNat : Int) == 58) = false := by rw [beq_eq_false_iff_ne]; omega
          have hx2 : ((b[k].toNat : Int) != 58) = true := by rw [bne_iff_ne]; omega
          rw [hl] at PL
          rw [hd] at PD
          clear hl hd hx hx0
          go_wp2_with (first | (go_at_call 98; ((with_reducible refine (PL.out _).mono ?_); rintro e1 w2 ⟨rfl, hw2⟩; subst w2)) | (go_at_call 99; ((with_reducible refine (PD.out _).mono ?_); rintro e1 w2 ⟨rfl, hw2⟩; subst w2)))
          go_ret
          exact ⟨congrArg (fun b => Ending.returned (Value.bool b)) hr.out.symm, rfl⟩
      · have hr : Hid (wordB b = true) := Lib.hid (by unfold wordB; rw [hA.out.last h, hhd.out]; rfl)
        have h' : ¬ (k : Int) < (b.size : Int) := by omega
        go_wp2
        go_ret
        exact ⟨congrArg (fun b => Ending.returned (Value.bool b)) hr.out.symm, rfl⟩
set_option maxHeartbeats 4000000 in
theorem signs_c (b : ByteArray) (h16 : b.size ≤ 16) (w : World) :
    Calls Tryz.prog 72 #[.string b] w fun e w' => e = .returned (.bool (signsB b)) ∧ w' = w := by
  have hst := Lib.hid (AllB.start sgB b)
  go_enter Tryz.func72, Tryz.ntmps72
  go_wp2
  go_loopw [6] (fun i wr => ∃ (k : Nat), k ≤ b.size ∧ i = .int .i64 k ∧ Hid (AllB sgB b k) ∧ wr = w) (fun i _ => b.size - (intOf i).toNat)
  case atStart => exact ⟨0, by omega, rfl, hst, rfl⟩
  case round =>
    obtain ⟨k, hk, rfl, hA, rfl⟩ := hrel
    by_cases h : k < b.size
    · have h' : (k : Int) < (b.size : Int) := by omega
      have PS := Lib.hid (sign_c b[k])
      cases hs : sgB b[k] with
      | true =>
        have hA' := Lib.hid (hA.out.step h hs)
        rw [hs] at PS
        clear hs
        go_wp2_with (first | (go_at_call 100; ((with_reducible refine (PS.out _).mono ?_); rintro e1 w2 ⟨rfl, hw2⟩; subst w2)))
        go_roundw
        case rel => exact ⟨k + 1, by omega, by go_num, hA', trivial⟩
        case measure => simp [intOf]; omega
      | false =>
        have hr : Hid (signsB b = false) := Lib.hid (by unfold signsB; rw [all_bad h hs, Bool.false_and])
        rw [hs] at PS
        clear hs
        go_wp2_with (first | (go_at_call 100; ((with_reducible refine (PS.out _).mono ?_); rintro e1 w2 ⟨rfl, hw2⟩; subst w2)))
        go_ret
        exact ⟨congrArg (fun b => Ending.returned (Value.bool b)) hr.out.symm, rfl⟩
    · have h' : ¬ (k : Int) < (b.size : Int) := by omega
      have hr : Hid (signsB b = decide ((b.size : Int) ≤ 2)) := Lib.hid (by unfold signsB; rw [hA.out.last h, Bool.true_and]; exact decide_eq_decide.2 (by omega))
      go_wp2
      go_ret
      exact ⟨congrArg (fun b => Ending.returned (Value.bool b)) hr.out.symm, rfl⟩
end Wd
end Go.Proofs.YtgfdgdbkifkehaaGreat

/- The landed names: which are right, how many arguments they take. -/
namespace Go.Proofs.YtgfdgdbkifkehaaGreat
open Go.RowKit
set_option linter.unusedVariables false
set_option maxRecDepth 20000
namespace Wd
theorem sg_ok {x : UInt8} (h : sgB x = true) : okB x = false := by
  have key : ∀ n, n < 256 → inR n sgnB = true → (letterR n || decide (48 ≤ n ∧ n ≤ 57) || decide (n = 58)) = false := by decide
  exact key x.toNat x.toNat_lt h
theorem from_in : ∀ (L : List UInt8) (i s c : Nat), 0 < i → argsFrom L i s c = if L.all (fun x => sgB x || okB x) = true then some (s + L.countP sgB, c + L.count 58) else none
  | [], i, s, c, h => by simp [argsFrom]
  | x :: L, i, s, c, h => by
    rw [argsFrom]
    by_cases hs : sgB x = true
    · have h58 : ¬ x = 58 := by rintro rfl; exact absurd hs (by decide)
      have hs' : inR x.toNat ⟨#[43, 45, 42, 47, 60, 62, 61, 126, 38, 124, 37]⟩ = true := hs
      rw [if_pos hs', from_in L (i + 1) (s + 1) c (by omega)]
      have e1 : (x :: L).countP sgB = L.countP sgB + 1 := List.countP_cons_of_pos hs
      have e2 : (x :: L).count 58 = L.count 58 := List.count_cons_of_ne h58
      rw [e1, e2, List.all_cons, hs, Bool.true_or, Bool.true_and, show s + 1 + L.countP sgB = s + (L.countP sgB + 1) by omega]
    · have hs' : ¬ inR x.toNat ⟨#[43, 45, 42, 47, 60, 62, 61, 126, 38, 124, 37]⟩ = true := hs
      rw [if_neg hs']
      rw [Bool.not_eq_true] at hs
      by_cases h58 : x.toNat = 58
      · have e : x = 58 := UInt8.toNat_inj.1 h58
        have ho : okB x = true := by rw [e]; decide
        rw [if_pos ⟨h58, h⟩, from_in L (i + 1) s (c + 1) (by omega)]
        have e1 : (x :: L).countP sgB = L.countP sgB := List.countP_cons_of_neg (by rw [hs]; decide)
        have e2 : (x :: L).count 58 = L.count 58 + 1 := by rw [e]; exact List.count_cons_self
        rw [e1, e2, List.all_cons, ho, Bool.or_true, Bool.true_and, show c + 1 + L.count 58 = c + (L.count 58 + 1) by omega]
      · have h58' : ¬ x = 58 := fun e => h58 (by rw [e]; rfl)
        rw [if_neg (fun h => h58 h.1)]
        by_cases hk : letterR x.toNat = true ∨ 0 < i ∧ 48 ≤ x.toNat ∧ x.toNat ≤ 57
        · have ho : okB x = true := by
            unfold okB ltB dgB
            rcases hk with hk | hk
            · rw [hk]; rfl
            · rw [decide_eq_true hk.2]; simp
          rw [if_pos hk, from_in L (i + 1) s c (by omega)]
          have e1 : (x :: L).countP sgB = L.countP sgB := List.countP_cons_of_neg (by rw [hs]; decide)
          have e2 : (x :: L).count 58 = L.count 58 := List.count_cons_of_ne h58'
          rw [e1, e2, List.all_cons, ho, Bool.or_true, Bool.true_and]
        · have ho : okB x = false := by
            unfold okB ltB dgB
            rw [decide_eq_false h58, Bool.or_false, Bool.or_eq_false_iff]
            exact ⟨by rw [← Bool.not_eq_true]; exact fun h => hk (Or.inl h), decide_eq_false (fun h' => hk (Or.inr ⟨h, h'⟩))⟩
          rw [if_neg hk]
          simp [ho, hs]
def rightB (b : ByteArray) : Bool := decide (1 ≤ b.size ∧ b.size ≤ 16) && (wordB b || signsB b)
def cntB (b : ByteArray) : Nat := b.data.toList.count 58
/-- what the landed package says of arguments -/
def argsL (b : ByteArray) : Int := if rightB b = true then (if headB sgB b = true then 1 else (cntB b : Int)) else -1
theorem all_sg : ∀ {L : List UInt8}, L.all sgB = true ↔ L.countP sgB = L.length := by
  intro L
  rw [List.all_eq_true, List.countP_eq_length]
theorem args_eq (b : ByteArray) : argsR b = argsL b := by
  rcases Classical.em (1 ≤ b.size ∧ b.size ≤ 16) with hz | hz
  case inr =>
    rw [args_short hz]
    unfold argsL rightB
    rw [decide_eq_false hz]; rfl
  have hs : b.data.toList.length = b.size := Array.length_toList
  unfold argsR argsL rightB wordB signsB cntB
  rw [if_pos hz, decide_eq_true hz, Bool.true_and]
  obtain ⟨x, R, hL⟩ : ∃ x R, b.data.toList = x :: R := by
    cases hL : b.data.toList with
    | nil => rw [hL] at hs; simp at hs; omega
    | cons x R => exact ⟨x, R, rfl⟩
  have h1 : ∀ p, headB p b = p x := fun p => by unfold headB; rw [hL]
  rw [h1, h1, hL, argsFrom]
  rw [hL] at hs
  generalize b.size = n at *
  clear hL h1
  simp only [List.length_cons] at hs
  by_cases hx : sgB x = true
  · have hx' : inR x.toNat ⟨#[43, 45, 42, 47, 60, 62, 61, 126, 38, 124, 37]⟩ = true := hx
    have hok := sg_ok hx
    have hlt : ltB x = false := by unfold okB at hok; simp at hok; exact hok.1.1
    rw [if_pos hx', from_in R 1 1 0 (by omega), hlt, if_pos hx]
    simp only [Bool.false_and, Bool.false_or, List.all_cons, hx, Bool.true_and]
    by_cases ha : R.all sgB = true
    · have hc := all_sg.1 ha
      have hb : R.all (fun x => sgB x || okB x) = true := by
        rw [List.all_eq_true] at ha ⊢
        intro y hy; rw [ha y hy]; rfl
      rw [if_pos hb, ha, hc]
      simp only [Bool.true_and, decide_eq_true_eq]
      by_cases h2 : n ≤ 2
      · rw [if_pos (by omega), if_pos h2]
      · rw [if_neg (by omega), if_neg h2, if_pos (by omega)]
    · have hc : ¬ R.countP sgB = R.length := fun h => ha (all_sg.2 h)
      rw [Bool.not_eq_true] at ha
      rw [ha, Bool.false_and, if_neg Bool.false_ne_true]
      by_cases hb : R.all (fun x => sgB x || okB x) = true
      · rw [if_pos hb]
        simp only
        rw [if_neg (by omega), if_pos (by omega)]
      · rw [if_neg hb]
  · have hx' : ¬ inR x.toNat ⟨#[43, 45, 42, 47, 60, 62, 61, 126, 38, 124, 37]⟩ = true := hx
    rw [if_neg hx', if_neg (by omega)]
    rw [if_neg hx]
    rw [Bool.not_eq_true] at hx
    simp only [List.all_cons, hx, Bool.false_and, Bool.or_false]
    by_cases hl : ltB x = true
    · have hl' : letterR x.toNat = true ∨ 0 < 0 ∧ 48 ≤ x.toNat ∧ x.toNat ≤ 57 := Or.inl hl
      have ho : okB x = true := by unfold okB; rw [hl]; rfl
      have h58 : ¬ x = 58 := by rintro rfl; exact absurd hl (by decide)
      rw [if_pos hl', from_in R 1 0 0 (by omega), hl, ho]
      simp only [Bool.true_and, Nat.zero_add, List.count_cons_of_ne h58]
      by_cases ha : R.all okB = true
      · have hc : R.countP sgB = 0 := by
          rw [List.countP_eq_zero]
          intro y hy hys
          have := sg_ok hys
          rw [List.all_eq_true.1 ha y hy] at this
          cases this
        have hb : R.all (fun x => sgB x || okB x) = true := by
          rw [List.all_eq_true] at ha ⊢
          intro y hy; rw [ha y hy, Bool.or_true]
        rw [if_pos hb, if_pos ha, hc]
        simp only
        rw [if_neg (by omega), if_neg (by omega)]
      · rw [if_neg ha]
        by_cases hb : R.all (fun x => sgB x || okB x) = true
        · rw [if_pos hb]
          have hc : R.countP sgB ≠ 0 := by
            intro h0
            apply ha
            rw [List.all_eq_true] at hb ⊢
            intro y hy
            have := hb y hy
            rw [List.countP_eq_zero] at h0
            have h0 := h0 y hy
            simp only [Bool.or_eq_true] at this
            exact this.resolve_left h0
          have hle : R.countP sgB ≤ R.length := List.countP_le_length
          simp only
          rw [if_neg (by omega), if_pos (by omega)]
        · rw [if_neg hb]
    · have hl' : ¬ (letterR x.toNat = true ∨ 0 < 0 ∧ 48 ≤ x.toNat ∧ x.toNat ≤ 57) := fun h => by
        rcases h with h | h
        · exact hl h
        · omega
      rw [Bool.not_eq_true] at hl
      rw [if_neg hl', hl]
      simp
theorem right_eq (b : ByteArray) : rightB b = decide (0 ≤ argsR b) := by
  rw [args_eq]
  unfold argsL
  by_cases h : rightB b = true
  · rw [if_pos h, h]
    split
    · rfl
    · symm; rw [decide_eq_true_eq]; omega
  · rw [if_neg h]
    rw [Bool.not_eq_true] at h
    rw [h]; rfl
theorem right_c (b : ByteArray) (w : World) : Calls Tryz.prog 44 #[.string b] w fun e w' => e = .returned (.bool (decide (0 ≤ argsR b))) ∧ w' = w := by
  rw [← right_eq]
  unfold rightB
  by_cases h1 : 1 ≤ b.size
  · have h1' : (1 : Int) ≤ (b.size : Int) := by omega
    by_cases h2 : b.size ≤ 16
    · have h2' : (b.size : Int) ≤ 16 := by omega
      have PW := Lib.hid (word_c b h1 h2)
      have PS := Lib.hid (signs_c b h2)
      rw [decide_eq_true ⟨h1, h2⟩, Bool.true_and]
      generalize signsB b = y at *
      cases hx : wordB b with
      | true =>
        rw [hx] at PW
        clear hx
        go_enter Tryz.func44, Tryz.ntmps44
        go_wp2_with (first | (go_at_call 71; ((with_reducible refine (PW.out _).mono ?_); rintro e1 w2 ⟨rfl, hw2⟩; subst w2)) | (go_at_call 72; ((with_reducible refine (PS.out _).mono ?_); rintro e1 w2 ⟨rfl, hw2⟩; subst w2)))
        go_ret
        exact ⟨rfl, rfl⟩
      | false =>
        rw [hx] at PW
        clear hx
        go_enter Tryz.func44, Tryz.ntmps44
        go_wp2_with (first | (go_at_call 71; ((with_reducible refine (PW.out _).mono ?_); rintro e1 w2 ⟨rfl, hw2⟩; subst w2)) | (go_at_call 72; ((with_reducible refine (PS.out _).mono ?_); rintro e1 w2 ⟨rfl, hw2⟩; subst w2)))
        go_ret
        exact ⟨rfl, rfl⟩
    · have h2' : ¬ (b.size : Int) ≤ 16 := by omega
      rw [decide_eq_false (fun h => h2 h.2), Bool.false_and]
      go_enter Tryz.func44, Tryz.ntmps44
      go_wp2
      go_ret
      exact ⟨rfl, rfl⟩
  · have h1' : ¬ (1 : Int) ≤ (b.size : Int) := by omega
    rw [decide_eq_false (fun h => h1 h.1), Bool.false_and]
    go_enter Tryz.func44, Tryz.ntmps44
    go_wp2
    go_ret
    exact ⟨rfl, rfl⟩
theorem cnt_c (b : ByteArray) (w : World) : Calls Tryz.prog 106 #[.string b, .string ⟨#[58]⟩] w fun e w' => e = .returned (.int .i64 (cntB b : Nat)) ∧ w' = w := by
  go_enter Tryz.func106, Tryz.ntmps106
  go_wp2
  rw [run_callFunc_extern Tryz.func116 (by kernel_rfl) (by kernel_rfl) (by kernel_rfl) (e := Extern.BytealgCount.count) (by kernel_rfl), Lib.run_countString]
  simp only [Result.andThen]
  rw [Oper.upon_value]
  go_wp2
  go_ret
  exact ⟨rfl, rfl⟩
theorem kargs_c (b : ByteArray) (w : World) : Calls Tryz.prog 84 #[.string b] w fun e w' => e = .returned (.int .i64 (argsR b)) ∧ w' = w := by
  have PR := Lib.hid (right_c b)
  have PC := Lib.hid (cnt_c b)
  rw [← right_eq] at PR
  rw [args_eq]
  cases hr : rightB b with
  | false =>
    have e : argsL b = -1 := by unfold argsL; rw [hr]; rfl
    rw [hr] at PR
    rw [e]
    clear e hr
    go_enter Tryz.func84, Tryz.ntmps84
    go_wp2_with (first | (go_at_call 44; ((with_reducible refine (PR.out _).mono ?_); rintro e1 w2 ⟨rfl, hw2⟩; subst w2)))
    go_ret
    exact ⟨rfl, rfl⟩
  | true =>
    have h0 : 0 < b.size := by
      unfold rightB at hr
      rw [Bool.and_eq_true, decide_eq_true_eq] at hr
      exact hr.1.1
    have PS := Lib.hid (sign_c b[0])
    rw [hr] at PR
    cases hx : sgB b[0] with
    | true =>
      have e : argsL b = 1 := by unfold argsL; rw [hr, headB_eq _ h0, hx]; rfl
      rw [hx] at PS
      rw [e]
      clear e hr hx
      go_enter Tryz.func84, Tryz.ntmps84
      go_wp2_with (first | (go_at_call 44; ((with_reducible refine (PR.out _).mono ?_); rintro e1 w2 ⟨rfl, hw2⟩; subst w2)) | (go_at_call 100; ((with_reducible refine (PS.out _).mono ?_); rintro e1 w2 ⟨rfl, hw2⟩; subst w2)))
      go_ret
      exact ⟨rfl, rfl⟩
    | false =>
      have e : argsL b = (cntB b : Nat) := by unfold argsL; rw [hr, headB_eq _ h0, hx]; rfl
      rw [hx] at PS
      rw [e]
      clear e hr hx
      generalize cntB b = c at *
      go_enter Tryz.func84, Tryz.ntmps84
      go_wp2_with (first | (go_at_call 44; ((with_reducible refine (PR.out _).mono ?_); rintro e1 w2 ⟨rfl, hw2⟩; subst w2)) | (go_at_call 100; ((with_reducible refine (PS.out _).mono ?_); rintro e1 w2 ⟨rfl, hw2⟩; subst w2)) | (go_at_call 106; ((with_reducible refine (PC.out _).mono ?_); rintro e1 w2 ⟨rfl, hw2⟩; subst w2)))
      go_ret
      exact ⟨rfl, rfl⟩
end Wd
end Go.Proofs.YtgfdgdbkifkehaaGreat

/- The landed programs: the class of an object; is a text there; the names; how much of each. -/
namespace Go.Proofs.YtgfdgdbkifkehaaGreat
open Go.RowKit
set_option linter.unusedVariables false
set_option maxRecDepth 20000
namespace Wd
set_option maxHeartbeats 8000000 in
theorem uclass_c {w : World} {v cv : Value} {o : ObjA} {C : List ClassA} (h : ObK w v o) (hC : ClV w cv C) (h62 : ∀ c ∈ C, c.fields ≤ 62) :
    Calls Tryz.prog 50 #[v, cv] w fun e w' => e = .returned (.bool (objHead o C)) ∧ Below w.heap.size w w' := by
  obtain ⟨fa, fc, rfl, hf⟩ := h.ex
  obtain ⟨ca, cc, rfl, hc1, hc2⟩ := hC.form
  have hle := len_le (Nat.le_trans hc1 hc2)
  obtain ⟨c0, c1⟩ := h.c64
  have hB := Lib.hid ((Below.refl w.heap.size w).alloc (Nat.le_refl _) (.cells #[.int .i64 o.cls, .slice fa o.flds.length fc] 55))
  have PI := Lib.hid (uisOne_c o.cls (C.length : Int))
  by_cases h0 : o.cls < 1 ∨ (C.length : Int) ≤ o.cls
  · have e : Hid (objHead o C = false) := Lib.hid (by rcases h0 with h0 | h0; exact head_low h0; exact head_high h0)
    generalize objHead o C = r at *
    by_cases hz : o.cls = 0 ∧ 0 < C.length
    · obtain ⟨hz1, hz2⟩ := hz
      rw [hz1, show decide ((0 : Int) ≤ 0) = true from rfl, decide_eq_true (show (0 : Int) < (C.length : Int) by omega)] at PI
      rw [hz1] at hB ⊢
      clear h0 hz1 hz2 h hf hC h62 c0 c1
      go_enter Tryz.func50, Tryz.ntmps50
      go_wp2_with (first | (go_at_call 23; ((with_reducible refine (PI.out _).mono ?_); rintro e1 w2 ⟨rfl, hw2⟩; subst w2)))
      go_ret
      exact ⟨congrArg (fun b => Ending.returned (Value.bool b)) e.out.symm, hB.out⟩
    · have hx : (decide (0 ≤ o.cls) && decide (o.cls < (C.length : Int))) = false := by
        rw [Bool.and_eq_false_iff, decide_eq_false_iff_not, decide_eq_false_iff_not]; omega
      rw [hx] at PI
      clear h0 hz h hf hC h62 c0 c1 hx
      go_enter Tryz.func50, Tryz.ntmps50
      go_wp2_with (first | (go_at_call 23; ((with_reducible refine (PI.out _).mono ?_); rintro e1 w2 ⟨rfl, hw2⟩; subst w2)))
      go_ret
      exact ⟨congrArg (fun b => Ending.returned (Value.bool b)) e.out.symm, hB.out⟩
  have g0 : 1 ≤ o.cls := by omega
  have g1 : o.cls < (C.length : Int) := by omega
  rw [decide_eq_true (show (0 : Int) ≤ o.cls by omega), decide_eq_true g1] at PI
  have n0 : (o.cls == 0) = false := by simp; omega
  by_cases h1 : o.cls = 1
  · have n1 : (o.cls == 1) = true := by simpa using h1
    have e : Hid (objHead o C = decide (o.flds.length ≤ 62)) := Lib.hid (by unfold objHead; rw [if_neg h0, if_neg (by omega)])
    have e2 : Hid (objHead o C = decide ((o.flds.length : Int) ≤ 62)) := Lib.hid (by rw [e.out]; exact decide_eq_decide.2 (by omega))
    generalize objHead o C = r at *
    clear h0 h1 h hf hC h62 c0 c1 e g0 g1
    go_enter Tryz.func50, Tryz.ntmps50
    go_wp2_with (first | (go_at_call 23; ((with_reducible refine (PI.out _).mono ?_); rintro e1 w2 ⟨rfl, hw2⟩; subst w2)))
    go_ret
    exact ⟨congrArg (fun b => Ending.returned (Value.bool b)) e2.out.symm, hB.out⟩
  · have n1 : (o.cls == 1) = false := by simpa using h1
    obtain ⟨q, hq⟩ : ∃ q : Nat, o.cls = (q : Int) := ⟨o.cls.toNat, by omega⟩
    obtain ⟨x, hx⟩ : ∃ x, C[q]? = some x := ⟨C[q]'(by omega), by simp⟩
    have hx62 := h62 x (List.mem_of_getElem? hx)
    have e : Hid (objHead o C = ((o.flds.length : Int) == x.fields)) := Lib.hid (by
      unfold objHead
      rw [if_neg h0, hq, clsF_at hx]
      by_cases he : (o.flds.length : Int) = x.fields
      · rw [if_neg (fun h => h.2 he), he, beq_self_eq_true, decide_eq_true_eq]; omega
      · rw [if_pos ⟨by omega, he⟩]; symm; simpa using he)
    obtain ⟨_, _, g, off, bv, rfl, _, _, d2, _, _⟩ := hC.at hx
    have d2' := cell_up ((Below.refl w.heap.size w).alloc (Nat.le_refl _) (.cells #[.int .i64 o.cls, .slice fa o.flds.length fc] 55)) d2
    have q0 : (0 : Int) ≤ (q : Int) := by omega
    have q1 : (q : Int) < (C.length : Int) := by omega
    rw [hq] at PI n0 n1 hB d2' ⊢
    generalize objHead o C = r at *
    clear h0 h1 h hf hC h62 c0 c1 g0 g1 d2 hx
    go_enter Tryz.func50, Tryz.ntmps50
    go_wp2_with (first | (go_at_call 23; ((with_reducible refine (PI.out _).mono ?_); rintro e1 w2 ⟨rfl, hw2⟩; subst w2)))
    go_region
    go_wp2
    go_ret
    exact ⟨congrArg (fun b => Ending.returned (Value.bool b)) e.out.symm, hB.out.drew⟩
theorem NmV.takeV {w : World} {ad : Option Addr} {n cap : Nat} {L : List ByteArray} (h : NmV w (.slice ad n cap) L) (k : Nat) (hk : k ≤ L.length) : NmV w (.slice ad k cap) (L.take k) := by
  obtain ⟨ad', cap', e, h1, h2, h3⟩ := h.ex
  cases e
  have hl : (L.take k).length = k := by rw [List.length_take]; omega
  refine ⟨ad, cap, by rw [hl], by omega, h2, fun j x hx => h3 j x ?_⟩
  rw [List.getElem?_take] at hx
  split at hx
  · exact hx
  · cases hx
set_option maxHeartbeats 8000000 in
theorem uindex_c {w : World} {v : Value} {L : List ByteArray} (h : NmV w v L) (x : ByteArray) :
    Calls Tryz.prog 73 #[v, .string x] w fun e w' => (∃ i : Int, e = .returned (.int .i64 i) ∧ (0 ≤ i ↔ x ∈ L)) ∧ w' = w := by
  obtain ⟨ad, cap, rfl, hcap, hmx, _⟩ := h.ex
  obtain ⟨n, hnn⟩ : ∃ n, n = L.length := ⟨_, rfl⟩
  rw [← hnn] at h hcap ⊢
  replace h := Lib.hid h
  have hn' := Lib.hid hnn
  have hle : (n : Int) ≤ 9223372036854775807 := by have := Nat.le_trans hcap hmx; unfold maxLen at this; omega
  have hst : Hid (∀ y ∈ L.take 0, y ≠ x) := Lib.hid (by simp)
  clear hnn
  go_enter Tryz.func73, Tryz.ntmps73
  go_wp2
  go_loopw [8] (fun i wr => ∃ (k : Nat), k ≤ n ∧ i = .int .i64 k ∧ Hid (∀ y ∈ L.take k, y ≠ x) ∧ wr = w) (fun i _ => n - (intOf i).toNat)
  case atStart => exact ⟨0, by omega, rfl, hst, rfl⟩
  case round =>
    clear hst
    obtain ⟨k, hk, rfl, hD, rfl⟩ := hrel
    by_cases hlt : k < n
    · have hlt' : decide ((k : Int) < (n : Int)) = true := by simp; omega
      have p0 : (0 : Int) ≤ (k : Int) := by omega
      have p1 : (k : Int) < (n : Int) := by omega
      obtain ⟨y, hy⟩ : ∃ y, L[k]? = some y := ⟨L[k]'(by have := hn'.out; omega), by simp⟩
      obtain ⟨g, off, rfl, d0⟩ := NmV.at h.out hy
      have hy' := Lib.hid hy
      clear hy
      by_cases he : x = y
      · have e : Hid (0 ≤ (k : Int) ↔ x ∈ L) := Lib.hid ⟨fun _ => by rw [he]; exact List.mem_of_getElem? hy'.out, fun _ => by omega⟩
        have he' : (x.toList == y.toList) = true := bl_eq he
        clear he
        go_wp2
        go_ret
        exact ⟨⟨_, rfl, e.out⟩, rfl⟩
      · have he' : (x.toList == y.toList) = false := bl_ne he
        have hD' : Hid (∀ z ∈ L.take (k + 1), z ≠ x) := Lib.hid (fun z hz => by
          rw [take_next hy'.out] at hz
          rcases List.mem_append.1 hz with hz | hz
          · exact hD.out z hz
          · rw [List.mem_singleton.1 hz]; exact fun e => he e.symm)
        clear he
        go_wp2
        go_roundw
        case rel => exact ⟨k + 1, by omega, by go_num, hD', trivial⟩
        case measure => simp [intOf]; omega
    · have e : Hid (0 ≤ (-1 : Int) ↔ x ∈ L) := Lib.hid (by
        have hd := hD.out
        rw [show k = L.length by have := hn'.out; omega, List.take_length] at hd
        exact ⟨fun h => absurd h (by decide), fun h => absurd rfl (hd x h)⟩)
      have hlt' : decide ((k : Int) < (n : Int)) = false := by simp; omega
      go_wp2
      go_ret
      exact ⟨⟨_, rfl, e.out⟩, rfl⟩
theorem ucontains_c {w : World} {v : Value} {L : List ByteArray} (h : NmV w v L) (x : ByteArray) (b : Bool) (hb : b = true ↔ x ∈ L) :
    Calls Tryz.prog 45 #[v, .string x] w fun e w' => e = .returned (.bool b) ∧ w' = w := by
  have PI := Lib.hid (uindex_c h x)
  replace hb := Lib.hid hb
  clear h
  go_enter Tryz.func45, Tryz.ntmps45
  go_wp2_with (first | (go_at_call 73; ((with_reducible refine PI.out.mono ?_); rintro e1 w2 ⟨⟨i, rfl, hi⟩, hw2⟩; subst w2; replace hi := Lib.hid hi)))
  go_ret
  exact ⟨congrArg (fun b => Ending.returned (Value.bool b)) (show decide (i ≥ 0) = b by cases b with | true => exact decide_eq_true (hi.out.2 (hb.out.1 rfl)) | false => exact decide_eq_false (fun h => absurd (hb.out.2 (hi.out.1 h)) (by decide))), rfl⟩
set_option maxHeartbeats 8000000 in
theorem unames_c {w : World} {v : Value} {L : List ByteArray} (h : NmV w v L) :
    Calls Tryz.prog 19 #[v] w fun e w' => e = .returned (.bool (namesB L)) ∧ w' = w := by
  obtain ⟨ad, cap, rfl, hcap, hmx, _⟩ := h.ex
  obtain ⟨n, hnn⟩ : ∃ n, n = L.length := ⟨_, rfl⟩
  rw [← hnn] at h hcap ⊢
  replace h := Lib.hid h
  have hn' := Lib.hid hnn
  have hst := Lib.hid (NsR.start L)
  have hle : (n : Int) ≤ 9223372036854775807 := by have := Nat.le_trans hcap hmx; unfold maxLen at this; omega
  clear hnn
  go_enter Tryz.func19, Tryz.ntmps19
  go_wp2
  go_loopw [7] (fun i7 wr => ∃ (k : Nat), k ≤ n ∧ i7 = .int .i64 k ∧ Hid (NsR L k) ∧ wr = w) (fun i7 _ => n - (intOf i7).toNat)
  case atStart => exact ⟨0, by omega, rfl, hst, rfl⟩
  case round =>
    clear hst
    obtain ⟨k, hk, rfl, hR, rfl⟩ := hrel
    by_cases hlt : k < n
    · have hlt' : decide ((k : Int) < (n : Int)) = true := by simp; omega
      have p0 : (0 : Int) ≤ (k : Int) := by omega
      have p1 : (k : Int) < (n : Int) := by omega
      have p2 : (k : Int) ≤ (cap : Int) := by omega
      obtain ⟨x, hx⟩ : ∃ x, L[k]? = some x := ⟨L[k]'(by have := hn'.out; omega), by simp⟩
      obtain ⟨g, off, rfl, c0⟩ := NmV.at h.out hx
      have hx' := Lib.hid hx
      have PR := Lib.hid (right_c x)
      have PC := Lib.hid (ucontains_c (h.out.takeV k (by have := hn'.out; omega)) x)
      clear hx
      by_cases ha : argsR x < 0
      · have e := Lib.hid (names_bad hx'.out ha)
        rw [decide_eq_false (show ¬ 0 ≤ argsR x by omega)] at PR
        clear ha
        go_wp2_with (first | (go_at_call 44; ((with_reducible refine (PR.out _).mono ?_); rintro e1 w2 ⟨rfl, hw2⟩; subst w2)))
        go_ret
        exact ⟨congrArg (fun b => Ending.returned (Value.bool b)) e.out.symm, rfl⟩
      · rw [decide_eq_true (show 0 ≤ argsR x by omega)] at PR
        have haH : Hid (0 ≤ argsR x) := Lib.hid (by omega)
        clear ha
        by_cases hm : x ∈ L.take k
        · have e : Hid (namesB L = false) := Lib.hid (by
            obtain ⟨j, hj, ej⟩ := List.mem_iff_getElem.1 hm
            rw [List.length_take] at hj
            have hj2 : j < k ∧ j < L.length := by omega
            have hy : L[j]? = some (L[j]'hj2.2) := by simp
            refine names_twice hx'.out hj2.1 hy ?_
            rw [List.getElem_take] at ej
            exact ej)
          replace PC := Lib.hid (PC.out true ⟨fun _ => hm, fun _ => rfl⟩)
          clear hm
          go_wp2_with (first | (go_at_call 44; ((with_reducible refine (PR.out _).mono ?_); rintro e1 w2 ⟨rfl, hw2⟩; subst w2)) | (go_at_call 45; ((with_reducible refine PC.out.mono ?_); rintro e1 w2 ⟨rfl, hw2⟩; subst w2)))
          go_ret
          exact ⟨congrArg (fun b => Ending.returned (Value.bool b)) e.out.symm, rfl⟩
        · have hR' := Lib.hid (hR.out.step hx'.out haH.out (fun y hy e => hm (by rw [← e]; exact hy)))
          replace PC := Lib.hid (PC.out false ⟨fun h => absurd h (by decide), fun h => absurd h hm⟩)
          clear hm
          go_wp2_with (first | (go_at_call 44; ((with_reducible refine (PR.out _).mono ?_); rintro e1 w2 ⟨rfl, hw2⟩; subst w2)) | (go_at_call 45; ((with_reducible refine PC.out.mono ?_); rintro e1 w2 ⟨rfl, hw2⟩; subst w2)))
          go_roundw
          case rel => exact ⟨k + 1, by omega, by go_num, hR', trivial⟩
          case measure => simp [intOf]; omega
    · have e : Hid (namesB L = true) := Lib.hid (NsR.last (by have := hR.out; rw [show k = L.length by have := hn'.out; omega] at this; exact this))
      have hlt' : decide ((k : Int) < (n : Int)) = false := by simp; omega
      go_wp2
      go_ret
      exact ⟨congrArg (fun b => Ending.returned (Value.bool b)) e.out.symm, rfl⟩
end Wd
end Go.Proofs.YtgfdgdbkifkehaaGreat

/- What the laws ask of the package's judgement of classes. -/
namespace Go.Proofs.YtgfdgdbkifkehaaGreat
open Go.RowKit
set_option linter.unusedVariables false
set_option maxRecDepth 20000
namespace Wd
theorem SL.up {w w' : World} {e : TypeId} {v : Value} {L : List Int} (h : SL w e v L) (b : Below w.heap.size w w') : SL w' e v L := SL.keep h b
theorem SL.at {w : World} {e : TypeId} {a : Option Addr} {n c : Nat} {L : List Int} (h : SL w e (.slice a n c) L) {k : Nat} {x : Int} (hx : L[k]? = some x) : ∃ g, a = some ⟨g, 0, none⟩ ∧ w.cell? ⟨g, k, none⟩ = some (.int .i64 x) := by
  have hk := (List.getElem?_eq_some_iff.1 hx).1
  rcases h.cases with ⟨e1, e2⟩ | ⟨g, cap, e1, _, _, _, ho⟩
  · subst e2; simp at hx
  · cases e1
    exact ⟨g, rfl, row_cell ho hx⟩
end Wd
end Go.Proofs.YtgfdgdbkifkehaaGreat

/- The landed package's chains. -/
namespace Go.Proofs.YtgfdgdbkifkehaaGreat
open Go.RowKit
set_option linter.unusedVariables false
set_option maxRecDepth 20000
namespace Wd
theorem isc_y (ad : Option Addr) (n cap : Nat) (i : Int) (h0 : 0 ≤ i) (h1 : i < n) (w : World) :
    Calls Tryz.prog 96 #[.slice ad n cap, .int .i64 i] w fun e w' => e = .returned (.bool true) ∧ w' = w := by
  have h0' : decide (i ≥ 0) = true := by simpa using h0
  have h1' : decide (i < (n : Int)) = true := by simpa using h1
  go_enter Tryz.func96, Tryz.ntmps96
  go_wp2
  go_ret
  exact ⟨rfl, rfl⟩
theorem isc_n (ad : Option Addr) (n cap : Nat) (i : Int) (h : i < 0 ∨ (n : Int) ≤ i) (w : World) :
    Calls Tryz.prog 96 #[.slice ad n cap, .int .i64 i] w fun e w' => e = .returned (.bool false) ∧ w' = w := by
  by_cases h0 : 0 ≤ i
  · have h0' : decide (i ≥ 0) = true := by simpa using h0
    have h1' : decide (i < (n : Int)) = false := by simp; omega
    go_enter Tryz.func96, Tryz.ntmps96
    go_wp2
    go_ret
    exact ⟨rfl, rfl⟩
  · have h0' : decide (i ≥ 0) = false := by simp; omega
    go_enter Tryz.func96, Tryz.ntmps96
    go_wp2
    go_ret
    exact ⟨rfl, rfl⟩
set_option maxHeartbeats 16000000 in
theorem kchain {w : World} {v : Value} {L : List ClassA} (h : ClV w v L) (i : Int) (hi : In64 i) :
    Calls Tryz.prog 58 #[v, .int .i64 i] w fun e w' => ∃ v', e = .returned v' ∧ SL w' 3 v' (chain L i) ∧ Below w.heap.size w w' := by
  obtain ⟨i0, hi0, hz0, hz1, hz2⟩ := info_parts info3
  have hmx : 100000 ≤ maxLen := by decide
  obtain ⟨ad, cap, rfl, hcap, hm⟩ := h.form
  obtain ⟨n, hn⟩ : ∃ n, n = L.length := ⟨_, rfl⟩
  rw [← hn] at h hcap ⊢
  replace h := Lib.hid h
  have hn' := Lib.hid hn
  have hnm : n ≤ maxLen := by omega
  have hst : Hid (ChR w w L i i (.slice none 0 0) 0 []) := Lib.hid ⟨World.ownsRow_nil _ _ _ _, by simp, by simp, by simp [chain], Below.refl _ _, hi⟩
  clear hcap hm hi hn
  go_enter Tryz.func58, Tryz.ntmps58
  go_wp2
  go_loopw [1, 5] (fun i1 v5 wr => ∃ (j : Int) (C : List Int) (a : Option Addr) (m c : Nat), i1 = .int .i64 j ∧ v5 = .slice a m c ∧ Hid (ChR w wr L i j (.slice a m c) m C)) (fun i1 v5 _ => match v5 with | .slice _ m _ => 8 - m | _ => 0)
  case atStart => exact ⟨i, [], none, 0, 0, rfl, rfl, hst⟩
  case round =>
    obtain ⟨j, C, a, m, c, rfl, rfl, hR⟩ := hrel
    have hle : m ≤ 8 := hR.out.le
    obtain ⟨b0, b1⟩ := hR.out.ij
    by_cases h0 : 0 ≤ j ∧ j < n
    · obtain ⟨h0, h1⟩ := h0
      have PI := Lib.hid (isc_y ad n cap j h0 h1)
      by_cases h2 : m < 8
      · obtain ⟨k, rfl⟩ : ∃ k : Nat, j = k := ⟨j.toNat, by omega⟩
        obtain ⟨x, hx⟩ : ∃ x, L[k]? = some x := ⟨L[k]'(by have := hn'.out; omega), by simp⟩
        obtain ⟨s0, s1, g, off, bv, rfl, c0, c1, c2, c3, _⟩ := h.out.at hx
        have hx' := Lib.hid hx
        have h2' : decide (((m : Nat) : Int) < 8) = true := by simp; omega
        have hown := Lib.hid hR.out.own
        have hsz : Hid (w.heap.size ≤ wr.heap.size) := Lib.hid hR.out.bel.size
        have hk1 := Lib.hid c1
        have hs0 := Lib.hid s0
        clear c0 c1 c2 c3 s1 hx s0
        go_wp2_with (first | (go_at_call 96; ((with_reducible refine (PI.out _).mono ?_); rintro e1 w2 ⟨rfl, hw2⟩; subst w2)) | (at_builtin; refine wpList_append_lies _ rfl (.tmp 14) (.tmp 16) 29 rfl w.heap.size 3 i0 (.int .i64 0) 1 8 Tryz.underlying29 hi0 hz0 hz1 hz2 rfl (by decide) _ m _ (by simp [Act.eval]) (hown.out.alloc _) ⟨wr.heap.size, 0, none⟩ 1 1 (ints [(k : Int)]) (by simp [Act.eval]) (by simp) (one_at ((World.cell?_alloc_new _ _ _ 0).trans rfl)) (ints_one _) (by omega) (by omega) (by omega) (by have := hsz.out; simp; omega) _ rfl ?_; intro g1 cap1 w1 hown1 hgrow1 hat1 hlt1; have hR1 := Lib.hid (hR.out.more hx'.out h2 rfl hown1 hgrow1 hs0.out); have hc1 := cell_up hR1.out.bel hk1.out; clear hgrow1 hat1 hlt1 hown1))
        go_roundw
        case rel => exact ⟨_, _, _, _, _, rfl, rfl, hR1⟩
        case measure => simp; omega
      · have h2' : decide (((m : Nat) : Int) < 8) = false := by simp; omega
        have he : chainR L j (8 - m) = [] := by rw [show 8 - m = 0 by omega]; rfl
        have hf := Lib.hid (hR.out.last he)
        clear he
        go_wp2_with (first | (go_at_call 96; ((with_reducible refine (PI.out _).mono ?_); rintro e1 w2 ⟨rfl, hw2⟩; subst w2)))
        go_ret
        exact ⟨_, rfl, hf.out, hR.out.bel⟩
    · have PI := Lib.hid (isc_n ad n cap j (by omega))
      have he : chainR L j (8 - m) = [] := by
        rcases (show j < 0 ∨ (L.length : Int) ≤ j by have := hn'.out; omega) with h | h
        · exact chainR_neg _ h
        · exact chainR_over _ h
      have hf := Lib.hid (hR.out.last he)
      clear he
      go_wp2_with (first | (go_at_call 96; ((with_reducible refine (PI.out _).mono ?_); rintro e1 w2 ⟨rfl, hw2⟩; subst w2)))
      go_ret
      exact ⟨_, rfl, hf.out, hR.out.bel⟩
theorem kdepth {w : World} {v : Value} {L : List ClassA} (h : ClV w v L) (i : Int) (hi : In64 i) :
    Calls Tryz.prog 101 #[v, .int .i64 i] w fun e w' => e = .returned (.int .i64 ((chain L i).length : Nat)) ∧ Below w.heap.size w w' := by
  have P := kchain h i hi
  generalize chain L i = C at *
  go_enter Tryz.func101, Tryz.ntmps101
  go_wp2_with fail
  refine P.mono ?_
  clear P
  rintro e w1 ⟨v1, rfl, hS, hB⟩
  obtain ⟨a, c, rfl⟩ := hS.form
  obtain ⟨n, hn⟩ : ∃ n, n = C.length := ⟨_, rfl⟩
  have hn' := Lib.hid hn
  rw [← hn]
  clear hS h hi hn
  go_wp2
  go_ret
  exact ⟨by rw [← hn'.out]; rfl, hB⟩
end Wd
end Go.Proofs.YtgfdgdbkifkehaaGreat

/- The landed package's judgement of one class. -/
namespace Go.Proofs.YtgfdgdbkifkehaaGreat
open Go.RowKit
set_option linter.unusedVariables false
set_option maxRecDepth 20000
namespace Wd
def nameR (A : List ClassA) (nm : ByteArray) : Bool := textOk nm && !(A.any (fun x => decide (x.nm = nm)))
def supR (A : List ClassA) (s f : Int) : Bool := decide (0 ≤ f) && decide (f ≤ 62) && (decide (s = -1) || (decide (0 ≤ s) && decide (s < A.length) && decide ((chain A s).length < 8) && decide (superF A s ≤ f)))
theorem chain_deepQ {L : List ClassA} {k : Nat} (hD : Down L k) (hk : k ≤ L.length) : ∀ (f g : Nat) (s : Int), s < k → s < g → (chainR (L.take k) s f).length = min f (deep L g s)
  | 0, _, _, _, _ => by simp [chainR]
  | f + 1, g, s, h1, h2 => by
    by_cases h0 : s < 0
    · rw [chainR_neg _ h0, deep_neg _ h0]; simp
    · obtain ⟨j, rfl⟩ : ∃ j : Nat, s = j := ⟨s.toNat, by omega⟩
      obtain ⟨g', rfl⟩ : ∃ g', g = g' + 1 := ⟨g - 1, by omega⟩
      have hx : L[j]? = some (L[j]'(by omega)) := by simp
      generalize L[j]'(by omega) = x at hx
      have hy : (L.take k)[j]? = some x := by rw [List.getElem?_take, if_pos (by omega)]; exact hx
      obtain ⟨d1, d2⟩ := hD j x (by omega) hx
      rw [chainR_on hy, deep_on hx, List.length_cons, chain_deepQ hD hk f g' x.super (by omega) (by omega)]
      omega
theorem sup_eq {L : List ClassA} {k : Nat} {c : ClassA} (hD : Down L k) (hk : k ≤ L.length) : classOk L k c = supR (L.take k) c.super c.fields := by
  have hl : (L.take k).length = k := by rw [List.length_take]; omega
  unfold classOk supR
  rw [hl]
  by_cases h1 : c.super < -1
  · rw [decide_eq_false (p := -1 ≤ c.super) (by omega), decide_eq_false (p := c.super = -1) (by omega), decide_eq_false (p := 0 ≤ c.super) (by omega)]
    simp
  by_cases h2 : (k : Int) ≤ c.super
  · rw [decide_eq_false (p := c.super < k) (by omega), decide_eq_false (p := c.super = -1) (by omega)]
    simp
  rw [decide_eq_true (p := -1 ≤ c.super) (by omega), decide_eq_true (p := c.super < k) (by omega)]
  by_cases h3 : c.super = -1
  · rw [decide_eq_true h3, h3, deep_neg _ (by omega), decide_eq_true (p := (-1 : Int) < 0) (by omega)]
    simp
  · have hd := chain_deepQ hD hk 8 (k + 1) c.super (by omega) (by omega)
    have e1 : decide ((chain (L.take k) c.super).length < 8) = decide (deep L (k + 1) c.super + 1 ≤ 8) := by
      rw [decide_eq_decide]; unfold chain; omega
    have e2 : superF (L.take k) c.super = superF L c.super := by
      unfold superF
      rw [List.getElem?_take, if_pos (by omega)]
    rw [e1, e2, decide_eq_false h3, decide_eq_true (p := 0 ≤ c.super) (by omega), decide_eq_false (p := c.super < 0) (by omega)]
    simp [Bool.and_assoc]
theorem isroot_c (nm : ByteArray) (s f : Int) (bv : Value) (x : Int) (w : World) (b : Bool) (hb : b = (decide (s = -1) && decide (f = x))) :
    Calls Tryz.prog 74 #[.agg #[.string nm, .int .i64 s, .int .i64 f, bv], .int .i64 x] w fun e w' => e = .returned (.bool b) ∧ Below w.heap.size w w' := by
  have hB := Lib.hid ((Below.refl w.heap.size w).alloc (Nat.le_refl _) (.cells #[.string nm, .int .i64 s, .int .i64 f, bv] 45))
  by_cases h1 : s = -1
  · have h1' : (s == -1) = true := by simpa using h1
    by_cases h2 : f = x
    · have h2' : (f == x) = true := by simpa using h2
      rw [decide_eq_true h1, decide_eq_true h2] at hb
      subst hb
      clear h1 h2
      go_enter Tryz.func74, Tryz.ntmps74
      go_wp2
      go_ret
      exact ⟨rfl, hB.out⟩
    · have h2' : (f == x) = false := by simpa using h2
      rw [decide_eq_true h1, decide_eq_false h2] at hb
      subst hb
      clear h1 h2
      go_enter Tryz.func74, Tryz.ntmps74
      go_wp2
      go_ret
      exact ⟨rfl, hB.out⟩
  · have h1' : (s == -1) = false := by simpa using h1
    rw [decide_eq_false h1] at hb
    subst hb
    clear h1
    go_enter Tryz.func74, Tryz.ntmps74
    go_wp2
    go_ret
    exact ⟨rfl, hB.out⟩
theorem name_over {A : List ClassA} {nm : ByteArray} (h : nm.size < 1 ∨ 16 < nm.size) : nameR A nm = false := by
  unfold nameR textOk
  rcases h with h | h
  · rw [decide_eq_false (p := 1 ≤ nm.size) (by omega)]; rfl
  · rw [decide_eq_false (p := nm.size ≤ 16) (by omega)]; simp
theorem name_twice {A : List ClassA} {nm : ByteArray} {j : Nat} {x : ClassA} (h : A[j]? = some x) (e : x.nm = nm) : nameR A nm = false := by
  have : A.any (fun x => decide (x.nm = nm)) = true := List.any_eq_true.2 ⟨x, List.mem_of_getElem? h, by simpa using e⟩
  unfold nameR; rw [this]; simp
theorem name_once {A : List ClassA} {nm : ByteArray} (h1 : 1 ≤ nm.size) (h2 : nm.size ≤ 16) (h : ∀ x ∈ A, x.nm ≠ nm) : nameR A nm = true := by
  have : A.any (fun x => decide (x.nm = nm)) = false := by
    rw [Bool.eq_false_iff]
    intro ha
    obtain ⟨x, hx, e⟩ := List.any_eq_true.1 ha
    exact h x hx (by simpa using e)
  unfold nameR textOk
  rw [this, decide_eq_true h1, decide_eq_true h2]; rfl
set_option maxHeartbeats 8000000 in
theorem kname {w : World} {v : Value} {A : List ClassA} (h : ClV w v A) (nm : ByteArray) :
    Calls Tryz.prog 75 #[v, .string nm] w fun e w' => e = .returned (.bool (nameR A nm)) ∧ Below w.heap.size w w' := by
  obtain ⟨ad, cap, rfl, hcap, hmx⟩ := h.form
  obtain ⟨n, hn⟩ : ∃ n, n = A.length := ⟨_, rfl⟩
  rw [← hn] at h hcap ⊢
  replace h := Lib.hid h
  have hn' := Lib.hid hn
  have hnm : n ≤ 9223372036854775807 := by have : maxLen ≤ 9223372036854775807 := by decide
                                           omega
  clear hmx hn
  by_cases q0 : nm.size < 1
  · have e := Lib.hid (name_over (A := A) (Or.inl q0))
    have q0' : decide ((nm.size : Int) < 1) = true := by simp; omega
    go_enter Tryz.func75, Tryz.ntmps75
    go_wp2
    go_ret
    exact ⟨congrArg (fun b => Ending.returned (Value.bool b)) e.out.symm, Below.refl _ _⟩
  have q0' : decide ((nm.size : Int) < 1) = false := by simp; omega
  by_cases q1 : 16 < nm.size
  · have e := Lib.hid (name_over (A := A) (Or.inr q1))
    have q1' : decide ((nm.size : Int) > 16) = true := by simp; omega
    go_enter Tryz.func75, Tryz.ntmps75
    go_wp2
    go_ret
    exact ⟨congrArg (fun b => Ending.returned (Value.bool b)) e.out.symm, Below.refl _ _⟩
  have q1' : decide ((nm.size : Int) > 16) = false := by simp; omega
  have hsz := Lib.hid (show 1 ≤ nm.size ∧ nm.size ≤ 16 by omega)
  have hst : Hid (∀ x ∈ A.take 0, x.nm ≠ nm) := Lib.hid (by simp)
  go_enter Tryz.func75, Tryz.ntmps75
  go_wp2
  go_loopw [17] (fun i17 wr => ∃ (j : Nat), j ≤ n ∧ i17 = .int .i64 j ∧ Hid (∀ x ∈ A.take j, x.nm ≠ nm) ∧ Hid (Below w.heap.size w wr)) (fun i17 _ => n - (intOf i17).toNat)
  case atStart => exact ⟨0, by omega, rfl, hst, Lib.hid (Below.refl _ _)⟩
  case round =>
    obtain ⟨j, hj, rfl, hD, hB⟩ := hrel
    by_cases hlt : j < n
    · have hlt' : decide ((j : Int) < (n : Int)) = true := by simp; omega
      have p0 : (0 : Int) ≤ (j : Int) := by omega
      have p1 : (j : Int) < (n : Int) := by omega
      obtain ⟨⟨xn, xs, xf, xb⟩, hx⟩ : ∃ x, A[j]? = some x := ⟨A[j]'(by have := hn'.out; omega), by simp⟩
      obtain ⟨_, _, g', off', xv, rfl, d0, d1, d2, d3, xbv⟩ := (h.out.up hB.out).at hx
      obtain ⟨xa, xc, rfl, _⟩ := xbv.form
      simp only at d0 d1 d2 d3 xbv
      generalize xb.length = xm at *
      have hx' := Lib.hid hx
      clear hx xbv
      by_cases he : xn = nm
      · have e := Lib.hid (name_twice hx'.out he)
        have he' : (xn.toList == nm.toList) = true := bl_eq he
        clear he
        go_wp2
        go_ret
        exact ⟨congrArg (fun b => Ending.returned (Value.bool b)) e.out.symm, hB.out.alloc hB.out.size _⟩
      · have he' : (xn.toList == nm.toList) = false := bl_ne he
        have hD' : Hid (∀ x ∈ A.take (j + 1), x.nm ≠ nm) := Lib.hid (fun x hx => by
          rw [take_next hx'.out] at hx
          rcases List.mem_append.1 hx with hx | hx
          · exact hD.out x hx
          · rw [List.mem_singleton.1 hx]; exact he)
        go_wp2
        go_roundw
        case rel => exact ⟨j + 1, by omega, by go_num, hD', Lib.hid (hB.out.alloc hB.out.size _)⟩
        case measure => simp [intOf]; omega
    · have hlt' : decide ((j : Int) < (n : Int)) = false := by simp; omega
      have e := Lib.hid (name_once (A := A) hsz.out.1 hsz.out.2 (by have := hD.out; rw [show j = A.length by have := hn'.out; omega, List.take_length] at this; exact this))
      go_wp2
      go_ret
      exact ⟨congrArg (fun b => Ending.returned (Value.bool b)) e.out.symm, hB.out⟩
theorem sup_f {A : List ClassA} {s f : Int} (h : f < 0 ∨ 62 < f) : supR A s f = false := by
  unfold supR
  rcases h with h | h
  · rw [decide_eq_false (p := 0 ≤ f) (by omega)]; rfl
  · rw [decide_eq_false (p := f ≤ 62) (by omega)]; simp
theorem sup_n {A : List ClassA} {s f : Int} (h1 : 0 ≤ f) (h2 : f ≤ 62) (h : s = -1) : supR A s f = true := by
  unfold supR; rw [decide_eq_true h1, decide_eq_true h2, decide_eq_true h]; rfl
theorem sup_o {A : List ClassA} {s f : Int} (h : ¬ s = -1) (h' : s < 0 ∨ (A.length : Int) ≤ s) : supR A s f = false := by
  unfold supR
  rw [decide_eq_false h]
  rcases h' with h | h
  · rw [decide_eq_false (p := 0 ≤ s) (by omega)]; simp
  · rw [decide_eq_false (p := s < A.length) (by omega)]; simp
theorem sup_i {A : List ClassA} {s f : Int} (h1 : 0 ≤ f) (h2 : f ≤ 62) (h3 : 0 ≤ s) (h4 : s < A.length) : supR A s f = (decide ((chain A s).length < 8) && decide (superF A s ≤ f)) := by
  unfold supR; rw [decide_eq_true h1, decide_eq_true h2, decide_eq_true h3, decide_eq_true h4, decide_eq_false (p := s = -1) (by omega)]; rfl
set_option maxHeartbeats 16000000 in
theorem ksuper {w : World} {v : Value} {A : List ClassA} (h : ClV w v A) (nm : ByteArray) (s f : Int) (bv : Value) (hs : In64 s) (hf : In64 f) :
    Calls Tryz.prog 76 #[v, .agg #[.string nm, .int .i64 s, .int .i64 f, bv]] w fun e w' => e = .returned (.bool (supR A s f)) ∧ Below w.heap.size w w' := by
  obtain ⟨ad, cap, rfl, hcap, hmx⟩ := h.form
  obtain ⟨n, hn⟩ : ∃ n, n = A.length := ⟨_, rfl⟩
  rw [← hn] at h hcap ⊢
  replace h := Lib.hid h
  have hn' := Lib.hid hn
  have hB := Lib.hid ((Below.refl w.heap.size w).alloc (Nat.le_refl _) (.cells #[.string nm, .int .i64 s, .int .i64 f, bv] 45))
  obtain ⟨f0, f1⟩ := hf
  clear hmx hn
  by_cases q0 : f < 0
  · have e := Lib.hid (sup_f (A := A) (s := s) (Or.inl q0))
    have q0' : decide (f < 0) = true := by simpa using q0
    go_enter Tryz.func76, Tryz.ntmps76
    go_wp2
    go_ret
    exact ⟨congrArg (fun b => Ending.returned (Value.bool b)) e.out.symm, hB.out⟩
  have q0' : decide (f < 0) = false := by simpa using q0
  by_cases q1 : 62 < f
  · have e := Lib.hid (sup_f (A := A) (s := s) (Or.inr q1))
    have q1' : decide (f > 62) = true := by simpa using q1
    go_enter Tryz.func76, Tryz.ntmps76
    go_wp2
    go_ret
    exact ⟨congrArg (fun b => Ending.returned (Value.bool b)) e.out.symm, hB.out⟩
  have q1' : decide (f > 62) = false := by simpa using q1
  by_cases q2 : s = -1
  · have e := Lib.hid (sup_n (A := A) (f := f) (by omega) (by omega) q2)
    have q2' : (s == -1) = true := by simpa using q2
    clear q2
    go_enter Tryz.func76, Tryz.ntmps76
    go_wp2
    go_ret
    exact ⟨congrArg (fun b => Ending.returned (Value.bool b)) e.out.symm, hB.out⟩
  have q2' : (s == -1) = false := by simpa using q2
  by_cases q3 : s < 0 ∨ (n : Int) ≤ s
  · have e := Lib.hid (sup_o (A := A) (f := f) q2 (by have := hn'.out; omega))
    have PI := Lib.hid (isc_n ad n cap s q3)
    have c1' : Hid ((w.alloc (.cells #[.string nm, .int .i64 s, .int .i64 f, bv] 45)).cell? ⟨w.heap.size, 1, none⟩ = some (.int .i64 s)) := Lib.hid (by simp)
    have c2' : Hid ((w.alloc (.cells #[.string nm, .int .i64 s, .int .i64 f, bv] 45)).cell? ⟨w.heap.size, 2, none⟩ = some (.int .i64 f)) := Lib.hid (by simp)
    go_enter Tryz.func76, Tryz.ntmps76
    go_wp2
    refine wp_region_held_drew (S := (fun wr' => wr'.cell? ⟨w.heap.size, 1, none⟩ = some (.int .i64 s) ∧ wr'.cell? ⟨w.heap.size, 2, none⟩ = some (.int .i64 f))) (by kernel_rfl) ?_ (fun hHeld => ?_)
    · (try dsimp only); exact ⟨c1'.out, c2'.out⟩
    try simp only [Act.put, nA]
    refine tk (i := 0) (oi := ⟨some 16, .move (.tmp 0), 23, "shape.go:83", #[], none⟩) ?_
    try simp only [Act.put, nA]
    refine tk (i := 1) (oi := ⟨some 17, .fieldAddr 45 (.tmp 3) 1, 0, "shape.go:83", #[], none⟩) ?_
    try simp only [Act.put, nA]
    refine tk (i := 2) (oi := ⟨some 18, .load 3 (.tmp 17), 3, "shape.go:83", #[⟨1, .data⟩], none⟩) ?_
    try simp only [Act.put, nA]
    refine wpAnyH_ready (rs := [3]) (by kernel_rfl) (by simp) ?_
    refine AllReadyH.cons (o := ⟨some 19, .call { callee := .value (.func 96), args := #[.tmp 16, .tmp 18], argTypes := #[23, 3] }, 4, "shape.go:83", #[⟨0, .data⟩, ⟨2, .data⟩], none⟩) rfl (fun K9 hK => ?_) ?_
    · go_simp
      with_reducible refine (PI.out _).mono ?_
      rintro e1 y ⟨rfl, hy⟩
      subst hy
      go_wp2_with fail
      refine hK.out _ _ ?_ ?_
      · (try dsimp only); exact ⟨c1'.out, c2'.out⟩
      clear hK K9 hHeld; intro hHeld
      try simp only [Act.put, nA]
      refine tk (i := 4) (oi := ⟨some 20, .move (.tmp 19), 4, "shape.go:83", #[⟨3, .data⟩, ⟨3, .chain⟩], none⟩) ?_
      try simp only [Act.put, nA]
      refine tu (i := 5) (oi := ⟨some 21, .move (.tmp 0), 23, "shape.go:83", #[⟨4, .guard⟩], some (4, true)⟩) ?_
      try simp only [Act.put, nA]
      refine tu (i := 6) (oi := ⟨some 22, .fieldAddr 45 (.tmp 3) 1, 0, "shape.go:83", #[⟨4, .guard⟩], some (4, true)⟩) ?_
      try simp only [Act.put, nA]
      refine tu (i := 7) (oi := ⟨some 23, .load 3 (.tmp 22), 3, "shape.go:83", #[⟨6, .data⟩, ⟨4, .guard⟩], some (4, true)⟩) ?_
      try simp only [Act.put, nA]
      refine tu (i := 8) (oi := ⟨some 24, .call { callee := .value (.func 101), args := #[.tmp 21, .tmp 23], argTypes := #[23, 3] }, 3, "shape.go:83", #[⟨5, .data⟩, ⟨7, .data⟩, ⟨4, .chain⟩, ⟨4, .guard⟩], some (4, true)⟩) ?_
      try simp only [Act.put, nA]
      refine tu (i := 9) (oi := ⟨some 25, .binOp .lss 3 (.tmp 24) (.const (.int .i64 8)) 3, 4, "shape.go:83", #[⟨8, .data⟩, ⟨4, .guard⟩], some (4, true)⟩) ?_
      try simp only [Act.put, nA]
      refine tk (i := 10) (oi := ⟨some 26, .pick (.tmp 20) (.tmp 25) (.const (.bool false)), 4, "shape.go:83", #[⟨4, .data⟩, ⟨9, .data⟩], none⟩) ?_
      try simp only [Act.put, nA]
      refine tk (i := 11) (oi := ⟨some 27, .move (.tmp 26), 4, "shape.go:83", #[⟨10, .data⟩, ⟨8, .chain⟩], none⟩) ?_
      try simp only [Act.put, nA]
      refine tu (i := 12) (oi := ⟨some 28, .fieldAddr 45 (.tmp 3) 2, 0, "shape.go:83", #[⟨11, .guard⟩], some (11, true)⟩) ?_
      try simp only [Act.put, nA]
      refine tu (i := 13) (oi := ⟨some 29, .load 3 (.tmp 28), 3, "shape.go:83", #[⟨12, .data⟩, ⟨11, .guard⟩], some (11, true)⟩) ?_
      try simp only [Act.put, nA]
      refine tu (i := 14) (oi := ⟨some 30, .move (.tmp 0), 23, "shape.go:83", #[⟨11, .guard⟩], some (11, true)⟩) ?_
      try simp only [Act.put, nA]
      refine tu (i := 15) (oi := ⟨some 31, .fieldAddr 45 (.tmp 3) 1, 0, "shape.go:83", #[⟨11, .guard⟩], some (11, true)⟩) ?_
      try simp only [Act.put, nA]
      refine tu (i := 16) (oi := ⟨some 32, .load 3 (.tmp 31), 3, "shape.go:83", #[⟨15, .data⟩, ⟨11, .guard⟩], some (11, true)⟩) ?_
      try simp only [Act.put, nA]
      refine tu (i := 17) (oi := ⟨some 33, .indexAddr 23 (.tmp 30) (.tmp 32), 0, "shape.go:83", #[⟨14, .data⟩, ⟨16, .data⟩, ⟨11, .guard⟩], some (11, true)⟩) ?_
      try simp only [Act.put, nA]
      refine tu (i := 18) (oi := ⟨some 34, .fieldAddr 45 (.tmp 33) 2, 0, "shape.go:83", #[⟨17, .data⟩, ⟨11, .guard⟩], some (11, true)⟩) ?_
      try simp only [Act.put, nA]
      refine tu (i := 19) (oi := ⟨some 35, .load 3 (.tmp 34), 3, "shape.go:83", #[⟨18, .data⟩, ⟨11, .guard⟩], some (11, true)⟩) ?_
      try simp only [Act.put, nA]
      refine tu (i := 20) (oi := ⟨some 36, .binOp .geq 3 (.tmp 29) (.tmp 35) 3, 4, "shape.go:83", #[⟨13, .data⟩, ⟨19, .data⟩, ⟨11, .guard⟩], some (11, true)⟩) ?_
      try simp only [Act.put, nA]
      refine tk (i := 21) (oi := ⟨some 37, .pick (.tmp 27) (.tmp 36) (.const (.bool false)), 4, "shape.go:83", #[⟨11, .data⟩, ⟨20, .data⟩], none⟩) ?_
      try simp only [Act.put, nA]
      refine tk (i := 22) (oi := ⟨some 4, .assign (.tmp 37), 4, "shape.go:83", #[⟨21, .data⟩, ⟨11, .chain⟩, ⟨0, .phase⟩, ⟨1, .phase⟩, ⟨2, .phase⟩, ⟨3, .phase⟩, ⟨4, .phase⟩, ⟨5, .phase⟩, ⟨6, .phase⟩, ⟨7, .phase⟩, ⟨8, .phase⟩, ⟨9, .phase⟩, ⟨10, .phase⟩, ⟨11, .phase⟩, ⟨12, .phase⟩, ⟨13, .phase⟩, ⟨14, .phase⟩, ⟨15, .phase⟩, ⟨16, .phase⟩, ⟨17, .phase⟩, ⟨18, .phase⟩, ⟨19, .phase⟩, ⟨20, .phase⟩, ⟨21, .phase⟩], none⟩) ?_
      try simp only [Act.put, nA]
      refine wpAnyH_done (by kernel_rfl) ?_ _
      go_wp2_with fail
      go_ret
      exact ⟨congrArg (fun b => Ending.returned (Value.bool b)) e.out.symm, hB.out.drew⟩
    exact AllReadyH.nil
  have PI := Lib.hid (isc_y ad n cap s (by omega) (by omega))
  obtain ⟨k, rfl⟩ : ∃ k : Nat, s = k := ⟨s.toNat, by omega⟩
  obtain ⟨⟨xn, xs, xf, xb⟩, hx⟩ : ∃ x, A[k]? = some x := ⟨A[k]'(by have := hn'.out; omega), by simp⟩
  have he := sup_i (A := A) (s := k) (f := f) (by omega) (by omega) (by omega) (by have := hn'.out; omega)
  have hsf : superF A (k : Int) = xf := by unfold superF; rw [Int.toNat_natCast, hx]
  rw [hsf] at he
  clear hsf
  have p0 : (0 : Int) ≤ (k : Int) := by omega
  have p1 : (k : Int) < (n : Int) := by omega
  have h1 := Lib.hid (h.out.up hB.out)
  obtain ⟨_, _, g', off', xv, rfl, d0, d1, d2, d3, xbv⟩ := h1.out.at hx
  simp only at d2
  have d2' := Lib.hid d2
  have c1 : (w.alloc (.cells #[.string nm, .int .i64 (k : Int), .int .i64 f, bv] 45)).cell? ⟨w.heap.size, 1, none⟩ = some (.int .i64 (k : Int)) := by simp
  have c2 : (w.alloc (.cells #[.string nm, .int .i64 (k : Int), .int .i64 f, bv] 45)).cell? ⟨w.heap.size, 2, none⟩ = some (.int .i64 f) := by simp
  have c1' := Lib.hid c1
  have c2' := Lib.hid c2
  clear d0 d1 d3 xbv hx c1 c2 d2
  have hlen : (chain A (k : Int)).length ≤ 8 := chain_len _ _
  have PD := Lib.hid (fun w' (b : Below (w.alloc (.cells #[.string nm, .int .i64 (k : Int), .int .i64 f, bv] 45)).heap.size (w.alloc (.cells #[.string nm, .int .i64 (k : Int), .int .i64 f, bv] 45)) w') => kdepth (h1.out.up b) (k : Int) hs)
  obtain ⟨d, hd⟩ : ∃ d, d = (chain A (k : Int)).length := ⟨_, rfl⟩
  rw [← hd] at PD he hlen
  clear hd
  by_cases q4 : d < 8
  · have q4' : decide ((d : Int) < 8) = true := by simp; omega
    by_cases q5 : xf ≤ f
    · have e := Lib.hid (he.trans (by simp [q4, q5] : _ = true))
      have q5' : decide (f ≥ xf) = true := by simpa using q5
      clear he
      go_enter Tryz.func76, Tryz.ntmps76
      go_wp2
      refine wp_region_held_drew (S := (fun wr' => wr'.cell? ⟨w.heap.size, 1, none⟩ = some (.int .i64 (k : Int)) ∧ wr'.cell? ⟨w.heap.size, 2, none⟩ = some (.int .i64 f) ∧ wr'.cell? ⟨g', off' + k * 4 + 2, none⟩ = some (.int .i64 xf))) (by kernel_rfl) ?_ (fun hHeld => ?_)
      · (try dsimp only); exact ⟨c1'.out, c2'.out, d2'.out⟩
      try simp only [Act.put, nA]
      refine tk (i := 0) (oi := ⟨some 16, .move (.tmp 0), 23, "shape.go:83", #[], none⟩) ?_
      try simp only [Act.put, nA]
      refine tk (i := 1) (oi := ⟨some 17, .fieldAddr 45 (.tmp 3) 1, 0, "shape.go:83", #[], none⟩) ?_
      try simp only [Act.put, nA]
      refine tk (i := 2) (oi := ⟨some 18, .load 3 (.tmp 17), 3, "shape.go:83", #[⟨1, .data⟩], none⟩) ?_
      try simp only [Act.put, nA]
      refine wpAnyH_ready (rs := [3]) (by kernel_rfl) (by simp) ?_
      refine AllReadyH.cons (o := ⟨some 19, .call { callee := .value (.func 96), args := #[.tmp 16, .tmp 18], argTypes := #[23, 3] }, 4, "shape.go:83", #[⟨0, .data⟩, ⟨2, .data⟩], none⟩) rfl (fun K9 hK => ?_) ?_
      · go_simp
        with_reducible refine (PI.out _).mono ?_
        rintro e1 y ⟨rfl, hy⟩
        subst hy
        go_wp2_with fail
        refine hK.out _ _ ?_ ?_
        · (try dsimp only); exact ⟨c1'.out, c2'.out, d2'.out⟩
        clear hK K9 hHeld; intro hHeld
        try simp only [Act.put, nA]
        refine tk (i := 4) (oi := ⟨some 20, .move (.tmp 19), 4, "shape.go:83", #[⟨3, .data⟩, ⟨3, .chain⟩], none⟩) ?_
        try simp only [Act.put, nA]
        refine tk (i := 5) (oi := ⟨some 21, .move (.tmp 0), 23, "shape.go:83", #[⟨4, .guard⟩], some (4, true)⟩) ?_
        try simp only [Act.put, nA]
        refine tk (i := 6) (oi := ⟨some 22, .fieldAddr 45 (.tmp 3) 1, 0, "shape.go:83", #[⟨4, .guard⟩], some (4, true)⟩) ?_
        try simp only [Act.put, nA]
        refine tk (i := 7) (oi := ⟨some 23, .load 3 (.tmp 22), 3, "shape.go:83", #[⟨6, .data⟩, ⟨4, .guard⟩], some (4, true)⟩) ?_
        try simp only [Act.put, nA]
        refine wpAnyH_ready (rs := [8]) (by kernel_rfl) (by simp) ?_
        refine AllReadyH.cons (o := ⟨some 24, .call { callee := .value (.func 101), args := #[.tmp 21, .tmp 23], argTypes := #[23, 3] }, 3, "shape.go:83", #[⟨5, .data⟩, ⟨7, .data⟩, ⟨4, .chain⟩, ⟨4, .guard⟩], some (4, true)⟩) rfl (fun K9 hK => ?_) ?_
        · go_simp
          with_reducible refine (PD.out _ (Below.refl _ _).drew).mono ?_
          rintro e1 y2 ⟨rfl, hw2⟩
          have hq : Below (w.alloc (.cells #[.string nm, .int .i64 (k : Int), .int .i64 f, bv] 45)).heap.size (w.alloc (.cells #[.string nm, .int .i64 (k : Int), .int .i64 f, bv] 45)) y2 := ((Below.refl _ _).drew).trans hw2
          have hB2 := Lib.hid (hB.out.trans (hq.mono hB.out.size))
          have hk := And.intro (cell_up hq c1'.out) (And.intro (cell_up hq c2'.out) (cell_up hq d2'.out))
          clear hw2 hq
          go_wp2_with fail
          refine hK.out _ _ ?_ ?_
          · (try dsimp only); exact hk
          clear hK K9 hHeld; intro hHeld
          try simp only [Act.put, nA]
          refine tk (i := 9) (oi := ⟨some 25, .binOp .lss 3 (.tmp 24) (.const (.int .i64 8)) 3, 4, "shape.go:83", #[⟨8, .data⟩, ⟨4, .guard⟩], some (4, true)⟩) ?_
          try simp only [Act.put, nA]
          refine tk (i := 10) (oi := ⟨some 26, .pick (.tmp 20) (.tmp 25) (.const (.bool false)), 4, "shape.go:83", #[⟨4, .data⟩, ⟨9, .data⟩], none⟩) ?_
          try simp only [Act.put, nA]
          refine tk (i := 11) (oi := ⟨some 27, .move (.tmp 26), 4, "shape.go:83", #[⟨10, .data⟩, ⟨8, .chain⟩], none⟩) ?_
          try simp only [Act.put, nA]
          refine tk (i := 12) (oi := ⟨some 28, .fieldAddr 45 (.tmp 3) 2, 0, "shape.go:83", #[⟨11, .guard⟩], some (11, true)⟩) ?_
          try simp only [Act.put, nA]
          refine tk (i := 13) (oi := ⟨some 29, .load 3 (.tmp 28), 3, "shape.go:83", #[⟨12, .data⟩, ⟨11, .guard⟩], some (11, true)⟩) ?_
          try simp only [Act.put, nA]
          refine tk (i := 14) (oi := ⟨some 30, .move (.tmp 0), 23, "shape.go:83", #[⟨11, .guard⟩], some (11, true)⟩) ?_
          try simp only [Act.put, nA]
          refine tk (i := 15) (oi := ⟨some 31, .fieldAddr 45 (.tmp 3) 1, 0, "shape.go:83", #[⟨11, .guard⟩], some (11, true)⟩) ?_
          try simp only [Act.put, nA]
          refine tk (i := 16) (oi := ⟨some 32, .load 3 (.tmp 31), 3, "shape.go:83", #[⟨15, .data⟩, ⟨11, .guard⟩], some (11, true)⟩) ?_
          try simp only [Act.put, nA]
          refine tk (i := 17) (oi := ⟨some 33, .indexAddr 23 (.tmp 30) (.tmp 32), 0, "shape.go:83", #[⟨14, .data⟩, ⟨16, .data⟩, ⟨11, .guard⟩], some (11, true)⟩) ?_
          try simp only [Act.put, nA]
          refine tk (i := 18) (oi := ⟨some 34, .fieldAddr 45 (.tmp 33) 2, 0, "shape.go:83", #[⟨17, .data⟩, ⟨11, .guard⟩], some (11, true)⟩) ?_
          try simp only [Act.put, nA]
          refine tk (i := 19) (oi := ⟨some 35, .load 3 (.tmp 34), 3, "shape.go:83", #[⟨18, .data⟩, ⟨11, .guard⟩], some (11, true)⟩) ?_
          try simp only [Act.put, nA]
          refine tk (i := 20) (oi := ⟨some 36, .binOp .geq 3 (.tmp 29) (.tmp 35) 3, 4, "shape.go:83", #[⟨13, .data⟩, ⟨19, .data⟩, ⟨11, .guard⟩], some (11, true)⟩) ?_
          try simp only [Act.put, nA]
          refine tk (i := 21) (oi := ⟨some 37, .pick (.tmp 27) (.tmp 36) (.const (.bool false)), 4, "shape.go:83", #[⟨11, .data⟩, ⟨20, .data⟩], none⟩) ?_
          try simp only [Act.put, nA]
          refine tk (i := 22) (oi := ⟨some 4, .assign (.tmp 37), 4, "shape.go:83", #[⟨21, .data⟩, ⟨11, .chain⟩, ⟨0, .phase⟩, ⟨1, .phase⟩, ⟨2, .phase⟩, ⟨3, .phase⟩, ⟨4, .phase⟩, ⟨5, .phase⟩, ⟨6, .phase⟩, ⟨7, .phase⟩, ⟨8, .phase⟩, ⟨9, .phase⟩, ⟨10, .phase⟩, ⟨11, .phase⟩, ⟨12, .phase⟩, ⟨13, .phase⟩, ⟨14, .phase⟩, ⟨15, .phase⟩, ⟨16, .phase⟩, ⟨17, .phase⟩, ⟨18, .phase⟩, ⟨19, .phase⟩, ⟨20, .phase⟩, ⟨21, .phase⟩], none⟩) ?_
          try simp only [Act.put, nA]
          refine wpAnyH_done (by kernel_rfl) ?_ _
          go_wp2_with fail
          go_ret
          exact ⟨congrArg (fun b => Ending.returned (Value.bool b)) e.out.symm, hB2.out⟩
        exact AllReadyH.nil
      exact AllReadyH.nil
    · have e := Lib.hid (he.trans (by simp [q4, q5] : _ = false))
      have q5' : decide (f ≥ xf) = false := by simpa using q5
      clear he
      go_enter Tryz.func76, Tryz.ntmps76
      go_wp2
      refine wp_region_held_drew (S := (fun wr' => wr'.cell? ⟨w.heap.size, 1, none⟩ = some (.int .i64 (k : Int)) ∧ wr'.cell? ⟨w.heap.size, 2, none⟩ = some (.int .i64 f) ∧ wr'.cell? ⟨g', off' + k * 4 + 2, none⟩ = some (.int .i64 xf))) (by kernel_rfl) ?_ (fun hHeld => ?_)
      · (try dsimp only); exact ⟨c1'.out, c2'.out, d2'.out⟩
      try simp only [Act.put, nA]
      refine tk (i := 0) (oi := ⟨some 16, .move (.tmp 0), 23, "shape.go:83", #[], none⟩) ?_
      try simp only [Act.put, nA]
      refine tk (i := 1) (oi := ⟨some 17, .fieldAddr 45 (.tmp 3) 1, 0, "shape.go:83", #[], none⟩) ?_
      try simp only [Act.put, nA]
      refine tk (i := 2) (oi := ⟨some 18, .load 3 (.tmp 17), 3, "shape.go:83", #[⟨1, .data⟩], none⟩) ?_
      try simp only [Act.put, nA]
      refine wpAnyH_ready (rs := [3]) (by kernel_rfl) (by simp) ?_
      refine AllReadyH.cons (o := ⟨some 19, .call { callee := .value (.func 96), args := #[.tmp 16, .tmp 18], argTypes := #[23, 3] }, 4, "shape.go:83", #[⟨0, .data⟩, ⟨2, .data⟩], none⟩) rfl (fun K9 hK => ?_) ?_
      · go_simp
        with_reducible refine (PI.out _).mono ?_
        rintro e1 y ⟨rfl, hy⟩
        subst hy
        go_wp2_with fail
        refine hK.out _ _ ?_ ?_
        · (try dsimp only); exact ⟨c1'.out, c2'.out, d2'.out⟩
        clear hK K9 hHeld; intro hHeld
        try simp only [Act.put, nA]
        refine tk (i := 4) (oi := ⟨some 20, .move (.tmp 19), 4, "shape.go:83", #[⟨3, .data⟩, ⟨3, .chain⟩], none⟩) ?_
        try simp only [Act.put, nA]
        refine tk (i := 5) (oi := ⟨some 21, .move (.tmp 0), 23, "shape.go:83", #[⟨4, .guard⟩], some (4, true)⟩) ?_
        try simp only [Act.put, nA]
        refine tk (i := 6) (oi := ⟨some 22, .fieldAddr 45 (.tmp 3) 1, 0, "shape.go:83", #[⟨4, .guard⟩], some (4, true)⟩) ?_
        try simp only [Act.put, nA]
        refine tk (i := 7) (oi := ⟨some 23, .load 3 (.tmp 22), 3, "shape.go:83", #[⟨6, .data⟩, ⟨4, .guard⟩], some (4, true)⟩) ?_
        try simp only [Act.put, nA]
        refine wpAnyH_ready (rs := [8]) (by kernel_rfl) (by simp) ?_
        refine AllReadyH.cons (o := ⟨some 24, .call { callee := .value (.func 101), args := #[.tmp 21, .tmp 23], argTypes := #[23, 3] }, 3, "shape.go:83", #[⟨5, .data⟩, ⟨7, .data⟩, ⟨4, .chain⟩, ⟨4, .guard⟩], some (4, true)⟩) rfl (fun K9 hK => ?_) ?_
        · go_simp
          with_reducible refine (PD.out _ (Below.refl _ _).drew).mono ?_
          rintro e1 y2 ⟨rfl, hw2⟩
          have hq : Below (w.alloc (.cells #[.string nm, .int .i64 (k : Int), .int .i64 f, bv] 45)).heap.size (w.alloc (.cells #[.string nm, .int .i64 (k : Int), .int .i64 f, bv] 45)) y2 := ((Below.refl _ _).drew).trans hw2
          have hB2 := Lib.hid (hB.out.trans (hq.mono hB.out.size))
          have hk := And.intro (cell_up hq c1'.out) (And.intro (cell_up hq c2'.out) (cell_up hq d2'.out))
          clear hw2 hq
          go_wp2_with fail
          refine hK.out _ _ ?_ ?_
          · (try dsimp only); exact hk
          clear hK K9 hHeld; intro hHeld
          try simp only [Act.put, nA]
          refine tk (i := 9) (oi := ⟨some 25, .binOp .lss 3 (.tmp 24) (.const (.int .i64 8)) 3, 4, "shape.go:83", #[⟨8, .data⟩, ⟨4, .guard⟩], some (4, true)⟩) ?_
          try simp only [Act.put, nA]
          refine tk (i := 10) (oi := ⟨some 26, .pick (.tmp 20) (.tmp 25) (.const (.bool false)), 4, "shape.go:83", #[⟨4, .data⟩, ⟨9, .data⟩], none⟩) ?_
          try simp only [Act.put, nA]
          refine tk (i := 11) (oi := ⟨some 27, .move (.tmp 26), 4, "shape.go:83", #[⟨10, .data⟩, ⟨8, .chain⟩], none⟩) ?_
          try simp only [Act.put, nA]
          refine tk (i := 12) (oi := ⟨some 28, .fieldAddr 45 (.tmp 3) 2, 0, "shape.go:83", #[⟨11, .guard⟩], some (11, true)⟩) ?_
          try simp only [Act.put, nA]
          refine tk (i := 13) (oi := ⟨some 29, .load 3 (.tmp 28), 3, "shape.go:83", #[⟨12, .data⟩, ⟨11, .guard⟩], some (11, true)⟩) ?_
          try simp only [Act.put, nA]
          refine tk (i := 14) (oi := ⟨some 30, .move (.tmp 0), 23, "shape.go:83", #[⟨11, .guard⟩], some (11, true)⟩) ?_
          try simp only [Act.put, nA]
          refine tk (i := 15) (oi := ⟨some 31, .fieldAddr 45 (.tmp 3) 1, 0, "shape.go:83", #[⟨11, .guard⟩], some (11, true)⟩) ?_
          try simp only [Act.put, nA]
          refine tk (i := 16) (oi := ⟨some 32, .load 3 (.tmp 31), 3, "shape.go:83", #[⟨15, .data⟩, ⟨11, .guard⟩], some (11, true)⟩) ?_
          try simp only [Act.put, nA]
          refine tk (i := 17) (oi := ⟨some 33, .indexAddr 23 (.tmp 30) (.tmp 32), 0, "shape.go:83", #[⟨14, .data⟩, ⟨16, .data⟩, ⟨11, .guard⟩], some (11, true)⟩) ?_
          try simp only [Act.put, nA]
          refine tk (i := 18) (oi := ⟨some 34, .fieldAddr 45 (.tmp 33) 2, 0, "shape.go:83", #[⟨17, .data⟩, ⟨11, .guard⟩], some (11, true)⟩) ?_
          try simp only [Act.put, nA]
          refine tk (i := 19) (oi := ⟨some 35, .load 3 (.tmp 34), 3, "shape.go:83", #[⟨18, .data⟩, ⟨11, .guard⟩], some (11, true)⟩) ?_
          try simp only [Act.put, nA]
          refine tk (i := 20) (oi := ⟨some 36, .binOp .geq 3 (.tmp 29) (.tmp 35) 3, 4, "shape.go:83", #[⟨13, .data⟩, ⟨19, .data⟩, ⟨11, .guard⟩], some (11, true)⟩) ?_
          try simp only [Act.put, nA]
          refine tk (i := 21) (oi := ⟨some 37, .pick (.tmp 27) (.tmp 36) (.const (.bool false)), 4, "shape.go:83", #[⟨11, .data⟩, ⟨20, .data⟩], none⟩) ?_
          try simp only [Act.put, nA]
          refine tk (i := 22) (oi := ⟨some 4, .assign (.tmp 37), 4, "shape.go:83", #[⟨21, .data⟩, ⟨11, .chain⟩, ⟨0, .phase⟩, ⟨1, .phase⟩, ⟨2, .phase⟩, ⟨3, .phase⟩, ⟨4, .phase⟩, ⟨5, .phase⟩, ⟨6, .phase⟩, ⟨7, .phase⟩, ⟨8, .phase⟩, ⟨9, .phase⟩, ⟨10, .phase⟩, ⟨11, .phase⟩, ⟨12, .phase⟩, ⟨13, .phase⟩, ⟨14, .phase⟩, ⟨15, .phase⟩, ⟨16, .phase⟩, ⟨17, .phase⟩, ⟨18, .phase⟩, ⟨19, .phase⟩, ⟨20, .phase⟩, ⟨21, .phase⟩], none⟩) ?_
          try simp only [Act.put, nA]
          refine wpAnyH_done (by kernel_rfl) ?_ _
          go_wp2_with fail
          go_ret
          exact ⟨congrArg (fun b => Ending.returned (Value.bool b)) e.out.symm, hB2.out⟩
        exact AllReadyH.nil
      exact AllReadyH.nil
  · have q4' : decide ((d : Int) < 8) = false := by simp; omega
    have e := Lib.hid (he.trans (by simp [q4] : _ = false))
    clear he
    go_enter Tryz.func76, Tryz.ntmps76
    go_wp2
    refine wp_region_held_drew (S := (fun wr' => wr'.cell? ⟨w.heap.size, 1, none⟩ = some (.int .i64 (k : Int)) ∧ wr'.cell? ⟨w.heap.size, 2, none⟩ = some (.int .i64 f) ∧ wr'.cell? ⟨g', off' + k * 4 + 2, none⟩ = some (.int .i64 xf))) (by kernel_rfl) ?_ (fun hHeld => ?_)
    · (try dsimp only); exact ⟨c1'.out, c2'.out, d2'.out⟩
    try simp only [Act.put, nA]
    refine tk (i := 0) (oi := ⟨some 16, .move (.tmp 0), 23, "shape.go:83", #[], none⟩) ?_
    try simp only [Act.put, nA]
    refine tk (i := 1) (oi := ⟨some 17, .fieldAddr 45 (.tmp 3) 1, 0, "shape.go:83", #[], none⟩) ?_
    try simp only [Act.put, nA]
    refine tk (i := 2) (oi := ⟨some 18, .load 3 (.tmp 17), 3, "shape.go:83", #[⟨1, .data⟩], none⟩) ?_
    try simp only [Act.put, nA]
    refine wpAnyH_ready (rs := [3]) (by kernel_rfl) (by simp) ?_
    refine AllReadyH.cons (o := ⟨some 19, .call { callee := .value (.func 96), args := #[.tmp 16, .tmp 18], argTypes := #[23, 3] }, 4, "shape.go:83", #[⟨0, .data⟩, ⟨2, .data⟩], none⟩) rfl (fun K9 hK => ?_) ?_
    · go_simp
      with_reducible refine (PI.out _).mono ?_
      rintro e1 y ⟨rfl, hy⟩
      subst hy
      go_wp2_with fail
      refine hK.out _ _ ?_ ?_
      · (try dsimp only); exact ⟨c1'.out, c2'.out, d2'.out⟩
      clear hK K9 hHeld; intro hHeld
      try simp only [Act.put, nA]
      refine tk (i := 4) (oi := ⟨some 20, .move (.tmp 19), 4, "shape.go:83", #[⟨3, .data⟩, ⟨3, .chain⟩], none⟩) ?_
      try simp only [Act.put, nA]
      refine tk (i := 5) (oi := ⟨some 21, .move (.tmp 0), 23, "shape.go:83", #[⟨4, .guard⟩], some (4, true)⟩) ?_
      try simp only [Act.put, nA]
      refine tk (i := 6) (oi := ⟨some 22, .fieldAddr 45 (.tmp 3) 1, 0, "shape.go:83", #[⟨4, .guard⟩], some (4, true)⟩) ?_
      try simp only [Act.put, nA]
      refine tk (i := 7) (oi := ⟨some 23, .load 3 (.tmp 22), 3, "shape.go:83", #[⟨6, .data⟩, ⟨4, .guard⟩], some (4, true)⟩) ?_
      try simp only [Act.put, nA]
      refine wpAnyH_ready (rs := [8]) (by kernel_rfl) (by simp) ?_
      refine AllReadyH.cons (o := ⟨some 24, .call { callee := .value (.func 101), args := #[.tmp 21, .tmp 23], argTypes := #[23, 3] }, 3, "shape.go:83", #[⟨5, .data⟩, ⟨7, .data⟩, ⟨4, .chain⟩, ⟨4, .guard⟩], some (4, true)⟩) rfl (fun K9 hK => ?_) ?_
      · go_simp
        with_reducible refine (PD.out _ (Below.refl _ _).drew).mono ?_
        rintro e1 y2 ⟨rfl, hw2⟩
        have hq : Below (w.alloc (.cells #[.string nm, .int .i64 (k : Int), .int .i64 f, bv] 45)).heap.size (w.alloc (.cells #[.string nm, .int .i64 (k : Int), .int .i64 f, bv] 45)) y2 := ((Below.refl _ _).drew).trans hw2
        have hB2 := Lib.hid (hB.out.trans (hq.mono hB.out.size))
        have hk := And.intro (cell_up hq c1'.out) (And.intro (cell_up hq c2'.out) (cell_up hq d2'.out))
        clear hw2 hq
        go_wp2_with fail
        refine hK.out _ _ ?_ ?_
        · (try dsimp only); exact hk
        clear hK K9 hHeld; intro hHeld
        try simp only [Act.put, nA]
        refine tk (i := 9) (oi := ⟨some 25, .binOp .lss 3 (.tmp 24) (.const (.int .i64 8)) 3, 4, "shape.go:83", #[⟨8, .data⟩, ⟨4, .guard⟩], some (4, true)⟩) ?_
        try simp only [Act.put, nA]
        refine tk (i := 10) (oi := ⟨some 26, .pick (.tmp 20) (.tmp 25) (.const (.bool false)), 4, "shape.go:83", #[⟨4, .data⟩, ⟨9, .data⟩], none⟩) ?_
        try simp only [Act.put, nA]
        refine tk (i := 11) (oi := ⟨some 27, .move (.tmp 26), 4, "shape.go:83", #[⟨10, .data⟩, ⟨8, .chain⟩], none⟩) ?_
        try simp only [Act.put, nA]
        refine tu (i := 12) (oi := ⟨some 28, .fieldAddr 45 (.tmp 3) 2, 0, "shape.go:83", #[⟨11, .guard⟩], some (11, true)⟩) ?_
        try simp only [Act.put, nA]
        refine tu (i := 13) (oi := ⟨some 29, .load 3 (.tmp 28), 3, "shape.go:83", #[⟨12, .data⟩, ⟨11, .guard⟩], some (11, true)⟩) ?_
        try simp only [Act.put, nA]
        refine tu (i := 14) (oi := ⟨some 30, .move (.tmp 0), 23, "shape.go:83", #[⟨11, .guard⟩], some (11, true)⟩) ?_
        try simp only [Act.put, nA]
        refine tu (i := 15) (oi := ⟨some 31, .fieldAddr 45 (.tmp 3) 1, 0, "shape.go:83", #[⟨11, .guard⟩], some (11, true)⟩) ?_
        try simp only [Act.put, nA]
        refine tu (i := 16) (oi := ⟨some 32, .load 3 (.tmp 31), 3, "shape.go:83", #[⟨15, .data⟩, ⟨11, .guard⟩], some (11, true)⟩) ?_
        try simp only [Act.put, nA]
        refine tu (i := 17) (oi := ⟨some 33, .indexAddr 23 (.tmp 30) (.tmp 32), 0, "shape.go:83", #[⟨14, .data⟩, ⟨16, .data⟩, ⟨11, .guard⟩], some (11, true)⟩) ?_
        try simp only [Act.put, nA]
        refine tu (i := 18) (oi := ⟨some 34, .fieldAddr 45 (.tmp 33) 2, 0, "shape.go:83", #[⟨17, .data⟩, ⟨11, .guard⟩], some (11, true)⟩) ?_
        try simp only [Act.put, nA]
        refine tu (i := 19) (oi := ⟨some 35, .load 3 (.tmp 34), 3, "shape.go:83", #[⟨18, .data⟩, ⟨11, .guard⟩], some (11, true)⟩) ?_
        try simp only [Act.put, nA]
        refine tu (i := 20) (oi := ⟨some 36, .binOp .geq 3 (.tmp 29) (.tmp 35) 3, 4, "shape.go:83", #[⟨13, .data⟩, ⟨19, .data⟩, ⟨11, .guard⟩], some (11, true)⟩) ?_
        try simp only [Act.put, nA]
        refine tk (i := 21) (oi := ⟨some 37, .pick (.tmp 27) (.tmp 36) (.const (.bool false)), 4, "shape.go:83", #[⟨11, .data⟩, ⟨20, .data⟩], none⟩) ?_
        try simp only [Act.put, nA]
        refine tk (i := 22) (oi := ⟨some 4, .assign (.tmp 37), 4, "shape.go:83", #[⟨21, .data⟩, ⟨11, .chain⟩, ⟨0, .phase⟩, ⟨1, .phase⟩, ⟨2, .phase⟩, ⟨3, .phase⟩, ⟨4, .phase⟩, ⟨5, .phase⟩, ⟨6, .phase⟩, ⟨7, .phase⟩, ⟨8, .phase⟩, ⟨9, .phase⟩, ⟨10, .phase⟩, ⟨11, .phase⟩, ⟨12, .phase⟩, ⟨13, .phase⟩, ⟨14, .phase⟩, ⟨15, .phase⟩, ⟨16, .phase⟩, ⟨17, .phase⟩, ⟨18, .phase⟩, ⟨19, .phase⟩, ⟨20, .phase⟩, ⟨21, .phase⟩], none⟩) ?_
        try simp only [Act.put, nA]
        refine wpAnyH_done (by kernel_rfl) ?_ _
        go_wp2_with fail
        go_ret
        exact ⟨congrArg (fun b => Ending.returned (Value.bool b)) e.out.symm, hB2.out⟩
      exact AllReadyH.nil
    exact AllReadyH.nil
end Wd
end Go.Proofs.YtgfdgdbkifkehaaGreat

/- The landed package's judgement of binds. -/
namespace Go.Proofs.YtgfdgdbkifkehaaGreat
open Go.RowKit
set_option linter.unusedVariables false
set_option maxRecDepth 20000
namespace Wd
theorem any_at {B : List (Int × Int)} {j : Nat} {x : Int × Int} {s : Int} (h : B[j]? = some x) (e : x.1 = s) : B.any (fun x => decide (x.1 = s)) = true := by
  rw [List.any_eq_true]
  exact ⟨x, List.mem_of_getElem? h, by simpa using e⟩
theorem any_not {B : List (Int × Int)} {s : Int} (h : ∀ x ∈ B, x.1 ≠ s) : B.any (fun x => decide (x.1 = s)) = false := by
  rw [Bool.eq_false_iff]
  intro ha
  obtain ⟨x, hx, e⟩ := List.any_eq_true.1 ha
  exact h x hx (by simpa using e)
set_option maxHeartbeats 4000000 in
theorem kbindsname {w : World} {v : Value} {B : List (Int × Int)} (h : PrV w v B) (s : Int) (hs : In64 s) :
    Calls Tryz.prog 102 #[v, .int .i64 s] w fun e w' => e = .returned (.bool (B.any (fun x => decide (x.1 = s)))) ∧ Below w.heap.size w w' := by
  obtain ⟨ad, cap, rfl, hcap, hmx⟩ := h.form
  obtain ⟨n, hn⟩ : ∃ n, n = B.length := ⟨_, rfl⟩
  rw [← hn] at h hcap ⊢
  replace h := Lib.hid h
  have hn' := Lib.hid hn
  have hnm : n ≤ 9223372036854775807 := by have : maxLen ≤ 9223372036854775807 := by decide
                                           omega
  have hst : Hid (∀ x ∈ B.take 0, x.1 ≠ s) := Lib.hid (by simp)
  clear hmx hn
  go_enter Tryz.func102, Tryz.ntmps102
  go_wp2
  go_loopw [9] (fun i9 wr => ∃ (j : Nat), j ≤ n ∧ i9 = .int .i64 j ∧ Hid (∀ x ∈ B.take j, x.1 ≠ s) ∧ Hid (Below w.heap.size w wr)) (fun i9 _ => n - (intOf i9).toNat)
  case atStart => exact ⟨0, by omega, rfl, hst, Lib.hid (Below.refl _ _)⟩
  case round =>
    obtain ⟨j, hj, rfl, hD, hB⟩ := hrel
    by_cases hlt : j < n
    · have hlt' : decide ((j : Int) < (n : Int)) = true := by simp; omega
      have p0 : (0 : Int) ≤ (j : Int) := by omega
      have p1 : (j : Int) < (n : Int) := by omega
      obtain ⟨⟨xs, xm⟩, hx⟩ : ∃ x, B[j]? = some x := ⟨B[j]'(by have := hn'.out; omega), by simp⟩
      obtain ⟨⟨x0, x1⟩, ⟨y0, y1⟩, g', off', rfl, d0, d1⟩ := (h.out.up hB.out).at hx
      have hx' := Lib.hid hx
      clear hx
      simp only at x0 x1 y0 y1 d0 d1
      by_cases he : xs = s
      · have e := Lib.hid (any_at hx'.out he)
        have he' : (xs == s) = true := by simpa using he
        go_wp2
        go_ret
        exact ⟨congrArg (fun b => Ending.returned (Value.bool b)) e.out.symm, hB.out.alloc hB.out.size _⟩
      · have he' : (xs == s) = false := by simpa using he
        have hD' : Hid (∀ x ∈ B.take (j + 1), x.1 ≠ s) := Lib.hid (fun x hx => by
          rw [List.take_add_one, hx'.out] at hx
          rcases List.mem_append.1 hx with hx | hx
          · exact hD.out x hx
          · have e : x = (xs, xm) := by simpa using hx
            rw [e]; exact he)
        go_wp2
        go_roundw
        case rel => exact ⟨j + 1, by omega, by go_num, hD', Lib.hid (hB.out.alloc hB.out.size _)⟩
        case measure => simp [intOf]; omega
    · have hlt' : decide ((j : Int) < (n : Int)) = false := by simp; omega
      have e := Lib.hid (any_not (B := B) (s := s) (by have := hD.out; rw [show j = B.length by have := hn'.out; omega, List.take_length] at this; exact this))
      go_wp2
      go_ret
      exact ⟨congrArg (fun b => Ending.returned (Value.bool b)) e.out.symm, hB.out⟩
theorem binds_over {B : List (Int × Int)} {names methods : Int} (h : 16 < B.length) : bindsOk B names methods = false := by
  unfold bindsOk; rw [decide_eq_false (p := B.length ≤ 16) (by omega)]; simp
theorem take_any {B : List (Int × Int)} {k : Nat} {s : Int} (h : (B.take k).any (fun x => decide (x.1 = s)) = true) : ∃ j x, j < k ∧ B[j]? = some x ∧ x.1 = s := by
  obtain ⟨x, hx, e⟩ := List.any_eq_true.1 h
  obtain ⟨j, hj⟩ := List.getElem?_of_mem hx
  rw [List.getElem?_take] at hj
  by_cases hk : j < k
  · rw [if_pos hk] at hj
    exact ⟨j, x, hk, hj, by simpa using e⟩
  · rw [if_neg hk] at hj; cases hj
theorem take_none {B : List (Int × Int)} {s : Int} (h : B.any (fun x => decide (x.1 = s)) = false) : ∀ x ∈ B, x.1 ≠ s := by
  intro x hx e
  have : B.any (fun x => decide (x.1 = s)) = true := List.any_eq_true.2 ⟨x, hx, by simpa using e⟩
  rw [h] at this; cases this
set_option maxHeartbeats 16000000 in
theorem kbinds {w : World} {v : Value} {B : List (Int × Int)} (h : PrV w v B) (names methods : Int) (hn : In64 names) (hm : In64 methods) :
    Calls Tryz.prog 77 #[v, .int .i64 names, .int .i64 methods] w fun e w' => e = .returned (.bool (bindsOk B names methods)) ∧ Below w.heap.size w w' := by
  obtain ⟨ad, cap, rfl, hcap, hmx⟩ := h.form
  obtain ⟨n, hn⟩ : ∃ n, n = B.length := ⟨_, rfl⟩
  rw [← hn] at h hcap ⊢
  replace h := Lib.hid h
  have hn' := Lib.hid hn
  by_cases h16 : 16 < n
  · have e := Lib.hid (binds_over (names := names) (methods := methods) (by omega : 16 < B.length))
    have h16' : decide ((n : Int) > 16) = true := by simp; omega
    clear hn
    go_enter Tryz.func77, Tryz.ntmps77
    go_wp2
    go_ret
    exact ⟨congrArg (fun b => Ending.returned (Value.bool b)) e.out.symm, Below.refl _ _⟩
  have h16' : decide ((n : Int) > 16) = false := by simp; omega
  have hst : Hid (BdR B names methods 0) := Lib.hid (BdR.start B names methods)
  clear hmx hn
  go_enter Tryz.func77, Tryz.ntmps77
  go_wp2
  go_loopw [14] (fun i14 wr => ∃ (k : Nat), k ≤ n ∧ i14 = .int .i64 k ∧ Hid (BdR B names methods k) ∧ Hid (Below w.heap.size w wr)) (fun i14 _ => n - (intOf i14).toNat)
  case atStart => exact ⟨0, by omega, rfl, hst, Lib.hid (Below.refl _ _)⟩
  case round =>
    obtain ⟨k, hk, rfl, hR, hB⟩ := hrel
    by_cases hlt : k < n
    · have hlt' : decide ((k : Int) < (n : Int)) = true := by simp; omega
      have p0 : (0 : Int) ≤ (k : Int) := by omega
      have p1 : (k : Int) < (n : Int) := by omega
      have p2 : (k : Int) ≤ (cap : Int) := by omega
      obtain ⟨b, hb⟩ : ∃ b, B[k]? = some b := ⟨B[k]'(by have := hn'.out; omega), by simp⟩
      obtain ⟨⟨s0, s1⟩, ⟨m0, m1⟩, g, off, rfl, c0, c1⟩ := (h.out.up hB.out).at hb
      have hb' := Lib.hid hb
      clear hb
      obtain ⟨bs, bm⟩ := b
      simp only at s0 s1 m0 m1 c0 c1
      have hs0 := hB.out.size
      have hB' := Lib.hid (hB.out.alloc hs0 (.cells #[.int .i64 bs, .int .i64 bm] 53))
      by_cases q0 : bs < 0
      · have e := Lib.hid (bind_bad hb'.out (bindOk_not (Or.inl q0) : bindOk names methods (bs, bm) = false))
        have q0' : decide (bs < 0) = true := by simpa using q0
        go_wp2
        go_big_quiet (fail)
        go_wp2
        go_ret
        exact ⟨congrArg (fun b => Ending.returned (Value.bool b)) e.out.symm, hB'.out.trans ((drewK _ _).mono hB'.out.size)⟩
      have q0' : decide (bs < 0) = false := by simpa using q0
      by_cases q1 : names ≤ bs
      · have e := Lib.hid (bind_bad hb'.out (bindOk_not (Or.inr (Or.inl q1)) : bindOk names methods (bs, bm) = false))
        have q1' : decide (bs ≥ names) = true := by simpa using q1
        go_wp2
        go_big_quiet (fail)
        go_wp2
        go_ret
        exact ⟨congrArg (fun b => Ending.returned (Value.bool b)) e.out.symm, hB'.out.trans ((drewK _ _).mono hB'.out.size)⟩
      have q1' : decide (bs ≥ names) = false := by simpa using q1
      by_cases q2 : bm < 0
      · have e := Lib.hid (bind_bad hb'.out (bindOk_not (Or.inr (Or.inr (Or.inl q2))) : bindOk names methods (bs, bm) = false))
        have q2' : decide (bm < 0) = true := by simpa using q2
        go_wp2
        go_big_quiet (fail)
        go_wp2
        go_ret
        exact ⟨congrArg (fun b => Ending.returned (Value.bool b)) e.out.symm, hB'.out.trans ((drewK _ _).mono hB'.out.size)⟩
      have q2' : decide (bm < 0) = false := by simpa using q2
      by_cases q3 : methods ≤ bm
      · have e := Lib.hid (bind_bad hb'.out (bindOk_not (Or.inr (Or.inr (Or.inr q3))) : bindOk names methods (bs, bm) = false))
        have q3' : decide (bm ≥ methods) = true := by simpa using q3
        go_wp2
        go_big_quiet (fail)
        go_wp2
        go_ret
        exact ⟨congrArg (fun b => Ending.returned (Value.bool b)) e.out.symm, hB'.out.trans ((drewK _ _).mono hB'.out.size)⟩
      have q3' : decide (bm ≥ methods) = false := by simpa using q3
      have hok := Lib.hid (bindOk_of (b := (bs, bm)) (by omega) (by omega) (by omega) (by omega) : bindOk names methods (bs, bm) = true)
      have h' := Lib.hid ((h.out.up hB'.out).take k (by have := hn'.out; omega))
      have hs64 : Hid (In64 bs) := Lib.hid ⟨s0, s1⟩
      clear hs0
      cases ha : (B.take k).any (fun x => decide (x.1 = bs)) with
      | true =>
        obtain ⟨j, x, hj, hx, ex⟩ := take_any ha
        have e := Lib.hid (bind_twice (names := names) (methods := methods) hb'.out hx hj ex)
        have ha' := Lib.hid ha
        clear hx ex ha
        go_wp2
        go_region_with (first | (go_at_call 102; (with_reducible refine (kbindsname (h'.out.up ((Below.refl _ _).drew)) bs hs64.out).mono ?_); rintro e1 w2 ⟨he1, hw2⟩; rw [ha'.out] at he1; subst he1; have hq : Below (wr.alloc (.cells #[.int .i64 bs, .int .i64 bm] 53)).heap.size (wr.alloc (.cells #[.int .i64 bs, .int .i64 bm] 53)) w2 := ((Below.refl _ _).drew).trans hw2; have hB2 := Lib.hid (hB'.out.trans (hq.mono hB'.out.size)); clear hw2 hq))
        go_wp2
        go_ret
        exact ⟨congrArg (fun b => Ending.returned (Value.bool b)) e.out.symm, hB2.out⟩
      | false =>
        have hR' := Lib.hid (hR.out.step hb'.out hok.out (take_none ha))
        have ha' := Lib.hid ha
        clear ha
        go_wp2
        go_region_with (first | (go_at_call 102; (with_reducible refine (kbindsname (h'.out.up ((Below.refl _ _).drew)) bs hs64.out).mono ?_); rintro e1 w2 ⟨he1, hw2⟩; rw [ha'.out] at he1; subst he1; have hq : Below (wr.alloc (.cells #[.int .i64 bs, .int .i64 bm] 53)).heap.size (wr.alloc (.cells #[.int .i64 bs, .int .i64 bm] 53)) w2 := ((Below.refl _ _).drew).trans hw2; have hB2 := Lib.hid (hB'.out.trans (hq.mono hB'.out.size)); clear hw2 hq))
        go_wp2
        go_roundw
        case rel => exact ⟨k + 1, by omega, by go_num, hR', hB2⟩
        case measure => simp [intOf]; omega
    · have hlt' : decide ((k : Int) < (n : Int)) = false := by simp; omega
      have hR' : BdR B names methods B.length := by have := hR.out; rw [show k = B.length by have := hn'.out; omega] at this; exact this
      have e := hR'.last
      rw [decide_eq_true (show B.length ≤ 16 by have := hn'.out; omega)] at e
      replace e := Lib.hid e
      clear hR'
      go_wp2
      go_ret
      exact ⟨congrArg (fun b => Ending.returned (Value.bool b)) e.out.symm, hB.out⟩
end Wd
end Go.Proofs.YtgfdgdbkifkehaaGreat

/- The landed judgement of classes. -/
namespace Go.Proofs.YtgfdgdbkifkehaaGreat
open Go.RowKit
set_option linter.unusedVariables false
set_option maxRecDepth 20000
namespace Wd
theorem name_of {A : List ClassA} {nm : ByteArray} (h : nameR A nm = true) : textOk nm = true ∧ ∀ x ∈ A, x.nm ≠ nm := by
  unfold nameR at h
  rw [Bool.and_eq_true] at h
  refine ⟨h.1, fun x hx e => ?_⟩
  have : A.any (fun x => decide (x.nm = nm)) = true := List.any_eq_true.2 ⟨x, hx, by simpa using e⟩
  rw [this] at h
  exact absurd h.2 (by decide)
theorem ShR.nm {L : List ClassA} {names methods : Int} {k : Nat} {c : ClassA} (h : ShR L names methods k) (hc : L[k]? = some c) (e : nameR (L.take k) c.nm = false) : shapeR L names methods = 13 := by
  rw [h.eq, drop_next hc, shapeFrom]
  by_cases ht : textOk c.nm = false
  · rw [if_pos ht]
  · rw [if_neg ht]
    have : (L.take k).any (fun x => decide (x.nm = c.nm)) = true := by
      unfold nameR at e
      have ht' : textOk c.nm = true := by simpa using ht
      rw [ht', Bool.true_and] at e
      simpa using e
    rw [if_pos this]
set_option maxHeartbeats 16000000 in
theorem kright {w : World} {v : Value} {L : List ClassA} (h : ClV w v L) (names methods : Int) (hn : In64 names) (hm : In64 methods) :
    Calls Tryz.prog 46 #[v, .int .i64 names, .int .i64 methods] w fun e w' => e = .returned (.int .i64 (shapeR L names methods)) ∧ Below w.heap.size w w' := by
  obtain ⟨ad, cap, rfl, hcap, hmx⟩ := h.form
  obtain ⟨n, hnn⟩ : ∃ n, n = L.length := ⟨_, rfl⟩
  rw [← hnn] at h hcap ⊢
  replace h := Lib.hid h
  have hn' := Lib.hid hnn
  by_cases q0 : n < 2
  · have e := Lib.hid (shape_short (names := names) (methods := methods) (Or.inl (by omega : L.length < 2)))
    have q0' : decide ((n : Int) < 2) = true := by simp; omega
    go_enter Tryz.func46, Tryz.ntmps46
    go_wp2
    go_ret
    exact ⟨congrArg (fun b => Ending.returned (Value.int .i64 b)) e.out.symm, Below.refl _ _⟩
  have q0' : decide ((n : Int) < 2) = false := by simp; omega
  by_cases q1 : 12 < n
  · have e := Lib.hid (shape_short (names := names) (methods := methods) (Or.inr (by omega : 12 < L.length)))
    have q1' : decide ((n : Int) > 12) = true := by simp; omega
    go_enter Tryz.func46, Tryz.ntmps46
    go_wp2
    go_ret
    exact ⟨congrArg (fun b => Ending.returned (Value.int .i64 b)) e.out.symm, Below.refl _ _⟩
  have q1' : decide ((n : Int) > 12) = false := by simp; omega
  have q2' : (0 : Int) < (n : Int) := by omega
  have q3' : (1 : Int) < (n : Int) := by omega
  obtain ⟨⟨an, sa, af, ab⟩, ha⟩ : ∃ x, L[0]? = some x := ⟨L[0]'(by omega), by simp⟩
  obtain ⟨⟨bn, sb, bf, bb⟩, hb⟩ : ∃ x, L[1]? = some x := ⟨L[1]'(by omega), by simp⟩
  have hh := head_at ha hb
  obtain ⟨_, _, g, off, av, rfl, c0, c1, c2, c3, _⟩ := h.out.at ha
  obtain ⟨_, _, g', off', bv, eg, d0, d1, d2, d3, _⟩ := h.out.at hb
  cases eg
  clear hmx
  simp only at c0 c1 c2 d0 d1 d2 hh
  simp only [Nat.zero_mul, Nat.add_zero] at c0 c1 c2 c3
  simp only [Nat.one_mul] at d0 d1 d2 d3
  have d0' := Lib.hid d0
  have d1' := Lib.hid d1
  have d2' := Lib.hid d2
  have d3' := Lib.hid d3
  clear d0 d1 d2 d3
  obtain ⟨b1, hb1⟩ : ∃ b, b = (decide (sa = -1) && decide (af = 4)) := ⟨_, rfl⟩
  obtain ⟨b2, hb2⟩ : ∃ b, b = (decide (sb = -1) && decide (bf = 0)) := ⟨_, rfl⟩
  have P1 := Lib.hid (fun w => isroot_c an sa af av 4 w b1 hb1)
  have P2 := Lib.hid (fun w => isroot_c bn sb bf bv 0 w b2 hb2)
  have hh' : headOk L = (b1 && b2) := by
    rw [hh, hb1, hb2]
    cases decide (sa = -1) <;> cases decide (af = 4) <;> cases decide (sb = -1) <;> cases decide (bf = 0) <;> rfl
  clear hb1 hb2 hh
  cases b1 with
  | false =>
    have e := Lib.hid (shape_head (L := L) (names := names) (methods := methods) (by omega) (by omega) (by rw [hh']; rfl))
    clear hh' hnn ha hb
    go_enter Tryz.func46, Tryz.ntmps46
    go_wp2_with (first | (go_at_call 74; ((with_reducible refine (P1.out _).mono ?_); rintro e1 w2 ⟨rfl, hw2⟩)))
    go_ret
    exact ⟨congrArg (fun b => Ending.returned (Value.int .i64 b)) e.out.symm, hw2⟩
  | true =>
  cases b2 with
  | false =>
    have e := Lib.hid (shape_head (L := L) (names := names) (methods := methods) (by omega) (by omega) (by rw [hh']; rfl))
    clear hh' hnn ha hb
    go_enter Tryz.func46, Tryz.ntmps46
    go_wp2_with (first | (go_at_call 74; first | ((with_reducible refine (P1.out _).mono ?_); rintro e1 w2 ⟨rfl, hw2⟩; have d0 := cell_up hw2 d0'.out; have d1 := cell_up hw2 d1'.out; have d2 := cell_up hw2 d2'.out; have d3 := cell_up hw2 d3'.out; have d1b : w2.cell? ⟨g, off + 5, none⟩ = some (.int .i64 sb) := d1; have d2b : w2.cell? ⟨g, off + 6, none⟩ = some (.int .i64 bf) := d2; have d3b : w2.cell? ⟨g, off + 7, none⟩ = some bv := d3) | ((with_reducible refine (P2.out _).mono ?_); rintro e1 w3 ⟨rfl, hw3⟩)))
    go_ret
    exact ⟨congrArg (fun b => Ending.returned (Value.int .i64 b)) e.out.symm, hw2.trans (hw3.mono hw2.size)⟩
  | true =>
  have hst : Hid (ShR L names methods 0) := Lib.hid (ShR.start (by omega) (by omega) (by rw [hh']; rfl))
  have hn12 : n ≤ 12 := by omega
  clear hh' hnn ha hb
  go_enter Tryz.func46, Tryz.ntmps46
  go_wp2_with (first | (go_at_call 74; first | ((with_reducible refine (P1.out _).mono ?_); rintro e1 w2 ⟨rfl, hw2⟩; have d0 := cell_up hw2 d0'.out; have d1 := cell_up hw2 d1'.out; have d2 := cell_up hw2 d2'.out; have d3 := cell_up hw2 d3'.out; have d1b : w2.cell? ⟨g, off + 5, none⟩ = some (.int .i64 sb) := d1; have d2b : w2.cell? ⟨g, off + 6, none⟩ = some (.int .i64 bf) := d2; have d3b : w2.cell? ⟨g, off + 7, none⟩ = some bv := d3) | ((with_reducible refine (P2.out _).mono ?_); rintro e1 w3 ⟨rfl, hw3⟩; have hB0 := Lib.hid (hw2.trans (hw3.mono hw2.size)); clear hw2 hw3)))
  clear c0 c1 c2 c3 d0 d1 d2 d3 d1b d2b d3b d0' d1' d2' d3' P1 P2
  go_loopw [31] (fun i31 wr => ∃ (k : Nat), k ≤ n ∧ i31 = .int .i64 k ∧ Hid (ShR L names methods k) ∧ Hid (Below w.heap.size w wr)) (fun i31 _ => n - (intOf i31).toNat)
  case atStart => exact ⟨0, by omega, rfl, hst, hB0⟩
  case round =>
    clear hB0 hst
    obtain ⟨k, hk, rfl, hR, hB⟩ := hrel
    by_cases hlt : k < n
    · have hlt' : decide ((k : Int) < (n : Int)) = true := by simp; omega
      have p0 : (0 : Int) ≤ (k : Int) := by omega
      have p1 : (k : Int) < (n : Int) := by omega
      have p2 : (k : Int) ≤ (cap : Int) := by omega
      obtain ⟨⟨nm, s, fl, bds⟩, hc⟩ : ∃ x, L[k]? = some x := ⟨L[k]'(by have := hn'.out; omega), by simp⟩
      obtain ⟨s64, f64, g', off', bv, eg, c0, c1, c2, c3, hbv⟩ := (h.out.up hB.out).at hc
      cases eg
      obtain ⟨ba, bc, rfl, _⟩ := hbv.form
      simp only at s64 f64 c0 c1 c2 c3 hbv
      have hc' := Lib.hid hc
      have hs0 := hB.out.size
      have hB1 := Lib.hid (hB.out.alloc hs0 (.cells #[.string nm, .int .i64 s, .int .i64 fl, .slice ba bds.length bc] 45))
      have hbv' := Lib.hid (hbv.up ((Below.refl wr.heap.size wr).alloc (Nat.le_refl _) (.cells #[.string nm, .int .i64 s, .int .i64 fl, .slice ba bds.length bc] 45)))
      have hA := Lib.hid ((h.out.up hB1.out).take k (by have := hn'.out; omega))
      have k0 : Hid ((wr.alloc (.cells #[.string nm, .int .i64 s, .int .i64 fl, .slice ba bds.length bc] 45)).cell? ⟨wr.heap.size, 0, none⟩ = some (.string nm)) := Lib.hid (by simp)
      have k1 : Hid ((wr.alloc (.cells #[.string nm, .int .i64 s, .int .i64 fl, .slice ba bds.length bc] 45)).cell? ⟨wr.heap.size, 1, none⟩ = some (.int .i64 s)) := Lib.hid (by simp)
      have k2 : Hid ((wr.alloc (.cells #[.string nm, .int .i64 s, .int .i64 fl, .slice ba bds.length bc] 45)).cell? ⟨wr.heap.size, 2, none⟩ = some (.int .i64 fl)) := Lib.hid (by simp)
      have k3 : Hid ((wr.alloc (.cells #[.string nm, .int .i64 s, .int .i64 fl, .slice ba bds.length bc] 45)).cell? ⟨wr.heap.size, 3, none⟩ = some (.slice ba bds.length bc)) := Lib.hid (by simp)
      have eS := Lib.hid (sup_eq (c := ⟨nm, s, fl, bds⟩) hR.out.down (by have := hn'.out; omega : k ≤ L.length))
      simp only at eS
      have hs64 := Lib.hid s64
      have hf64 := Lib.hid f64
      clear hbv hc hs0 s64 f64
      generalize bds.length = bm at *
      go_upto_region 8 with fail
      clear c0 c1 c2 c3
      generalize wr.alloc (.cells #[.string nm, .int .i64 s, .int .i64 fl, .slice ba bm bc] 45) = w1 at *
      generalize wr.heap.size = B8 at *
      have c0 := k0.out
      cases hN : nameR (L.take k) nm with
      | false =>
        have e := Lib.hid (hR.out.nm hc'.out hN)
        have hN' := Lib.hid hN
        clear hN
        go_region_with (first | (go_at_call 75; (with_reducible refine (kname (hA.out.up ((Below.refl _ _).drew)) nm).mono ?_); rintro e1 w2 ⟨he1, hw2⟩; rw [hN'.out] at he1; subst he1; have hq : Below w1.heap.size w1 w2 := ((Below.refl _ _).drew).trans hw2; have hB2 := Lib.hid (hB1.out.trans (hq.mono hB1.out.size)); clear hw2 hq))
        go_wp2
        go_ret
        exact ⟨congrArg (fun b => Ending.returned (Value.int .i64 b)) e.out.symm, hB2.out⟩
      | true =>
        obtain ⟨ht, hna⟩ := name_of hN
        have ht' := Lib.hid ht
        have hna' := Lib.hid hna
        have hN' := Lib.hid hN
        clear hN ht hna
        go_region_with (first | (go_at_call 75; (with_reducible refine (kname (hA.out.up ((Below.refl _ _).drew)) nm).mono ?_); rintro e1 w2 ⟨he1, hw2⟩; rw [hN'.out] at he1; subst he1; have hq : Below w1.heap.size w1 w2 := ((Below.refl _ _).drew).trans hw2; have hB2 := Lib.hid (hB1.out.trans (hq.mono hB1.out.size)); have m0 := cell_up hq k0.out; have m1 := cell_up hq k1.out; have m2 := cell_up hq k2.out; have m3 := cell_up hq k3.out; have m3' := Lib.hid m3; have hA2 := Lib.hid (hA.out.up hq); have hbv2 := Lib.hid (hbv'.out.up hq); clear hw2 hq))
        clear hA hbv' hB1 k0 k1 k2 k3 c0
        go_upto_region 10 with fail
        have hKS := Lib.hid (fun w' (b : Below w2.heap.size w2 w') => ksuper (hA2.out.up b) nm s fl (.slice ba bm bc) hs64.out hf64.out)
        cases hC : classOk L k ⟨nm, s, fl, bds⟩ with
        | false =>
          have e := Lib.hid (hR.out.cls hc'.out ht'.out hna'.out hC)
          have hC' := Lib.hid (eS.out.symm.trans hC)
          clear hC
          go_region_with (first | (go_at_call 76; (with_reducible refine (hKS.out _ (Below.refl _ _).drew).mono ?_); rintro e1 w3 ⟨he1, hw3⟩; rw [hC'.out] at he1; subst he1; have hq : Below w2.heap.size w2 w3 := ((Below.refl _ _).drew).trans hw3; have hB3 := Lib.hid (hB2.out.trans (hq.mono hB2.out.size)); clear hw3 hq))
          go_wp2
          go_ret
          exact ⟨congrArg (fun b => Ending.returned (Value.int .i64 b)) e.out.symm, hB3.out⟩
        | true =>
          have hC' := Lib.hid (eS.out.symm.trans hC)
          have hC2 := Lib.hid hC
          clear hC
          go_region_with (first | (go_at_call 76; (with_reducible refine (hKS.out _ (Below.refl _ _).drew).mono ?_); rintro e1 w3 ⟨he1, hw3⟩; rw [hC'.out] at he1; subst he1; have hq : Below w2.heap.size w2 w3 := ((Below.refl _ _).drew).trans hw3; have hB3 := Lib.hid (hB2.out.trans (hq.mono hB2.out.size)); have n3 := cell_up hq m3'.out; have hbv3 := Lib.hid (hbv2.out.up hq); clear hw3 hq))
          clear m0 m1 m2 m3 m3' hA2 hbv2 hKS hB2
          have PB := Lib.hid (kbinds hbv3.out names methods hn hm)
          cases hb : bindsOk bds names methods with
          | false =>
            have e := Lib.hid (hR.out.bnd hc'.out ht'.out hna'.out hC2.out hb)
            rw [hb] at PB
            clear hb
            go_wp2_with (first | (go_at_call 77; ((with_reducible refine PB.out.mono ?_); rintro e1 w4 ⟨rfl, hw4⟩)))
            go_ret
            exact ⟨congrArg (fun b => Ending.returned (Value.int .i64 b)) e.out.symm, hB3.out.trans (hw4.mono hB3.out.size)⟩
          | true =>
            have hR' := Lib.hid (hR.out.step hc'.out ht'.out hna'.out hC2.out hb)
            rw [hb] at PB
            clear hb
            go_wp2_with (first | (go_at_call 77; ((with_reducible refine PB.out.mono ?_); rintro e1 w4 ⟨rfl, hw4⟩)))
            go_roundw
            case rel => exact ⟨k + 1, by omega, by go_num, hR', Lib.hid (hB3.out.trans (hw4.mono hB3.out.size))⟩
            case measure => simp [intOf]; omega
    · have hlt' : decide ((k : Int) < (n : Int)) = false := by simp; omega
      have e : Hid (shapeR L names methods = 0) := Lib.hid (ShR.last (by have := hR.out; rw [show k = L.length by have := hn'.out; omega] at this; exact this))
      go_wp2
      go_ret
      exact ⟨congrArg (fun b => Ending.returned (Value.int .i64 b)) e.out.symm, hB.out⟩
end Wd
end Go.Proofs.YtgfdgdbkifkehaaGreat
