/- Texts joined: ICO. -/
import Derived.Test.YtgfnelhbdhbklaaGreatJ1
import Derived.Test.YtgfnelhbdhbklaaGreatJ21
/- ImageCounts: a name more is eleven bytes more, an object more eight and eight to a field. -/
namespace Go.Proofs.YtgfnelhbdhbklaaGreat
open Go.RowKit
set_option linter.unusedVariables false
set_option maxRecDepth 20000
namespace Wd
def UZ (w : World) (q : Nat) : Prop := ∀ j, w.frozen? ⟨q, j, none⟩ = false
theorem UZ.up {w w1 : World} {q : Nat} (h : UZ w q) (b : Below w.heap.size w w1) (hq : q < w.heap.size) : UZ w1 q := fun j => (World.frozen?_of_block (a := ⟨q, j, none⟩) (b.block q hq)).trans (h j)
theorem UQ.lt {w : World} {q : Nat} {x0 x1 x2 x3 x4 : Value} {U : UnitA} (h : UQ w q x0 x1 x2 x3 x4 U) : q < w.heap.size := World.block_lt_of_cell? _ _ h.c0
theorem UQ.uv {w : World} {q : Nat} {x0 x1 x2 x3 x4 : Value} {U : UnitA} (h : UQ w q x0 x1 x2 x3 x4 U) : UnV w x0 x1 x2 x3 U := by
  obtain ⟨na, nc, ca, cc, ma, mc, oa, oc, e, hU⟩ := h.un.ex
  have e1 : [x0, x1, x2, x3, x4] = _ := congrArg Array.toList (Value.agg.inj e)
  simp only [List.cons.injEq] at e1
  obtain ⟨rfl, rfl, rfl, rfl, _⟩ := e1
  exact hU
theorem UQ.main {w : World} {q : Nat} {x0 x1 x2 x3 x4 : Value} {U : UnitA} (h : UQ w q x0 x1 x2 x3 x4 U) : x4 = .int .i64 U.main := by
  obtain ⟨na, nc, ca, cc, ma, mc, oa, oc, e, hU⟩ := h.un.ex
  have e1 : [x0, x1, x2, x3, x4] = _ := congrArg Array.toList (Value.agg.inj e)
  simp only [List.cons.injEq] at e1
  exact e1.2.2.2.2.1
theorem UQ.name {w Y : World} {q Z : Nat} {x0 x1 x2 x3 x4 : Value} {U : UnitA} {a : Option Addr} {c : Nat} {x : ByteArray} (h : UQ Y q x0 x1 x2 x3 x4 U) (hU : UnV w x0 x1 x2 x3 U) (hw : w.heap.size = q) (hb : Below q w Y) (hown : Y.ownsRow Z 9 1 (.slice a (U.names.length + 1) c) (U.names.length + 1) (strs U.names ++ strs [x])) (hZ : q < Z) :
    UQ (Y.setCell ⟨q, 0, none⟩ (.slice a (U.names.length + 1) c)) q (.slice a (U.names.length + 1) c) x1 x2 x3 x4 { U with names := U.names ++ [x] } := by
  have far : ∀ i, i ≠ 0 → (⟨q, 0, none⟩ : Addr) ≠ ⟨q, i, none⟩ := fun i hi he => hi (by cases he; rfl)
  have hB : Below q Y (Y.setCell ⟨q, 0, none⟩ (.slice a (U.names.length + 1) c)) := (Below.refl q Y).setCell (p := ⟨q, 0, none⟩) (Nat.le_refl _) _
  have hun : UnV (Y.setCell ⟨q, 0, none⟩ (.slice a (U.names.length + 1) c)) x0 x1 x2 x3 U := hU.up (by rw [hw]; exact hb.trans hB)
  have hCg : Cg (fun k => k = q) Y (Y.setCell ⟨q, 0, none⟩ (.slice a (U.names.length + 1) c)) := (Cg.refl (fun k => k = q) Y).set ⟨q, 0, none⟩ rfl _
  have hown' := row_cg hown hCg (fun k e hq => by have := (hown.lt k e).1; omega)
  have hn : NmV (Y.setCell ⟨q, 0, none⟩ (.slice a (U.names.length + 1) c)) (.slice a (U.names.length + 1) c) (U.names ++ [x]) := NmV.own2 (T := U.names ++ [x]) (by rw [strs_app, List.length_append]; exact hown')
  have h9 := UnV.unk (U := { U with names := U.names ++ [x] }) ⟨hn, hun.c, hun.m, hun.o⟩
  rw [← (show x4 = .int .i64 ({ U with names := U.names ++ [x] } : UnitA).main from h.main)] at h9
  exact ⟨World.cell?_setCell_same _ _ _ h.c0, (World.cell?_setCell_other _ _ _ _ (far 1 (by decide))).trans h.c1, (World.cell?_setCell_other _ _ _ _ (far 2 (by decide))).trans h.c2, (World.cell?_setCell_other _ _ _ _ (far 3 (by decide))).trans h.c3, (World.cell?_setCell_other _ _ _ _ (far 4 (by decide))).trans h.c4, h9⟩
theorem UQ.obj {w Y : World} {q Z kk bv : Nat} {x0 x1 x2 x3 x4 : Value} {U : UnitA} {a : Option Addr} {c : Nat} {M : List (ObjA × Value)} (h : UQ Y q x0 x1 x2 x3 x4 U) (hU : UnV w x0 x1 x2 x3 U) (hw : w.heap.size = q) (hb : Below q w Y) (hM : M.map (·.1) = U.objects) (hMp : ∀ x ∈ M, In64 x.1.cls ∧ PrV w x.2 x.1.flds)
    (hown : Y.ownsRow Z 55 2 (.slice a (U.objects.length + 1) c) (U.objects.length + 1) (ob2s M ++ ob2s [(({ cls := 1, flds := List.replicate kk (0, 0) } : ObjA), Value.slice (some ⟨bv, 0, none⟩) kk kk)])) (hv : Y.ownsRow Z 68 2 (.slice (some ⟨bv, 0, none⟩) kk kk) kk (pr2 (List.replicate kk (0, 0)))) (hZ : q < Z) :
    UQ (Y.setCell ⟨q, 3, none⟩ (.slice a (U.objects.length + 1) c)) q x0 x1 x2 (.slice a (U.objects.length + 1) c) x4 { U with objects := U.objects ++ [⟨1, List.replicate kk (0, 0)⟩] } := by
  have far : ∀ i, i ≠ 3 → (⟨q, 3, none⟩ : Addr) ≠ ⟨q, i, none⟩ := fun i hi he => hi (by cases he; rfl)
  have hB : Below q Y (Y.setCell ⟨q, 3, none⟩ (.slice a (U.objects.length + 1) c)) := (Below.refl q Y).setCell (p := ⟨q, 3, none⟩) (Nat.le_refl _) _
  have hun : UnV (Y.setCell ⟨q, 3, none⟩ (.slice a (U.objects.length + 1) c)) x0 x1 x2 x3 U := hU.up (by rw [hw]; exact hb.trans hB)
  have hCg : Cg (fun k => k = q) Y (Y.setCell ⟨q, 3, none⟩ (.slice a (U.objects.length + 1) c)) := (Cg.refl (fun k => k = q) Y).set ⟨q, 3, none⟩ rfl _
  have hv' := row_cg hv hCg (fun k e hq => by have := (hv.lt k e).1; omega)
  have hown' := row_cg hown hCg (fun k e hq => by have := (hown.lt k e).1; omega)
  have hml : M.length = U.objects.length := by rw [← hM]; simp
  have hob : ObV (Y.setCell ⟨q, 3, none⟩ (.slice a (U.objects.length + 1) c)) (.slice a (U.objects.length + 1) c) (U.objects ++ [⟨1, List.replicate kk (0, 0)⟩]) := by
    have h := ObV.own (T := M ++ [(({ cls := 1, flds := List.replicate kk (0, 0) } : ObjA), Value.slice (some ⟨bv, 0, none⟩) kk kk)]) (by rw [ob2s_app, List.length_append, List.length_singleton, hml]; exact hown') (fun x hx => by
      rcases List.mem_append.1 hx with hx | hx
      · obtain ⟨i1, i2⟩ := hMp x hx
        exact ⟨i1, i2.up (by rw [hw]; exact hb.trans hB)⟩
      · rw [List.mem_singleton.1 hx]
        exact ⟨i64s (by simp) (by simp), PrV.own (T := List.replicate kk (0, 0)) (by rw [List.length_replicate]; exact hv') (fun y hy => by rw [List.eq_of_mem_replicate hy]; exact ⟨i64s (by simp) (by simp), i64s (by simp) (by simp)⟩)⟩)
    rw [List.map_append, hM] at h
    exact h
  have h9 := UnV.unk (U := { U with objects := U.objects ++ [⟨1, List.replicate kk (0, 0)⟩] }) ⟨hun.n, hun.c, hun.m, hob⟩
  rw [← (show x4 = .int .i64 ({ U with objects := U.objects ++ [⟨1, List.replicate kk (0, 0)⟩] } : UnitA).main from h.main)] at h9
  exact ⟨(World.cell?_setCell_other _ _ _ _ (far 0 (by decide))).trans h.c0, (World.cell?_setCell_other _ _ _ _ (far 1 (by decide))).trans h.c1, (World.cell?_setCell_other _ _ _ _ (far 2 (by decide))).trans h.c2, World.cell?_setCell_same _ _ _ h.c3, (World.cell?_setCell_other _ _ _ _ (far 4 (by decide))).trans h.c4, h9⟩
theorem uz_born (w : World) (A : Array Value) (e : TypeId) : UZ (w.alloc (.cells A e)) w.heap.size := fun j => by simp
set_option maxHeartbeats 64000000 in
theorem icounts_any {w : World} {ad : Option Addr} {n cap : Nat} (HA : NumA w ad n) (hn : n ≤ 4611686018427387904) (x : Int) (hx : In64 x) :
    Calls Tryz.prog 7 #[.slice ad n cap, .int .i64 x] w fun e w' => e = .returned (.bool true) ∧ Below w.heap.size w w' := by
  obtain ⟨i0, hi0, hi0z, hi0s, hi0b⟩ := info_parts infoStr
  obtain ⟨i3, hi3, hi3z, hi3s, hi3b⟩ := info_parts infoOb8
  obtain ⟨i5, hi5, hi5z, hi5s, hi5b⟩ := info_parts infoVl8
  have hmx : 100000 ≤ maxLen := by decide
  have PU := Lib.hid (unit_c (tape_tp (cap := cap) HA hn))
  have PN := Lib.hid (fun w => iknown_c w)
  have PW := Lib.hid (fun w => within_c x 0 20 hx.1 hx.2 (by omega) (by omega) (by omega) w)
  have hk := within_bd x 0 20 (by omega)
  generalize within x 0 20 = k0 at *
  obtain ⟨kk, rfl⟩ : ∃ k : Nat, k0 = k := ⟨k0.toNat, by omega⟩
  obtain ⟨ZZ, hmk, hZs, hZl⟩ : ∃ Z : Array Value, (∀ w, (Instr.makeSlice 53 (.int .i64 (kk : Int)) (.int .i64 (kk : Int))).run Tryz.prog w = .ok (.slice (some ⟨w.heap.size, 0, none⟩) kk kk) (w.alloc (.cells Z 68))) ∧ Z.size = kk * 2 ∧ Z.toList = pr2 (List.replicate kk (0, 0)) := by
    refine ⟨madeCells #[.int .i64 0, .int .i64 0] (kk * 2), fun w => ?_, size_madeCells _ _, made_zeros kk⟩
    have := run_make (P := Tryz.prog) w 53 68 i5 _ Tryz.underlying53 hi5 hi5z .i64 .i64 (kk : Int) (kk : Int) (by omega) (Int.le_refl _) (by rw [hi5b]; omega) (by omega)
    rw [hi5s] at this
    simpa [Value.cells] using this
  clear HA
  go_enter Tryz.func7, Tryz.ntmps7
  go_wp2_with fail
  with_reducible refine PU.out.mono ?_
  rintro e wu ⟨nv, cv, mv, ov, rfl, U, hU, hT, _, hcg, _⟩
  have hBu := unit_bel hcg
  obtain ⟨na, nc, ka, kc, ma, mc, oa, oc, rfl, rfl, rfl, rfl⟩ := UnV.forms hU
  have hk6 := UnV.k hU hT.main
  have hrn := Lib.hid hU.n.rd
  clear PU hcg hU
  have hl6 : Hid (U.names.length = 6) := Lib.hid (by rw [hT.names]; rfl)
  have ho5 := hT.ob1
  replace hT := Lib.hid hT
  go_upto_region 2 with fail
  have hA := Lib.hid (UQ.born hk6)
  have hb := Lib.hid (hBu.alloc hBu.size (.cells #[.slice na U.names.length nc, .slice ka U.classes.length kc, .slice ma U.methods.length mc, .slice oa U.objects.length oc, .int .i64 6] 27))
  have hbu := Lib.hid ((Below.refl wu.heap.size wu).alloc (Nat.le_refl _) (.cells #[.slice na U.names.length nc, .slice ka U.classes.length kc, .slice ma U.methods.length mc, .slice oa U.objects.length oc, .int .i64 6] 27))
  clear hk6 hBu
  generalize wu.alloc (.cells #[.slice na U.names.length nc, .slice ka U.classes.length kc, .slice ma U.methods.length mc, .slice oa U.objects.length oc, .int .i64 6] 27) = W0 at *
  obtain ⟨q0, hq0⟩ : ∃ q, q = wu.heap.size := ⟨_, rfl⟩
  rw [← hq0] at hA hbu ⊢
  replace hq0 := Lib.hid hq0
  obtain ⟨a0, a1, a2, a3, a4⟩ := hA.out.five
  have P := Lib.hid (isize_c hA.out.un)
  have hsz : 0 ≤ szU U ∧ szU U ≤ 31768 := by rw [szU_y hT.out.right]; have := bytes_le (right_u hT.out.right); omega
  obtain ⟨s0, hs0⟩ : ∃ s, s = szU U := ⟨_, rfl⟩
  rw [← hs0] at P hsz
  replace hs0 := Lib.hid hs0
  go_wp2_with fail
  with_reducible refine P.out.mono ?_
  rintro e1 w1 ⟨rfl, hb1⟩
  replace hA := Lib.hid (hA.out.up hb1)
  have hbu := Lib.hid (hbu.out.trans (hb1.mono (by have := hA.out.lt; have := hb1.size; have := hbu.out.size; rw [hq0.out]; omega)))
  replace hb := Lib.hid (hb.out.trans (hb1.mono hb.out.size))
  clear a0 a1 a2 a3 a4 P hb1
  obtain ⟨a0, a1, a2, a3, a4⟩ := hA.out.five
  go_upto_region 4 with fail
  clear a0 a1 a2 a3 a4
  have hB := Lib.hid (UQ.born hA.out.un)
  have hBz := Lib.hid (uz_born w1 #[.slice na U.names.length nc, .slice ka U.classes.length kc, .slice ma U.methods.length mc, .slice oa U.objects.length oc, .int .i64 6] 27)
  have hbx := (Below.refl w1.heap.size w1).alloc (Nat.le_refl _) (.cells #[.slice na U.names.length nc, .slice ka U.classes.length kc, .slice ma U.methods.length mc, .slice oa U.objects.length oc, .int .i64 6] 27)
  have hbz1 := Lib.hid hbx
  have huv1 := Lib.hid hA.out.uv
  have hz1 := hb.out.size
  replace hb := Lib.hid (hb.out.trans (hbx.mono hb.out.size))
  have hAn := Lib.hid (hA.out.up hbx)
  have hrd := hrn.out.up (hbu.out.trans (hbx.mono (by have := hA.out.lt; omega)) |>.mono (by rw [← hq0.out]; exact Nat.le_refl _))
  clear hbx
  have hqz1 : w1.heap.size < (w1.alloc (.cells #[.slice na U.names.length nc, .slice ka U.classes.length kc, .slice ma U.methods.length mc, .slice oa U.objects.length oc, .int .i64 6] 27)).heap.size := by simp
  obtain ⟨W1, hW1⟩ : ∃ W, W = w1.alloc (.cells #[.slice na U.names.length nc, .slice ka U.classes.length kc, .slice ma U.methods.length mc, .slice oa U.objects.length oc, .int .i64 6] 27) := ⟨_, rfl⟩
  rw [← hW1] at hB hBz hbz1 hb hAn hrd hqz1 ⊢
  clear hW1
  obtain ⟨q1, hq1⟩ : ∃ q, q = w1.heap.size := ⟨_, rfl⟩
  rw [← hq1] at hB hBz hbz1 hqz1 hz1 ⊢
  replace hq1 := Lib.hid hq1
  have hrd0 := Lib.hid (hrd.up ((Below.refl W1.heap.size W1).alloc (Nat.le_refl _) (.cells #[] 9)))
  have k0 : (W1.alloc (.cells #[] 9)).cell? ⟨q0, 0, none⟩ = some (.slice na U.names.length nc) := (hAn.out.up ((Below.refl _ _).alloc (Nat.le_refl _) _)).c0
  have hlen0 : (strs U.names).length = U.names.length * 1 := by rw [strs_len, Nat.mul_one]
  have hl48 : Hid (U.names.length ≤ 10) := Lib.hid (by rw [hl6.out]; decide)
  clear hrd
  go_upto_region 5 with (first | (at_builtin; refine wpList_app_any rfl (.tmp 19) (.tmp 21) 22 rfl W1.heap.size 9 i0 (.string ByteArray.empty) 1 16 Tryz.underlying22 hi0 hi0z hi0s hi0b rfl (by decide) (.slice (some ⟨W1.heap.size, 0, none⟩) 0 0) (.slice na U.names.length nc) 0 U.names.length [] (strs U.names) (by simp [Act.eval]) (by simp [Act.eval]) (made_none W1 9 1 _ (Nat.le_refl _)) hrd0.out hlen0 (strs_one _) (by have := hl48.out; omega) (by have := hl48.out; omega) (by simp) ?_; intro v1 w2 hown1 hgrow1 hat1; rw [Nat.zero_add, List.nil_append] at hown1; obtain ⟨a1, c1, rfl⟩ := row_shape hown1; have bl1 := grow_new hgrow1; have T1 := Lib.hid (row_bel hown1 ((Below.refl w2.heap.size w2).alloc (Nat.le_refl _) (.cells #[.string anoB] 9))); have T2 : Hid (Rd (w2.alloc (.cells #[.string anoB] 9)) (.slice (some ⟨w2.heap.size, 0, none⟩) 1 1) 1 (strs [anoB])) := Lib.hid (rd_own (World.ownsRow_lit (base := W1.heap.size) (size := 1) w2 #[.string anoB] 1 bl1.size (by omega) rfl)); clear hgrow1 hat1 k0 hrd0) | (at_builtin; refine wpList_app_any rfl (.tmp 22) (.tmp 23) 22 rfl W1.heap.size 9 i0 (.string ByteArray.empty) 1 16 Tryz.underlying22 hi0 hi0z hi0s hi0b rfl (by decide) (.slice a1 U.names.length c1) (.slice (some ⟨w2.heap.size, 0, none⟩) 1 1) U.names.length 1 (strs U.names) (strs [anoB]) (by simp [Act.eval]) (by simp [Act.eval]) T1.out T2.out rfl (strs_one _) (by have := hl48.out; omega) (by have := hl48.out; omega) (by simp only [World.size_alloc]; exact Nat.le_succ_of_le bl1.size) ?_; intro v2 w3 hown2 hgrow2 hat2; obtain ⟨a2, c2, rfl⟩ := row_shape hown2; have bl2 := (bl1.alloc bl1.size (.cells #[.string anoB] 9)).grown hgrow2 (by simp only [World.size_alloc]; exact Nat.le_succ_of_le bl1.size) (fun k hk => (hown1.lt k hk).1); clear hown1 bl1 hgrow2 hat2; have hBn := hB.out.up bl2; have z0 := (hBz.out.up bl2 hqz1) 0; have k0 := hBn.c0))
  have hbs : Below q1 w3 (w3.setCell ⟨q1, 0, none⟩ (.slice a2 (U.names.length + 1) c2)) := (Below.refl q1 w3).setCell (p := ⟨q1, 0, none⟩) (Nat.le_refl _) _
  have hV := Lib.hid (UQ.name (Z := W1.heap.size) (x := anoB) hBn huv1.out hq1.out.symm (hbz1.out.trans (bl2.mono (Nat.le_of_lt hqz1))) hown2 hqz1)
  have hbq := (hbz1.out.trans (bl2.mono (Nat.le_of_lt hqz1))).trans hbs
  replace hA := Lib.hid (hA.out.up (by rw [← hq1.out]; exact hbq))
  replace hb := Lib.hid (hb.out.trans ((bl2.mono hb.out.size).trans (hbs.mono hz1)))
  have hq01 : q0 ≤ q1 := by
    have h1 := hbu.out.size
    rw [hq1.out, hq0.out]; exact h1
  replace hbu := Lib.hid (hbu.out.trans (hbq.mono hq01))
  clear hbs hbq hown2 bl2 k0 z0 hBn T1 T2 hlen0 hbz1 huv1 hB hBz hAn hqz1
  generalize w3.setCell ⟨q1, 0, none⟩ (.slice a2 (U.names.length + 1) c2) = W4 at *
  obtain ⟨b0, b1, b2, b3, b4⟩ := hV.out.five
  have P := isize_c hV.out.un
  rw [sz_name hT.out, ← hs0.out] at P
  replace P := Lib.hid P
  go_wp2_with fail
  with_reducible refine P.out.mono ?_
  rintro e1 w5 ⟨rfl, hb5⟩
  replace hA := Lib.hid (hA.out.up hb5)
  have hq4 : q0 ≤ W4.heap.size := by have := hbu.out.size; rw [hq0.out]; exact this
  replace hbu := Lib.hid (hbu.out.trans (hb5.mono hq4))
  replace hb := Lib.hid (hb.out.trans (hb5.mono hb.out.size))
  clear b0 b1 b2 b3 b4 P hb5 hV hq4 hq1 hz1 hq01
  obtain ⟨a0, a1', a2', a3, a4⟩ := hA.out.five
  go_upto_region 7 with fail
  clear a0 a1' a2' a3 a4
  have hB := Lib.hid (UQ.born hA.out.un)
  have hBz := Lib.hid (uz_born w5 #[.slice na U.names.length nc, .slice ka U.classes.length kc, .slice ma U.methods.length mc, .slice oa U.objects.length oc, .int .i64 6] 27)
  have hbx := (Below.refl w5.heap.size w5).alloc (Nat.le_refl _) (.cells #[.slice na U.names.length nc, .slice ka U.classes.length kc, .slice ma U.methods.length mc, .slice oa U.objects.length oc, .int .i64 6] 27)
  have hbz5 := Lib.hid hbx
  have huv5 := Lib.hid hA.out.uv
  have hz5 := hb.out.size
  obtain ⟨M, hM, hMp, hrd5⟩ := huv5.out.o.rd
  have hrd := hrd5.up hbx
  clear hrd5
  replace hb := Lib.hid (hb.out.trans (hbx.mono hb.out.size))
  have hAn := Lib.hid (hA.out.up hbx)
  clear hbx
  have hqz2 : w5.heap.size < (w5.alloc (.cells #[.slice na U.names.length nc, .slice ka U.classes.length kc, .slice ma U.methods.length mc, .slice oa U.objects.length oc, .int .i64 6] 27)).heap.size := by simp
  obtain ⟨W6, hW6⟩ : ∃ W, W = w5.alloc (.cells #[.slice na U.names.length nc, .slice ka U.classes.length kc, .slice ma U.methods.length mc, .slice oa U.objects.length oc, .int .i64 6] 27) := ⟨_, rfl⟩
  rw [← hW6] at hB hBz hbz5 hb hAn hrd hqz2 ⊢
  clear hW6
  obtain ⟨q2, hq2⟩ : ∃ q, q = w5.heap.size := ⟨_, rfl⟩
  rw [← hq2] at hB hBz hbz5 hqz2 hz5 ⊢
  replace hq2 := Lib.hid hq2
  go_wp2_with fail
  with_reducible refine (PW.out _).mono ?_
  rintro e w7 ⟨rfl, hw⟩
  subst w7
  clear PW
  go_upto_region 8 with fail
  have hml : M.length = U.objects.length := by rw [← hM]; simp
  have hone : ∀ u ∈ ob2s M, u.oneCell' = true := ob2s_one _ (fun y hy => by obtain ⟨_, hp⟩ := hMp y hy; obtain ⟨a, c, e, _⟩ := hp.form; exact ⟨_, _, _, e⟩)
  have hlen : (ob2s M).length = U.objects.length * 2 := by rw [ob2s_len, hml]
  replace hM := Lib.hid hM
  replace hMp := Lib.hid hMp
  replace hrd := Lib.hid hrd
  replace hone := Lib.hid hone
  replace hlen := Lib.hid hlen
  replace hml := Lib.hid hml
  replace hZl := Lib.hid hZl
  replace hZs := Lib.hid hZs
  go_cut [] (fun wx => ∃ a3 c3, Hid (UQ wx q2 (.slice na U.names.length nc) (.slice ka U.classes.length kc) (.slice ma U.methods.length mc) (.slice a3 (U.objects.length + 1) c3) (.int .i64 6) { U with objects := U.objects ++ [⟨1, List.replicate kk (0, 0)⟩] }) ∧ Hid (Below w.heap.size w wx))
  case first =>
    have hS := Lib.hid ((Below.refl W6.heap.size W6).drew)
    refine wp_region_last (d := 10) (fuel := 10) (S := (fun y => Below W6.heap.size W6 y)) (by kernel_rfl) (by kernel_rfl) rfl ?_ (fun hHeld => ?_)
    · (try dsimp only); exact hS.out
    try simp only [Act.put, nA]
    generalize W6.drew = y0 at *
    refine tk (i := 1) (oi := ⟨some 32, .fieldAddr 27 (.tmp 5) 3, 0, "law.go:167", #[], none⟩) (hy := by intro w hSw; (try dsimp only at hSw); have c3 := (hAn.out.up hSw).c3; go_simp <;> with_reducible rfl) ?_
    try simp only [Act.put, nA]
    refine tk (i := 2) (oi := ⟨some 33, .load 25 (.tmp 32), 25, "law.go:167", #[⟨1, .data⟩], none⟩) (hy := by intro w hSw; (try dsimp only at hSw); have c3 := (hAn.out.up hSw).c3; go_simp <;> with_reducible rfl) ?_
    try simp only [Act.put, nA]
    refine tk (i := 4) (oi := ⟨some 35, .move (.tmp 10), 3, "law.go:167", #[], none⟩) (hy := by intro w hSw; (try dsimp only at hSw); have c3 := (hAn.out.up hSw).c3; go_simp <;> with_reducible rfl) ?_
    try simp only [Act.put, nA]
    refine wpAnyH_ready (rs := [0, 5]) (by kernel_rfl) (by simp) ?_
    refine AllReadyH.cons (o := ⟨some 31, .buildSlice 25 0 #[], 25, "law.go:167", #[], none⟩) rfl (fun K9 hK => ?_) ?_
    · skip
      go_simp
      have hqz := hS.out.size
      have hr0 := Lib.hid (made_none y0 55 2 W6.heap.size hqz)
      have hba := (Below.refl y0.heap.size y0).alloc (Nat.le_refl _) (.cells #[] 55)
      replace hS := Lib.hid (hS.out.trans (hba.mono hqz))
      clear hba hqz
      generalize hgy : y0.alloc (.cells #[] 55) = z1 at *
      clear hgy
      generalize y0.heap.size = b0 at *
      refine hK.out _ _ ?_ ?_
      · (try dsimp only); exact hS.out
      clear hK K9 hHeld; intro hHeld
      try simp only [Act.put, nA]
      refine wpAnyH_ready (rs := [3, 5]) (by kernel_rfl) (by simp) ?_
      refine AllReadyH.cons (o := ⟨some 34, .call { callee := .builtin .append, args := #[.tmp 31, .tmp 33], argTypes := #[25, 25] }, 25, "law.go:167", #[⟨0, .data⟩, ⟨2, .data⟩], none⟩) rfl (fun K9 hK => ?_) ?_
      · skip
        have hqz := hS.out.size
        refine step_app_any rfl (.tmp 31) (.tmp 33) 25 rfl W6.heap.size 55 i3 (.agg #[.int .i64 0, .slice none 0 0]) 2 32 Tryz.underlying25 hi3 hi3z hi3s hi3b rfl (by decide) (.slice (some ⟨b0, 0, none⟩) 0 0) (.slice oa U.objects.length oc) 0 U.objects.length [] (ob2s M) (by simp [Act.eval]) (by simp [Act.eval]) hr0.out (hrd.out.up hS.out) hlen.out hone.out (by omega) (by omega) hqz ?_
        intro v1 z2 hown1 hg1 hat1
        rw [Nat.zero_add, List.nil_append] at hown1
        obtain ⟨a1, c1, rfl⟩ := row_shape hown1
        have hcg : Cg (fun q => q = b0) z1 z2 := (Cg.refl (fun q => q = b0) z1).grown hg1 (fun q e => Or.inl (Option.some.inj e).symm)
        replace hS := Lib.hid (hS.out.grown hg1 hqz (fun k e => by cases e; exact (hr0.out.lt b0 rfl).1))
        have hr1 := Lib.hid hown1
        clear hown1 hg1 hat1 hcg hr0 hqz
        refine hK.out _ _ ?_ ?_
        · (try dsimp only); exact hS.out
        clear hK K9 hHeld; intro hHeld
        try simp only [Act.put, nA]
        refine wpAnyH_ready (rs := [5]) (by kernel_rfl) (by simp) ?_
        refine AllReadyH.cons (o := ⟨some 36, .makeSlice 53 (.tmp 35) (.tmp 35), 53, "law.go:167", #[⟨4, .data⟩, ⟨4, .data⟩], none⟩) rfl (fun K9 hK => ?_) ?_
        · skip
          go_simp
          have hqz := hS.out.size
          have hv : Hid ((z2.alloc (.cells ZZ 68)).ownsRow W6.heap.size 68 2 (.slice (some ⟨z2.heap.size, 0, none⟩) kk kk) kk (pr2 (List.replicate kk (0, 0)))) := Lib.hid (by rw [← hZl.out]; exact World.ownsRow_lit z2 ZZ kk hqz (by omega) hZs.out)
          have ne1v : Hid ((Value.slice a1 U.objects.length c1).ownBlock ≠ some z2.heap.size) := Lib.hid (fun e => by have := (hr1.out.lt _ e).2; omega)
          have hba := (Below.refl z2.heap.size z2).alloc (Nat.le_refl _) (.cells ZZ 68)
          replace hS := Lib.hid (hS.out.trans (hba.mono hqz))
          replace hr1 := Lib.hid (row_bel hr1.out hba)
          clear hba hqz
          generalize hgy : z2.alloc (.cells ZZ 68) = z3 at *
          clear hgy
          generalize z2.heap.size = bv at *
          refine hK.out _ _ ?_ ?_
          · (try dsimp only); exact hS.out
          clear hK K9 hHeld; intro hHeld
          try simp only [Act.put, nA]
          refine tk (i := 6) (oi := ⟨some 37, .build 55 #[(0, .const (.int .i64 1)), (1, .tmp 36)], 55, "law.go:167", #[⟨5, .data⟩], none⟩) (hy := by intro w hSw; (try dsimp only at hSw); have c3 := (hAn.out.up hSw).c3; go_simp <;> with_reducible rfl) ?_
          try simp only [Act.put, nA]
          refine wpAnyH_ready (rs := [7]) (by kernel_rfl) (by simp) ?_
          refine AllReadyH.cons (o := ⟨some 38, .buildSlice 25 1 #[(0, .tmp 37)], 25, "law.go:167", #[⟨6, .data⟩], none⟩) rfl (fun K9 hK => ?_) ?_
          · skip
            go_simp
            have hqz := hS.out.size
            have ho : Hid ((z3.alloc (.cells #[.int .i64 1, .slice (some ⟨bv, 0, none⟩) kk kk] 55)).ownsRow W6.heap.size 55 2 (.slice (some ⟨z3.heap.size, 0, none⟩) 1 1) 1 (ob2s [(({ cls := 1, flds := List.replicate kk (0, 0) } : ObjA), Value.slice (some ⟨bv, 0, none⟩) kk kk)])) := Lib.hid (World.ownsRow_lit z3 #[.int .i64 1, .slice (some ⟨bv, 0, none⟩) kk kk] 1 hqz (by omega) rfl)
            have ne1o : Hid ((Value.slice a1 U.objects.length c1).ownBlock ≠ some z3.heap.size) := Lib.hid (fun e => by have := (hr1.out.lt _ e).2; omega)
            have hba := (Below.refl z3.heap.size z3).alloc (Nat.le_refl _) (.cells #[.int .i64 1, .slice (some ⟨bv, 0, none⟩) kk kk] 55)
            replace hS := Lib.hid (hS.out.trans (hba.mono hqz))
            replace hr1 := Lib.hid (row_bel hr1.out hba)
            replace hv := Lib.hid (row_bel hv.out hba)
            clear hba hqz
            generalize hgy : z3.alloc (.cells #[.int .i64 1, .slice (some ⟨bv, 0, none⟩) kk kk] 55) = z4 at *
            clear hgy
            generalize z3.heap.size = bo at *
            refine hK.out _ _ ?_ ?_
            · (try dsimp only); exact hS.out
            clear hK K9 hHeld; intro hHeld
            try simp only [Act.put, nA]
            refine wpAnyH_ready (rs := [8]) (by kernel_rfl) (by simp) ?_
            refine AllReadyH.cons (o := ⟨some 39, .call { callee := .builtin .append, args := #[.tmp 34, .tmp 38], argTypes := #[25, 25] }, 25, "law.go:167", #[⟨3, .data⟩, ⟨7, .data⟩, ⟨3, .chain⟩], none⟩) rfl (fun K9 hK => ?_) ?_
            · skip
              have hqz := hS.out.size
              refine step_app_any rfl (.tmp 34) (.tmp 38) 25 rfl W6.heap.size 55 i3 (.agg #[.int .i64 0, .slice none 0 0]) 2 32 Tryz.underlying25 hi3 hi3z hi3s hi3b rfl (by decide) (.slice a1 U.objects.length c1) (.slice (some ⟨bo, 0, none⟩) 1 1) U.objects.length 1 (ob2s M) (ob2s [(({ cls := 1, flds := List.replicate kk (0, 0) } : ObjA), Value.slice (some ⟨bv, 0, none⟩) kk kk)]) (by simp [Act.eval]) (by simp [Act.eval]) hr1.out (rd_own ho.out) rfl (ob2s_one _ (fun y hy => by rw [List.mem_singleton.1 hy]; exact ⟨_, _, _, rfl⟩)) (by omega) (by omega) hqz ?_
              intro v2 z5 hown2 hg2 hat2
              obtain ⟨a2, c2, rfl⟩ := row_shape hown2
              have hcg : Cg (fun q => (Value.slice a1 U.objects.length c1).ownBlock = some q) z4 z5 := (Cg.refl _ z4).grown hg2 (fun q e => Or.inl e)
              replace hv := Lib.hid (row_cg hv.out hcg (fun q e hq => ne1v.out (by rw [hq]; exact e.symm)))
              replace hS := Lib.hid (hS.out.grown hg2 hqz (fun k e => (hr1.out.lt k e).1))
              have hBn := hB.out.up hS.out
              have x3 := hBn.c3
              have z3 := (hBz.out.up hS.out hqz2) 3
              have hE := Lib.hid (UQ.obj (Z := W6.heap.size) hBn huv5.out hq2.out.symm (hbz5.out.trans (hS.out.mono (Nat.le_of_lt hqz2))) hM.out hMp.out hown2 hv.out hqz2)
              have hbE := Lib.hid ((hb.out.trans (hS.out.mono hb.out.size)).trans (((Below.refl q2 z5).setCell (p := ⟨q2, 3, none⟩) (Nat.le_refl _) (.slice a2 (U.objects.length + 1) c2)).mono hz5))
              clear hown2 hg2 hat2 hcg hqz hr1 ho hv
              refine hK.out _ _ ?_ ?_
              · (try dsimp only); exact hS.out
              clear hK K9 hHeld; intro hHeld
              try simp only [Act.put, nA]
              refine tk (i := 9) (oi := ⟨some 40, .fieldAddr 27 (.tmp 9) 3, 0, "law.go:167", #[⟨0, .phase⟩, ⟨1, .phase⟩, ⟨2, .phase⟩, ⟨3, .phase⟩, ⟨4, .phase⟩, ⟨5, .phase⟩, ⟨6, .phase⟩, ⟨7, .phase⟩, ⟨8, .phase⟩], none⟩) (hy := by intro w hSw; (try dsimp only at hSw); have c3 := (hAn.out.up hSw).c3; go_simp <;> with_reducible rfl) ?_
              try simp only [Act.put, nA]
              refine last_step (o := ⟨none, .store 25 (.tmp 40) (.tmp 39), 0, "law.go:167", #[⟨9, .data⟩, ⟨8, .data⟩, ⟨8, .chain⟩, ⟨0, .phase⟩, ⟨1, .phase⟩, ⟨2, .phase⟩, ⟨3, .phase⟩, ⟨4, .phase⟩, ⟨5, .phase⟩, ⟨6, .phase⟩, ⟨7, .phase⟩, ⟨8, .phase⟩], none⟩) rfl (by kernel_rfl) (fun K hK => ?_)
              go_simp
              refine hK.out _ _ ?_
              clear hK K
              try simp only [Act.put, nA]
              go_wp2
              go_meet
              exact ⟨a2, c2, hE, hbE⟩
            exact AllReadyH.nil
          exact AllReadyH.nil
        exact AllReadyH.nil
      refine AllReadyH.cons (o := ⟨some 36, .makeSlice 53 (.tmp 35) (.tmp 35), 53, "law.go:167", #[⟨4, .data⟩, ⟨4, .data⟩], none⟩) rfl (fun K9 hK => ?_) ?_
      · skip
        go_simp
        have hqz := hS.out.size
        have hv : Hid ((z1.alloc (.cells ZZ 68)).ownsRow W6.heap.size 68 2 (.slice (some ⟨z1.heap.size, 0, none⟩) kk kk) kk (pr2 (List.replicate kk (0, 0)))) := Lib.hid (by rw [← hZl.out]; exact World.ownsRow_lit z1 ZZ kk hqz (by omega) hZs.out)
        have ne0v : Hid (b0 ≠ z1.heap.size) := Lib.hid (fun e => by have := (hr0.out.lt b0 rfl).2; omega)
        have hba := (Below.refl z1.heap.size z1).alloc (Nat.le_refl _) (.cells ZZ 68)
        replace hS := Lib.hid (hS.out.trans (hba.mono hqz))
        replace hr0 := Lib.hid (row_bel hr0.out hba)
        clear hba hqz
        generalize hgy : z1.alloc (.cells ZZ 68) = z6 at *
        clear hgy
        generalize z1.heap.size = bv at *
        refine hK.out _ _ ?_ ?_
        · (try dsimp only); exact hS.out
        clear hK K9 hHeld; intro hHeld
        try simp only [Act.put, nA]
        refine tk (i := 6) (oi := ⟨some 37, .build 55 #[(0, .const (.int .i64 1)), (1, .tmp 36)], 55, "law.go:167", #[⟨5, .data⟩], none⟩) (hy := by intro w hSw; (try dsimp only at hSw); have c3 := (hAn.out.up hSw).c3; go_simp <;> with_reducible rfl) ?_
        try simp only [Act.put, nA]
        refine wpAnyH_ready (rs := [3, 7]) (by kernel_rfl) (by simp) ?_
        refine AllReadyH.cons (o := ⟨some 34, .call { callee := .builtin .append, args := #[.tmp 31, .tmp 33], argTypes := #[25, 25] }, 25, "law.go:167", #[⟨0, .data⟩, ⟨2, .data⟩], none⟩) rfl (fun K9 hK => ?_) ?_
        · skip
          have hqz := hS.out.size
          refine step_app_any rfl (.tmp 31) (.tmp 33) 25 rfl W6.heap.size 55 i3 (.agg #[.int .i64 0, .slice none 0 0]) 2 32 Tryz.underlying25 hi3 hi3z hi3s hi3b rfl (by decide) (.slice (some ⟨b0, 0, none⟩) 0 0) (.slice oa U.objects.length oc) 0 U.objects.length [] (ob2s M) (by simp [Act.eval]) (by simp [Act.eval]) hr0.out (hrd.out.up hS.out) hlen.out hone.out (by omega) (by omega) hqz ?_
          intro v1 z7 hown1 hg1 hat1
          rw [Nat.zero_add, List.nil_append] at hown1
          obtain ⟨a1, c1, rfl⟩ := row_shape hown1
          have hcg : Cg (fun q => q = b0) z6 z7 := (Cg.refl (fun q => q = b0) z6).grown hg1 (fun q e => Or.inl (Option.some.inj e).symm)
          have ne1v : Hid ((Value.slice a1 U.objects.length c1).ownBlock ≠ some bv) := Lib.hid (fun e => by rcases hat1 with h | h; exact ne0v.out (Option.some.inj (h.symm.trans e)); have h3 := Option.some.inj (h.symm.trans e); have := (hv.out.lt bv rfl).2; omega)
          replace hv := Lib.hid (row_cg hv.out hcg (fun q e hq => ne0v.out (hq.symm.trans (Option.some.inj e).symm)))
          replace hS := Lib.hid (hS.out.grown hg1 hqz (fun k e => by cases e; exact (hr0.out.lt b0 rfl).1))
          have hr1 := Lib.hid hown1
          clear hown1 hg1 hat1 hcg hr0 hqz
          refine hK.out _ _ ?_ ?_
          · (try dsimp only); exact hS.out
          clear hK K9 hHeld; intro hHeld
          try simp only [Act.put, nA]
          refine wpAnyH_ready (rs := [7]) (by kernel_rfl) (by simp) ?_
          refine AllReadyH.cons (o := ⟨some 38, .buildSlice 25 1 #[(0, .tmp 37)], 25, "law.go:167", #[⟨6, .data⟩], none⟩) rfl (fun K9 hK => ?_) ?_
          · skip
            go_simp
            have hqz := hS.out.size
            have ho : Hid ((z7.alloc (.cells #[.int .i64 1, .slice (some ⟨bv, 0, none⟩) kk kk] 55)).ownsRow W6.heap.size 55 2 (.slice (some ⟨z7.heap.size, 0, none⟩) 1 1) 1 (ob2s [(({ cls := 1, flds := List.replicate kk (0, 0) } : ObjA), Value.slice (some ⟨bv, 0, none⟩) kk kk)])) := Lib.hid (World.ownsRow_lit z7 #[.int .i64 1, .slice (some ⟨bv, 0, none⟩) kk kk] 1 hqz (by omega) rfl)
            have ne1o : Hid ((Value.slice a1 U.objects.length c1).ownBlock ≠ some z7.heap.size) := Lib.hid (fun e => by have := (hr1.out.lt _ e).2; omega)
            have hba := (Below.refl z7.heap.size z7).alloc (Nat.le_refl _) (.cells #[.int .i64 1, .slice (some ⟨bv, 0, none⟩) kk kk] 55)
            replace hS := Lib.hid (hS.out.trans (hba.mono hqz))
            replace hr1 := Lib.hid (row_bel hr1.out hba)
            replace hv := Lib.hid (row_bel hv.out hba)
            clear hba hqz
            generalize hgy : z7.alloc (.cells #[.int .i64 1, .slice (some ⟨bv, 0, none⟩) kk kk] 55) = z8 at *
            clear hgy
            generalize z7.heap.size = bo at *
            refine hK.out _ _ ?_ ?_
            · (try dsimp only); exact hS.out
            clear hK K9 hHeld; intro hHeld
            try simp only [Act.put, nA]
            refine wpAnyH_ready (rs := [8]) (by kernel_rfl) (by simp) ?_
            refine AllReadyH.cons (o := ⟨some 39, .call { callee := .builtin .append, args := #[.tmp 34, .tmp 38], argTypes := #[25, 25] }, 25, "law.go:167", #[⟨3, .data⟩, ⟨7, .data⟩, ⟨3, .chain⟩], none⟩) rfl (fun K9 hK => ?_) ?_
            · skip
              have hqz := hS.out.size
              refine step_app_any rfl (.tmp 34) (.tmp 38) 25 rfl W6.heap.size 55 i3 (.agg #[.int .i64 0, .slice none 0 0]) 2 32 Tryz.underlying25 hi3 hi3z hi3s hi3b rfl (by decide) (.slice a1 U.objects.length c1) (.slice (some ⟨bo, 0, none⟩) 1 1) U.objects.length 1 (ob2s M) (ob2s [(({ cls := 1, flds := List.replicate kk (0, 0) } : ObjA), Value.slice (some ⟨bv, 0, none⟩) kk kk)]) (by simp [Act.eval]) (by simp [Act.eval]) hr1.out (rd_own ho.out) rfl (ob2s_one _ (fun y hy => by rw [List.mem_singleton.1 hy]; exact ⟨_, _, _, rfl⟩)) (by omega) (by omega) hqz ?_
              intro v2 z9 hown2 hg2 hat2
              obtain ⟨a2, c2, rfl⟩ := row_shape hown2
              have hcg : Cg (fun q => (Value.slice a1 U.objects.length c1).ownBlock = some q) z8 z9 := (Cg.refl _ z8).grown hg2 (fun q e => Or.inl e)
              replace hv := Lib.hid (row_cg hv.out hcg (fun q e hq => ne1v.out (by rw [hq]; exact e.symm)))
              replace hS := Lib.hid (hS.out.grown hg2 hqz (fun k e => (hr1.out.lt k e).1))
              have hBn := hB.out.up hS.out
              have x3 := hBn.c3
              have z3 := (hBz.out.up hS.out hqz2) 3
              have hE := Lib.hid (UQ.obj (Z := W6.heap.size) hBn huv5.out hq2.out.symm (hbz5.out.trans (hS.out.mono (Nat.le_of_lt hqz2))) hM.out hMp.out hown2 hv.out hqz2)
              have hbE := Lib.hid ((hb.out.trans (hS.out.mono hb.out.size)).trans (((Below.refl q2 z9).setCell (p := ⟨q2, 3, none⟩) (Nat.le_refl _) (.slice a2 (U.objects.length + 1) c2)).mono hz5))
              clear hown2 hg2 hat2 hcg hqz hr1 ho hv
              refine hK.out _ _ ?_ ?_
              · (try dsimp only); exact hS.out
              clear hK K9 hHeld; intro hHeld
              try simp only [Act.put, nA]
              refine tk (i := 9) (oi := ⟨some 40, .fieldAddr 27 (.tmp 9) 3, 0, "law.go:167", #[⟨0, .phase⟩, ⟨1, .phase⟩, ⟨2, .phase⟩, ⟨3, .phase⟩, ⟨4, .phase⟩, ⟨5, .phase⟩, ⟨6, .phase⟩, ⟨7, .phase⟩, ⟨8, .phase⟩], none⟩) (hy := by intro w hSw; (try dsimp only at hSw); have c3 := (hAn.out.up hSw).c3; go_simp <;> with_reducible rfl) ?_
              try simp only [Act.put, nA]
              refine last_step (o := ⟨none, .store 25 (.tmp 40) (.tmp 39), 0, "law.go:167", #[⟨9, .data⟩, ⟨8, .data⟩, ⟨8, .chain⟩, ⟨0, .phase⟩, ⟨1, .phase⟩, ⟨2, .phase⟩, ⟨3, .phase⟩, ⟨4, .phase⟩, ⟨5, .phase⟩, ⟨6, .phase⟩, ⟨7, .phase⟩, ⟨8, .phase⟩], none⟩) rfl (by kernel_rfl) (fun K hK => ?_)
              go_simp
              refine hK.out _ _ ?_
              clear hK K
              try simp only [Act.put, nA]
              go_wp2
              go_meet
              exact ⟨a2, c2, hE, hbE⟩
            exact AllReadyH.nil
          exact AllReadyH.nil
        refine AllReadyH.cons (o := ⟨some 38, .buildSlice 25 1 #[(0, .tmp 37)], 25, "law.go:167", #[⟨6, .data⟩], none⟩) rfl (fun K9 hK => ?_) ?_
        · skip
          go_simp
          have hqz := hS.out.size
          have ho : Hid ((z6.alloc (.cells #[.int .i64 1, .slice (some ⟨bv, 0, none⟩) kk kk] 55)).ownsRow W6.heap.size 55 2 (.slice (some ⟨z6.heap.size, 0, none⟩) 1 1) 1 (ob2s [(({ cls := 1, flds := List.replicate kk (0, 0) } : ObjA), Value.slice (some ⟨bv, 0, none⟩) kk kk)])) := Lib.hid (World.ownsRow_lit z6 #[.int .i64 1, .slice (some ⟨bv, 0, none⟩) kk kk] 1 hqz (by omega) rfl)
          have ne0o : Hid (b0 ≠ z6.heap.size) := Lib.hid (fun e => by have := (hr0.out.lt b0 rfl).2; omega)
          have hba := (Below.refl z6.heap.size z6).alloc (Nat.le_refl _) (.cells #[.int .i64 1, .slice (some ⟨bv, 0, none⟩) kk kk] 55)
          replace hS := Lib.hid (hS.out.trans (hba.mono hqz))
          replace hr0 := Lib.hid (row_bel hr0.out hba)
          replace hv := Lib.hid (row_bel hv.out hba)
          clear hba hqz
          generalize hgy : z6.alloc (.cells #[.int .i64 1, .slice (some ⟨bv, 0, none⟩) kk kk] 55) = z10 at *
          clear hgy
          generalize z6.heap.size = bo at *
          refine hK.out _ _ ?_ ?_
          · (try dsimp only); exact hS.out
          clear hK K9 hHeld; intro hHeld
          try simp only [Act.put, nA]
          refine wpAnyH_ready (rs := [3]) (by kernel_rfl) (by simp) ?_
          refine AllReadyH.cons (o := ⟨some 34, .call { callee := .builtin .append, args := #[.tmp 31, .tmp 33], argTypes := #[25, 25] }, 25, "law.go:167", #[⟨0, .data⟩, ⟨2, .data⟩], none⟩) rfl (fun K9 hK => ?_) ?_
          · skip
            have hqz := hS.out.size
            refine step_app_any rfl (.tmp 31) (.tmp 33) 25 rfl W6.heap.size 55 i3 (.agg #[.int .i64 0, .slice none 0 0]) 2 32 Tryz.underlying25 hi3 hi3z hi3s hi3b rfl (by decide) (.slice (some ⟨b0, 0, none⟩) 0 0) (.slice oa U.objects.length oc) 0 U.objects.length [] (ob2s M) (by simp [Act.eval]) (by simp [Act.eval]) hr0.out (hrd.out.up hS.out) hlen.out hone.out (by omega) (by omega) hqz ?_
            intro v1 z11 hown1 hg1 hat1
            rw [Nat.zero_add, List.nil_append] at hown1
            obtain ⟨a1, c1, rfl⟩ := row_shape hown1
            have hcg : Cg (fun q => q = b0) z10 z11 := (Cg.refl (fun q => q = b0) z10).grown hg1 (fun q e => Or.inl (Option.some.inj e).symm)
            have ne1v : Hid ((Value.slice a1 U.objects.length c1).ownBlock ≠ some bv) := Lib.hid (fun e => by rcases hat1 with h | h; exact ne0v.out (Option.some.inj (h.symm.trans e)); have h3 := Option.some.inj (h.symm.trans e); have := (hv.out.lt bv rfl).2; omega)
            replace hv := Lib.hid (row_cg hv.out hcg (fun q e hq => ne0v.out (hq.symm.trans (Option.some.inj e).symm)))
            have ne1o : Hid ((Value.slice a1 U.objects.length c1).ownBlock ≠ some bo) := Lib.hid (fun e => by rcases hat1 with h | h; exact ne0o.out (Option.some.inj (h.symm.trans e)); have h3 := Option.some.inj (h.symm.trans e); have := (ho.out.lt bo rfl).2; omega)
            replace ho := Lib.hid (row_cg ho.out hcg (fun q e hq => ne0o.out (hq.symm.trans (Option.some.inj e).symm)))
            replace hS := Lib.hid (hS.out.grown hg1 hqz (fun k e => by cases e; exact (hr0.out.lt b0 rfl).1))
            have hr1 := Lib.hid hown1
            clear hown1 hg1 hat1 hcg hr0 hqz
            refine hK.out _ _ ?_ ?_
            · (try dsimp only); exact hS.out
            clear hK K9 hHeld; intro hHeld
            try simp only [Act.put, nA]
            refine wpAnyH_ready (rs := [8]) (by kernel_rfl) (by simp) ?_
            refine AllReadyH.cons (o := ⟨some 39, .call { callee := .builtin .append, args := #[.tmp 34, .tmp 38], argTypes := #[25, 25] }, 25, "law.go:167", #[⟨3, .data⟩, ⟨7, .data⟩, ⟨3, .chain⟩], none⟩) rfl (fun K9 hK => ?_) ?_
            · skip
              have hqz := hS.out.size
              refine step_app_any rfl (.tmp 34) (.tmp 38) 25 rfl W6.heap.size 55 i3 (.agg #[.int .i64 0, .slice none 0 0]) 2 32 Tryz.underlying25 hi3 hi3z hi3s hi3b rfl (by decide) (.slice a1 U.objects.length c1) (.slice (some ⟨bo, 0, none⟩) 1 1) U.objects.length 1 (ob2s M) (ob2s [(({ cls := 1, flds := List.replicate kk (0, 0) } : ObjA), Value.slice (some ⟨bv, 0, none⟩) kk kk)]) (by simp [Act.eval]) (by simp [Act.eval]) hr1.out (rd_own ho.out) rfl (ob2s_one _ (fun y hy => by rw [List.mem_singleton.1 hy]; exact ⟨_, _, _, rfl⟩)) (by omega) (by omega) hqz ?_
              intro v2 z12 hown2 hg2 hat2
              obtain ⟨a2, c2, rfl⟩ := row_shape hown2
              have hcg : Cg (fun q => (Value.slice a1 U.objects.length c1).ownBlock = some q) z11 z12 := (Cg.refl _ z11).grown hg2 (fun q e => Or.inl e)
              replace hv := Lib.hid (row_cg hv.out hcg (fun q e hq => ne1v.out (by rw [hq]; exact e.symm)))
              replace hS := Lib.hid (hS.out.grown hg2 hqz (fun k e => (hr1.out.lt k e).1))
              have hBn := hB.out.up hS.out
              have x3 := hBn.c3
              have z3 := (hBz.out.up hS.out hqz2) 3
              have hE := Lib.hid (UQ.obj (Z := W6.heap.size) hBn huv5.out hq2.out.symm (hbz5.out.trans (hS.out.mono (Nat.le_of_lt hqz2))) hM.out hMp.out hown2 hv.out hqz2)
              have hbE := Lib.hid ((hb.out.trans (hS.out.mono hb.out.size)).trans (((Below.refl q2 z12).setCell (p := ⟨q2, 3, none⟩) (Nat.le_refl _) (.slice a2 (U.objects.length + 1) c2)).mono hz5))
              clear hown2 hg2 hat2 hcg hqz hr1 ho hv
              refine hK.out _ _ ?_ ?_
              · (try dsimp only); exact hS.out
              clear hK K9 hHeld; intro hHeld
              try simp only [Act.put, nA]
              refine tk (i := 9) (oi := ⟨some 40, .fieldAddr 27 (.tmp 9) 3, 0, "law.go:167", #[⟨0, .phase⟩, ⟨1, .phase⟩, ⟨2, .phase⟩, ⟨3, .phase⟩, ⟨4, .phase⟩, ⟨5, .phase⟩, ⟨6, .phase⟩, ⟨7, .phase⟩, ⟨8, .phase⟩], none⟩) (hy := by intro w hSw; (try dsimp only at hSw); have c3 := (hAn.out.up hSw).c3; go_simp <;> with_reducible rfl) ?_
              try simp only [Act.put, nA]
              refine last_step (o := ⟨none, .store 25 (.tmp 40) (.tmp 39), 0, "law.go:167", #[⟨9, .data⟩, ⟨8, .data⟩, ⟨8, .chain⟩, ⟨0, .phase⟩, ⟨1, .phase⟩, ⟨2, .phase⟩, ⟨3, .phase⟩, ⟨4, .phase⟩, ⟨5, .phase⟩, ⟨6, .phase⟩, ⟨7, .phase⟩, ⟨8, .phase⟩], none⟩) rfl (by kernel_rfl) (fun K hK => ?_)
              go_simp
              refine hK.out _ _ ?_
              clear hK K
              try simp only [Act.put, nA]
              go_wp2
              go_meet
              exact ⟨a2, c2, hE, hbE⟩
            exact AllReadyH.nil
          exact AllReadyH.nil
        exact AllReadyH.nil
      exact AllReadyH.nil
    refine AllReadyH.cons (o := ⟨some 36, .makeSlice 53 (.tmp 35) (.tmp 35), 53, "law.go:167", #[⟨4, .data⟩, ⟨4, .data⟩], none⟩) rfl (fun K9 hK => ?_) ?_
    · skip
      go_simp
      have hqz := hS.out.size
      have hv : Hid ((y0.alloc (.cells ZZ 68)).ownsRow W6.heap.size 68 2 (.slice (some ⟨y0.heap.size, 0, none⟩) kk kk) kk (pr2 (List.replicate kk (0, 0)))) := Lib.hid (by rw [← hZl.out]; exact World.ownsRow_lit y0 ZZ kk hqz (by omega) hZs.out)
      have hba := (Below.refl y0.heap.size y0).alloc (Nat.le_refl _) (.cells ZZ 68)
      replace hS := Lib.hid (hS.out.trans (hba.mono hqz))
      clear hba hqz
      generalize hgy : y0.alloc (.cells ZZ 68) = z13 at *
      clear hgy
      generalize y0.heap.size = bv at *
      refine hK.out _ _ ?_ ?_
      · (try dsimp only); exact hS.out
      clear hK K9 hHeld; intro hHeld
      try simp only [Act.put, nA]
      refine tk (i := 6) (oi := ⟨some 37, .build 55 #[(0, .const (.int .i64 1)), (1, .tmp 36)], 55, "law.go:167", #[⟨5, .data⟩], none⟩) (hy := by intro w hSw; (try dsimp only at hSw); have c3 := (hAn.out.up hSw).c3; go_simp <;> with_reducible rfl) ?_
      try simp only [Act.put, nA]
      refine wpAnyH_ready (rs := [0, 7]) (by kernel_rfl) (by simp) ?_
      refine AllReadyH.cons (o := ⟨some 31, .buildSlice 25 0 #[], 25, "law.go:167", #[], none⟩) rfl (fun K9 hK => ?_) ?_
      · skip
        go_simp
        have hqz := hS.out.size
        have hr0 := Lib.hid (made_none z13 55 2 W6.heap.size hqz)
        have ne0v : Hid (z13.heap.size ≠ bv) := Lib.hid (fun e => by have := (hv.out.lt bv rfl).2; omega)
        have hba := (Below.refl z13.heap.size z13).alloc (Nat.le_refl _) (.cells #[] 55)
        replace hS := Lib.hid (hS.out.trans (hba.mono hqz))
        replace hv := Lib.hid (row_bel hv.out hba)
        clear hba hqz
        generalize hgy : z13.alloc (.cells #[] 55) = z14 at *
        clear hgy
        generalize z13.heap.size = b0 at *
        refine hK.out _ _ ?_ ?_
        · (try dsimp only); exact hS.out
        clear hK K9 hHeld; intro hHeld
        try simp only [Act.put, nA]
        refine wpAnyH_ready (rs := [3, 7]) (by kernel_rfl) (by simp) ?_
        refine AllReadyH.cons (o := ⟨some 34, .call { callee := .builtin .append, args := #[.tmp 31, .tmp 33], argTypes := #[25, 25] }, 25, "law.go:167", #[⟨0, .data⟩, ⟨2, .data⟩], none⟩) rfl (fun K9 hK => ?_) ?_
        · skip
          have hqz := hS.out.size
          refine step_app_any rfl (.tmp 31) (.tmp 33) 25 rfl W6.heap.size 55 i3 (.agg #[.int .i64 0, .slice none 0 0]) 2 32 Tryz.underlying25 hi3 hi3z hi3s hi3b rfl (by decide) (.slice (some ⟨b0, 0, none⟩) 0 0) (.slice oa U.objects.length oc) 0 U.objects.length [] (ob2s M) (by simp [Act.eval]) (by simp [Act.eval]) hr0.out (hrd.out.up hS.out) hlen.out hone.out (by omega) (by omega) hqz ?_
          intro v1 z15 hown1 hg1 hat1
          rw [Nat.zero_add, List.nil_append] at hown1
          obtain ⟨a1, c1, rfl⟩ := row_shape hown1
          have hcg : Cg (fun q => q = b0) z14 z15 := (Cg.refl (fun q => q = b0) z14).grown hg1 (fun q e => Or.inl (Option.some.inj e).symm)
          have ne1v : Hid ((Value.slice a1 U.objects.length c1).ownBlock ≠ some bv) := Lib.hid (fun e => by rcases hat1 with h | h; exact ne0v.out (Option.some.inj (h.symm.trans e)); have h3 := Option.some.inj (h.symm.trans e); have := (hv.out.lt bv rfl).2; omega)
          replace hv := Lib.hid (row_cg hv.out hcg (fun q e hq => ne0v.out (hq.symm.trans (Option.some.inj e).symm)))
          replace hS := Lib.hid (hS.out.grown hg1 hqz (fun k e => by cases e; exact (hr0.out.lt b0 rfl).1))
          have hr1 := Lib.hid hown1
          clear hown1 hg1 hat1 hcg hr0 hqz
          refine hK.out _ _ ?_ ?_
          · (try dsimp only); exact hS.out
          clear hK K9 hHeld; intro hHeld
          try simp only [Act.put, nA]
          refine wpAnyH_ready (rs := [7]) (by kernel_rfl) (by simp) ?_
          refine AllReadyH.cons (o := ⟨some 38, .buildSlice 25 1 #[(0, .tmp 37)], 25, "law.go:167", #[⟨6, .data⟩], none⟩) rfl (fun K9 hK => ?_) ?_
          · skip
            go_simp
            have hqz := hS.out.size
            have ho : Hid ((z15.alloc (.cells #[.int .i64 1, .slice (some ⟨bv, 0, none⟩) kk kk] 55)).ownsRow W6.heap.size 55 2 (.slice (some ⟨z15.heap.size, 0, none⟩) 1 1) 1 (ob2s [(({ cls := 1, flds := List.replicate kk (0, 0) } : ObjA), Value.slice (some ⟨bv, 0, none⟩) kk kk)])) := Lib.hid (World.ownsRow_lit z15 #[.int .i64 1, .slice (some ⟨bv, 0, none⟩) kk kk] 1 hqz (by omega) rfl)
            have ne1o : Hid ((Value.slice a1 U.objects.length c1).ownBlock ≠ some z15.heap.size) := Lib.hid (fun e => by have := (hr1.out.lt _ e).2; omega)
            have hba := (Below.refl z15.heap.size z15).alloc (Nat.le_refl _) (.cells #[.int .i64 1, .slice (some ⟨bv, 0, none⟩) kk kk] 55)
            replace hS := Lib.hid (hS.out.trans (hba.mono hqz))
            replace hr1 := Lib.hid (row_bel hr1.out hba)
            replace hv := Lib.hid (row_bel hv.out hba)
            clear hba hqz
            generalize hgy : z15.alloc (.cells #[.int .i64 1, .slice (some ⟨bv, 0, none⟩) kk kk] 55) = z16 at *
            clear hgy
            generalize z15.heap.size = bo at *
            refine hK.out _ _ ?_ ?_
            · (try dsimp only); exact hS.out
            clear hK K9 hHeld; intro hHeld
            try simp only [Act.put, nA]
            refine wpAnyH_ready (rs := [8]) (by kernel_rfl) (by simp) ?_
            refine AllReadyH.cons (o := ⟨some 39, .call { callee := .builtin .append, args := #[.tmp 34, .tmp 38], argTypes := #[25, 25] }, 25, "law.go:167", #[⟨3, .data⟩, ⟨7, .data⟩, ⟨3, .chain⟩], none⟩) rfl (fun K9 hK => ?_) ?_
            · skip
              have hqz := hS.out.size
              refine step_app_any rfl (.tmp 34) (.tmp 38) 25 rfl W6.heap.size 55 i3 (.agg #[.int .i64 0, .slice none 0 0]) 2 32 Tryz.underlying25 hi3 hi3z hi3s hi3b rfl (by decide) (.slice a1 U.objects.length c1) (.slice (some ⟨bo, 0, none⟩) 1 1) U.objects.length 1 (ob2s M) (ob2s [(({ cls := 1, flds := List.replicate kk (0, 0) } : ObjA), Value.slice (some ⟨bv, 0, none⟩) kk kk)]) (by simp [Act.eval]) (by simp [Act.eval]) hr1.out (rd_own ho.out) rfl (ob2s_one _ (fun y hy => by rw [List.mem_singleton.1 hy]; exact ⟨_, _, _, rfl⟩)) (by omega) (by omega) hqz ?_
              intro v2 z17 hown2 hg2 hat2
              obtain ⟨a2, c2, rfl⟩ := row_shape hown2
              have hcg : Cg (fun q => (Value.slice a1 U.objects.length c1).ownBlock = some q) z16 z17 := (Cg.refl _ z16).grown hg2 (fun q e => Or.inl e)
              replace hv := Lib.hid (row_cg hv.out hcg (fun q e hq => ne1v.out (by rw [hq]; exact e.symm)))
              replace hS := Lib.hid (hS.out.grown hg2 hqz (fun k e => (hr1.out.lt k e).1))
              have hBn := hB.out.up hS.out
              have x3 := hBn.c3
              have z3 := (hBz.out.up hS.out hqz2) 3
              have hE := Lib.hid (UQ.obj (Z := W6.heap.size) hBn huv5.out hq2.out.symm (hbz5.out.trans (hS.out.mono (Nat.le_of_lt hqz2))) hM.out hMp.out hown2 hv.out hqz2)
              have hbE := Lib.hid ((hb.out.trans (hS.out.mono hb.out.size)).trans (((Below.refl q2 z17).setCell (p := ⟨q2, 3, none⟩) (Nat.le_refl _) (.slice a2 (U.objects.length + 1) c2)).mono hz5))
              clear hown2 hg2 hat2 hcg hqz hr1 ho hv
              refine hK.out _ _ ?_ ?_
              · (try dsimp only); exact hS.out
              clear hK K9 hHeld; intro hHeld
              try simp only [Act.put, nA]
              refine tk (i := 9) (oi := ⟨some 40, .fieldAddr 27 (.tmp 9) 3, 0, "law.go:167", #[⟨0, .phase⟩, ⟨1, .phase⟩, ⟨2, .phase⟩, ⟨3, .phase⟩, ⟨4, .phase⟩, ⟨5, .phase⟩, ⟨6, .phase⟩, ⟨7, .phase⟩, ⟨8, .phase⟩], none⟩) (hy := by intro w hSw; (try dsimp only at hSw); have c3 := (hAn.out.up hSw).c3; go_simp <;> with_reducible rfl) ?_
              try simp only [Act.put, nA]
              refine last_step (o := ⟨none, .store 25 (.tmp 40) (.tmp 39), 0, "law.go:167", #[⟨9, .data⟩, ⟨8, .data⟩, ⟨8, .chain⟩, ⟨0, .phase⟩, ⟨1, .phase⟩, ⟨2, .phase⟩, ⟨3, .phase⟩, ⟨4, .phase⟩, ⟨5, .phase⟩, ⟨6, .phase⟩, ⟨7, .phase⟩, ⟨8, .phase⟩], none⟩) rfl (by kernel_rfl) (fun K hK => ?_)
              go_simp
              refine hK.out _ _ ?_
              clear hK K
              try simp only [Act.put, nA]
              go_wp2
              go_meet
              exact ⟨a2, c2, hE, hbE⟩
            exact AllReadyH.nil
          exact AllReadyH.nil
        refine AllReadyH.cons (o := ⟨some 38, .buildSlice 25 1 #[(0, .tmp 37)], 25, "law.go:167", #[⟨6, .data⟩], none⟩) rfl (fun K9 hK => ?_) ?_
        · skip
          go_simp
          have hqz := hS.out.size
          have ho : Hid ((z14.alloc (.cells #[.int .i64 1, .slice (some ⟨bv, 0, none⟩) kk kk] 55)).ownsRow W6.heap.size 55 2 (.slice (some ⟨z14.heap.size, 0, none⟩) 1 1) 1 (ob2s [(({ cls := 1, flds := List.replicate kk (0, 0) } : ObjA), Value.slice (some ⟨bv, 0, none⟩) kk kk)])) := Lib.hid (World.ownsRow_lit z14 #[.int .i64 1, .slice (some ⟨bv, 0, none⟩) kk kk] 1 hqz (by omega) rfl)
          have ne0o : Hid (b0 ≠ z14.heap.size) := Lib.hid (fun e => by have := (hr0.out.lt b0 rfl).2; omega)
          have hba := (Below.refl z14.heap.size z14).alloc (Nat.le_refl _) (.cells #[.int .i64 1, .slice (some ⟨bv, 0, none⟩) kk kk] 55)
          replace hS := Lib.hid (hS.out.trans (hba.mono hqz))
          replace hr0 := Lib.hid (row_bel hr0.out hba)
          replace hv := Lib.hid (row_bel hv.out hba)
          clear hba hqz
          generalize hgy : z14.alloc (.cells #[.int .i64 1, .slice (some ⟨bv, 0, none⟩) kk kk] 55) = z18 at *
          clear hgy
          generalize z14.heap.size = bo at *
          refine hK.out _ _ ?_ ?_
          · (try dsimp only); exact hS.out
          clear hK K9 hHeld; intro hHeld
          try simp only [Act.put, nA]
          refine wpAnyH_ready (rs := [3]) (by kernel_rfl) (by simp) ?_
          refine AllReadyH.cons (o := ⟨some 34, .call { callee := .builtin .append, args := #[.tmp 31, .tmp 33], argTypes := #[25, 25] }, 25, "law.go:167", #[⟨0, .data⟩, ⟨2, .data⟩], none⟩) rfl (fun K9 hK => ?_) ?_
          · skip
            have hqz := hS.out.size
            refine step_app_any rfl (.tmp 31) (.tmp 33) 25 rfl W6.heap.size 55 i3 (.agg #[.int .i64 0, .slice none 0 0]) 2 32 Tryz.underlying25 hi3 hi3z hi3s hi3b rfl (by decide) (.slice (some ⟨b0, 0, none⟩) 0 0) (.slice oa U.objects.length oc) 0 U.objects.length [] (ob2s M) (by simp [Act.eval]) (by simp [Act.eval]) hr0.out (hrd.out.up hS.out) hlen.out hone.out (by omega) (by omega) hqz ?_
            intro v1 z19 hown1 hg1 hat1
            rw [Nat.zero_add, List.nil_append] at hown1
            obtain ⟨a1, c1, rfl⟩ := row_shape hown1
            have hcg : Cg (fun q => q = b0) z18 z19 := (Cg.refl (fun q => q = b0) z18).grown hg1 (fun q e => Or.inl (Option.some.inj e).symm)
            have ne1v : Hid ((Value.slice a1 U.objects.length c1).ownBlock ≠ some bv) := Lib.hid (fun e => by rcases hat1 with h | h; exact ne0v.out (Option.some.inj (h.symm.trans e)); have h3 := Option.some.inj (h.symm.trans e); have := (hv.out.lt bv rfl).2; omega)
            replace hv := Lib.hid (row_cg hv.out hcg (fun q e hq => ne0v.out (hq.symm.trans (Option.some.inj e).symm)))
            have ne1o : Hid ((Value.slice a1 U.objects.length c1).ownBlock ≠ some bo) := Lib.hid (fun e => by rcases hat1 with h | h; exact ne0o.out (Option.some.inj (h.symm.trans e)); have h3 := Option.some.inj (h.symm.trans e); have := (ho.out.lt bo rfl).2; omega)
            replace ho := Lib.hid (row_cg ho.out hcg (fun q e hq => ne0o.out (hq.symm.trans (Option.some.inj e).symm)))
            replace hS := Lib.hid (hS.out.grown hg1 hqz (fun k e => by cases e; exact (hr0.out.lt b0 rfl).1))
            have hr1 := Lib.hid hown1
            clear hown1 hg1 hat1 hcg hr0 hqz
            refine hK.out _ _ ?_ ?_
            · (try dsimp only); exact hS.out
            clear hK K9 hHeld; intro hHeld
            try simp only [Act.put, nA]
            refine wpAnyH_ready (rs := [8]) (by kernel_rfl) (by simp) ?_
            refine AllReadyH.cons (o := ⟨some 39, .call { callee := .builtin .append, args := #[.tmp 34, .tmp 38], argTypes := #[25, 25] }, 25, "law.go:167", #[⟨3, .data⟩, ⟨7, .data⟩, ⟨3, .chain⟩], none⟩) rfl (fun K9 hK => ?_) ?_
            · skip
              have hqz := hS.out.size
              refine step_app_any rfl (.tmp 34) (.tmp 38) 25 rfl W6.heap.size 55 i3 (.agg #[.int .i64 0, .slice none 0 0]) 2 32 Tryz.underlying25 hi3 hi3z hi3s hi3b rfl (by decide) (.slice a1 U.objects.length c1) (.slice (some ⟨bo, 0, none⟩) 1 1) U.objects.length 1 (ob2s M) (ob2s [(({ cls := 1, flds := List.replicate kk (0, 0) } : ObjA), Value.slice (some ⟨bv, 0, none⟩) kk kk)]) (by simp [Act.eval]) (by simp [Act.eval]) hr1.out (rd_own ho.out) rfl (ob2s_one _ (fun y hy => by rw [List.mem_singleton.1 hy]; exact ⟨_, _, _, rfl⟩)) (by omega) (by omega) hqz ?_
              intro v2 z20 hown2 hg2 hat2
              obtain ⟨a2, c2, rfl⟩ := row_shape hown2
              have hcg : Cg (fun q => (Value.slice a1 U.objects.length c1).ownBlock = some q) z19 z20 := (Cg.refl _ z19).grown hg2 (fun q e => Or.inl e)
              replace hv := Lib.hid (row_cg hv.out hcg (fun q e hq => ne1v.out (by rw [hq]; exact e.symm)))
              replace hS := Lib.hid (hS.out.grown hg2 hqz (fun k e => (hr1.out.lt k e).1))
              have hBn := hB.out.up hS.out
              have x3 := hBn.c3
              have z3 := (hBz.out.up hS.out hqz2) 3
              have hE := Lib.hid (UQ.obj (Z := W6.heap.size) hBn huv5.out hq2.out.symm (hbz5.out.trans (hS.out.mono (Nat.le_of_lt hqz2))) hM.out hMp.out hown2 hv.out hqz2)
              have hbE := Lib.hid ((hb.out.trans (hS.out.mono hb.out.size)).trans (((Below.refl q2 z20).setCell (p := ⟨q2, 3, none⟩) (Nat.le_refl _) (.slice a2 (U.objects.length + 1) c2)).mono hz5))
              clear hown2 hg2 hat2 hcg hqz hr1 ho hv
              refine hK.out _ _ ?_ ?_
              · (try dsimp only); exact hS.out
              clear hK K9 hHeld; intro hHeld
              try simp only [Act.put, nA]
              refine tk (i := 9) (oi := ⟨some 40, .fieldAddr 27 (.tmp 9) 3, 0, "law.go:167", #[⟨0, .phase⟩, ⟨1, .phase⟩, ⟨2, .phase⟩, ⟨3, .phase⟩, ⟨4, .phase⟩, ⟨5, .phase⟩, ⟨6, .phase⟩, ⟨7, .phase⟩, ⟨8, .phase⟩], none⟩) (hy := by intro w hSw; (try dsimp only at hSw); have c3 := (hAn.out.up hSw).c3; go_simp <;> with_reducible rfl) ?_
              try simp only [Act.put, nA]
              refine last_step (o := ⟨none, .store 25 (.tmp 40) (.tmp 39), 0, "law.go:167", #[⟨9, .data⟩, ⟨8, .data⟩, ⟨8, .chain⟩, ⟨0, .phase⟩, ⟨1, .phase⟩, ⟨2, .phase⟩, ⟨3, .phase⟩, ⟨4, .phase⟩, ⟨5, .phase⟩, ⟨6, .phase⟩, ⟨7, .phase⟩, ⟨8, .phase⟩], none⟩) rfl (by kernel_rfl) (fun K hK => ?_)
              go_simp
              refine hK.out _ _ ?_
              clear hK K
              try simp only [Act.put, nA]
              go_wp2
              go_meet
              exact ⟨a2, c2, hE, hbE⟩
            exact AllReadyH.nil
          exact AllReadyH.nil
        exact AllReadyH.nil
      refine AllReadyH.cons (o := ⟨some 38, .buildSlice 25 1 #[(0, .tmp 37)], 25, "law.go:167", #[⟨6, .data⟩], none⟩) rfl (fun K9 hK => ?_) ?_
      · skip
        go_simp
        have hqz := hS.out.size
        have ho : Hid ((z13.alloc (.cells #[.int .i64 1, .slice (some ⟨bv, 0, none⟩) kk kk] 55)).ownsRow W6.heap.size 55 2 (.slice (some ⟨z13.heap.size, 0, none⟩) 1 1) 1 (ob2s [(({ cls := 1, flds := List.replicate kk (0, 0) } : ObjA), Value.slice (some ⟨bv, 0, none⟩) kk kk)])) := Lib.hid (World.ownsRow_lit z13 #[.int .i64 1, .slice (some ⟨bv, 0, none⟩) kk kk] 1 hqz (by omega) rfl)
        have hba := (Below.refl z13.heap.size z13).alloc (Nat.le_refl _) (.cells #[.int .i64 1, .slice (some ⟨bv, 0, none⟩) kk kk] 55)
        replace hS := Lib.hid (hS.out.trans (hba.mono hqz))
        replace hv := Lib.hid (row_bel hv.out hba)
        clear hba hqz
        generalize hgy : z13.alloc (.cells #[.int .i64 1, .slice (some ⟨bv, 0, none⟩) kk kk] 55) = z21 at *
        clear hgy
        generalize z13.heap.size = bo at *
        refine hK.out _ _ ?_ ?_
        · (try dsimp only); exact hS.out
        clear hK K9 hHeld; intro hHeld
        try simp only [Act.put, nA]
        refine wpAnyH_ready (rs := [0]) (by kernel_rfl) (by simp) ?_
        refine AllReadyH.cons (o := ⟨some 31, .buildSlice 25 0 #[], 25, "law.go:167", #[], none⟩) rfl (fun K9 hK => ?_) ?_
        · skip
          go_simp
          have hqz := hS.out.size
          have hr0 := Lib.hid (made_none z21 55 2 W6.heap.size hqz)
          have ne0v : Hid (z21.heap.size ≠ bv) := Lib.hid (fun e => by have := (hv.out.lt bv rfl).2; omega)
          have ne0o : Hid (z21.heap.size ≠ bo) := Lib.hid (fun e => by have := (ho.out.lt bo rfl).2; omega)
          have hba := (Below.refl z21.heap.size z21).alloc (Nat.le_refl _) (.cells #[] 55)
          replace hS := Lib.hid (hS.out.trans (hba.mono hqz))
          replace hv := Lib.hid (row_bel hv.out hba)
          replace ho := Lib.hid (row_bel ho.out hba)
          clear hba hqz
          generalize hgy : z21.alloc (.cells #[] 55) = z22 at *
          clear hgy
          generalize z21.heap.size = b0 at *
          refine hK.out _ _ ?_ ?_
          · (try dsimp only); exact hS.out
          clear hK K9 hHeld; intro hHeld
          try simp only [Act.put, nA]
          refine wpAnyH_ready (rs := [3]) (by kernel_rfl) (by simp) ?_
          refine AllReadyH.cons (o := ⟨some 34, .call { callee := .builtin .append, args := #[.tmp 31, .tmp 33], argTypes := #[25, 25] }, 25, "law.go:167", #[⟨0, .data⟩, ⟨2, .data⟩], none⟩) rfl (fun K9 hK => ?_) ?_
          · skip
            have hqz := hS.out.size
            refine step_app_any rfl (.tmp 31) (.tmp 33) 25 rfl W6.heap.size 55 i3 (.agg #[.int .i64 0, .slice none 0 0]) 2 32 Tryz.underlying25 hi3 hi3z hi3s hi3b rfl (by decide) (.slice (some ⟨b0, 0, none⟩) 0 0) (.slice oa U.objects.length oc) 0 U.objects.length [] (ob2s M) (by simp [Act.eval]) (by simp [Act.eval]) hr0.out (hrd.out.up hS.out) hlen.out hone.out (by omega) (by omega) hqz ?_
            intro v1 z23 hown1 hg1 hat1
            rw [Nat.zero_add, List.nil_append] at hown1
            obtain ⟨a1, c1, rfl⟩ := row_shape hown1
            have hcg : Cg (fun q => q = b0) z22 z23 := (Cg.refl (fun q => q = b0) z22).grown hg1 (fun q e => Or.inl (Option.some.inj e).symm)
            have ne1v : Hid ((Value.slice a1 U.objects.length c1).ownBlock ≠ some bv) := Lib.hid (fun e => by rcases hat1 with h | h; exact ne0v.out (Option.some.inj (h.symm.trans e)); have h3 := Option.some.inj (h.symm.trans e); have := (hv.out.lt bv rfl).2; omega)
            replace hv := Lib.hid (row_cg hv.out hcg (fun q e hq => ne0v.out (hq.symm.trans (Option.some.inj e).symm)))
            have ne1o : Hid ((Value.slice a1 U.objects.length c1).ownBlock ≠ some bo) := Lib.hid (fun e => by rcases hat1 with h | h; exact ne0o.out (Option.some.inj (h.symm.trans e)); have h3 := Option.some.inj (h.symm.trans e); have := (ho.out.lt bo rfl).2; omega)
            replace ho := Lib.hid (row_cg ho.out hcg (fun q e hq => ne0o.out (hq.symm.trans (Option.some.inj e).symm)))
            replace hS := Lib.hid (hS.out.grown hg1 hqz (fun k e => by cases e; exact (hr0.out.lt b0 rfl).1))
            have hr1 := Lib.hid hown1
            clear hown1 hg1 hat1 hcg hr0 hqz
            refine hK.out _ _ ?_ ?_
            · (try dsimp only); exact hS.out
            clear hK K9 hHeld; intro hHeld
            try simp only [Act.put, nA]
            refine wpAnyH_ready (rs := [8]) (by kernel_rfl) (by simp) ?_
            refine AllReadyH.cons (o := ⟨some 39, .call { callee := .builtin .append, args := #[.tmp 34, .tmp 38], argTypes := #[25, 25] }, 25, "law.go:167", #[⟨3, .data⟩, ⟨7, .data⟩, ⟨3, .chain⟩], none⟩) rfl (fun K9 hK => ?_) ?_
            · skip
              have hqz := hS.out.size
              refine step_app_any rfl (.tmp 34) (.tmp 38) 25 rfl W6.heap.size 55 i3 (.agg #[.int .i64 0, .slice none 0 0]) 2 32 Tryz.underlying25 hi3 hi3z hi3s hi3b rfl (by decide) (.slice a1 U.objects.length c1) (.slice (some ⟨bo, 0, none⟩) 1 1) U.objects.length 1 (ob2s M) (ob2s [(({ cls := 1, flds := List.replicate kk (0, 0) } : ObjA), Value.slice (some ⟨bv, 0, none⟩) kk kk)]) (by simp [Act.eval]) (by simp [Act.eval]) hr1.out (rd_own ho.out) rfl (ob2s_one _ (fun y hy => by rw [List.mem_singleton.1 hy]; exact ⟨_, _, _, rfl⟩)) (by omega) (by omega) hqz ?_
              intro v2 z24 hown2 hg2 hat2
              obtain ⟨a2, c2, rfl⟩ := row_shape hown2
              have hcg : Cg (fun q => (Value.slice a1 U.objects.length c1).ownBlock = some q) z23 z24 := (Cg.refl _ z23).grown hg2 (fun q e => Or.inl e)
              replace hv := Lib.hid (row_cg hv.out hcg (fun q e hq => ne1v.out (by rw [hq]; exact e.symm)))
              replace hS := Lib.hid (hS.out.grown hg2 hqz (fun k e => (hr1.out.lt k e).1))
              have hBn := hB.out.up hS.out
              have x3 := hBn.c3
              have z3 := (hBz.out.up hS.out hqz2) 3
              have hE := Lib.hid (UQ.obj (Z := W6.heap.size) hBn huv5.out hq2.out.symm (hbz5.out.trans (hS.out.mono (Nat.le_of_lt hqz2))) hM.out hMp.out hown2 hv.out hqz2)
              have hbE := Lib.hid ((hb.out.trans (hS.out.mono hb.out.size)).trans (((Below.refl q2 z24).setCell (p := ⟨q2, 3, none⟩) (Nat.le_refl _) (.slice a2 (U.objects.length + 1) c2)).mono hz5))
              clear hown2 hg2 hat2 hcg hqz hr1 ho hv
              refine hK.out _ _ ?_ ?_
              · (try dsimp only); exact hS.out
              clear hK K9 hHeld; intro hHeld
              try simp only [Act.put, nA]
              refine tk (i := 9) (oi := ⟨some 40, .fieldAddr 27 (.tmp 9) 3, 0, "law.go:167", #[⟨0, .phase⟩, ⟨1, .phase⟩, ⟨2, .phase⟩, ⟨3, .phase⟩, ⟨4, .phase⟩, ⟨5, .phase⟩, ⟨6, .phase⟩, ⟨7, .phase⟩, ⟨8, .phase⟩], none⟩) (hy := by intro w hSw; (try dsimp only at hSw); have c3 := (hAn.out.up hSw).c3; go_simp <;> with_reducible rfl) ?_
              try simp only [Act.put, nA]
              refine last_step (o := ⟨none, .store 25 (.tmp 40) (.tmp 39), 0, "law.go:167", #[⟨9, .data⟩, ⟨8, .data⟩, ⟨8, .chain⟩, ⟨0, .phase⟩, ⟨1, .phase⟩, ⟨2, .phase⟩, ⟨3, .phase⟩, ⟨4, .phase⟩, ⟨5, .phase⟩, ⟨6, .phase⟩, ⟨7, .phase⟩, ⟨8, .phase⟩], none⟩) rfl (by kernel_rfl) (fun K hK => ?_)
              go_simp
              refine hK.out _ _ ?_
              clear hK K
              try simp only [Act.put, nA]
              go_wp2
              go_meet
              exact ⟨a2, c2, hE, hbE⟩
            exact AllReadyH.nil
          exact AllReadyH.nil
        exact AllReadyH.nil
      exact AllReadyH.nil
    exact AllReadyH.nil
  case rest =>
    clear hA hAn hB hBz hbz5 huv5 hM hMp hrd hone hlen hml hZl hZs hb hbu hq0 hq2 hrn
    obtain ⟨a3, c3, hE, hb⟩ := hcut
    obtain ⟨b0, b1, b2, b3, b4⟩ := hE.out.five
    have P := isize_c hE.out.un
    rw [sz_obj hT.out (by omega), ← hs0.out] at P
    replace P := Lib.hid P
    have w1_ : IntKind.i64.wrap (s0 + 11) = s0 + 11 := by rw [IntKind.wrap_i64]; omega
    have w2_ : IntKind.i64.wrap (s0 + 8) = s0 + 8 := by rw [IntKind.wrap_i64]; omega
    have w3_ : IntKind.i64.wrap (8 * (kk : Int)) = 8 * (kk : Int) := by rw [IntKind.wrap_i64]; omega
    have w4_ : IntKind.i64.wrap (s0 + 8 + 8 * (kk : Int)) = s0 + 8 + 8 * (kk : Int) := by rw [IntKind.wrap_i64]; omega
    go_wp2_with fail
    with_reducible refine P.out.mono ?_
    rintro e1 w8 ⟨rfl, hb8⟩
    replace hb := Lib.hid (hb.out.trans (hb8.mono hb.out.size))
    clear b0 b1 b2 b3 b4 P hb8 hE
    go_wp2_with fail
    with_reducible refine (PN.out _).mono ?_
    rintro e w9 ⟨rfl, hb9⟩
    go_wp2
    go_ret
    exact ⟨rfl, hb.out.trans (hb9.mono hb.out.size)⟩
end Wd
end Go.Proofs.YtgfnelhbdhbklaaGreat
