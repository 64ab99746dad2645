/- Texts joined: VO, VF, VG, VH, VL, OLaw. -/
import Derived.Test.YtgfdgdbkifkehaaJ2
import Derived.Test.YtgfdgdbkifkehaaJ3
import Derived.Test.YtgfdgdbkifkehaaJ4
import Derived.Test.YtgfdgdbkifkehaaJ12
import Derived.Test.YtgfdgdbkifkehaaJ13
import Derived.Deep.AppendLies
import Derived.Deep.MidRow
import Derived.Deep.RegionHeld3
import Derived.Deep.RegionWith
/- The landed programs: a whole program copied. -/
namespace Go.Proofs.Ytgfdgdbkifkehaa
open Go.RowKit
set_option linter.unusedVariables false
set_option maxRecDepth 20000
namespace Wd
theorem CW.after {w wA w5 : World} {N : List ByteArray} {T : List (ClassA × Value)} {M : List (MethA × Value × Value)} {O : List (ObjA × Value)} {nv cv mv ov x0 x1 x2 x3 : Value} {main : Int} {i : Nat} (h : CW w wA N T M O nv cv mv ov x0 x1 x2 x3 main) (hi : i < 4) (hg : wA.grownBy w5 (rws N T M O nv cv mv ov i).v.ownBlock) : (∀ j v, wA.cell? ⟨w.heap.size + 2, j, none⟩ = some v → w5.cell? ⟨w.heap.size + 2, j, none⟩ = some v) ∧ ∀ j, w5.frozen? ⟨w.heap.size + 2, j, none⟩ = false := by
  obtain ⟨J, hc, _⟩ := h.ex
  have hb : w5.heap[w.heap.size + 2]? = wA.heap[w.heap.size + 2]? := hg.block _ hc.lt (fun e => by have := ((hc.own i hi).lt _ e.symm).1; omega)
  exact ⟨fun j v hv => (World.cell?_of_block (a := ⟨w.heap.size + 2, j, none⟩) hb).trans hv, fun j => (World.frozen?_of_block (a := ⟨w.heap.size + 2, j, none⟩) hb).trans (hc.fz j)⟩
theorem infoStrC : (Try.prog.info? 9).map (fun i => (i.zero, i.size, i.bytes)) = some (some (.string ByteArray.empty), 1, 16) := by kernel_rfl
theorem infoMtC : (Try.prog.info? 47).map (fun i => (i.zero, i.size, i.bytes)) = some (some (.agg #[.int .i64 0, .int .i64 0, .slice none 0 0, .slice none 0 0]), 4, 64) := by kernel_rfl
theorem ucopy_res {ts : Array Value} {w : World} {q : Nat} {v0 v1 v2 v3 v4 : Value} (h2 : ts.getD 2 undef = .pointer (some ⟨q, 0, none⟩)) (r0 : w.cell? ⟨q, 0, none⟩ = some v0) (r1 : w.cell? ⟨q, 1, none⟩ = some v1) (r2 : w.cell? ⟨q, 2, none⟩ = some v2) (r3 : w.cell? ⟨q, 3, none⟩ = some v3) (r4 : w.cell? ⟨q, 4, none⟩ = some v4) :
    (results Try.f11 ts).run Try.prog w = .ok (.agg #[v0, v1, v2, v3, v4]) w := by
  have h2' : ts[2]?.getD undef = .pointer (some ⟨q, 0, none⟩) := by rw [← Array.getD_eq_getD_getElem?]; exact h2
  simp [results, Try.results11, go_sem, h2', r0, r1, r2, r3, r4]
/-- a box of four, made at wr's end -/
structure Bx4 (wr W : World) (T : TypeId) (u0 u1 u2 u3 : Value) : Prop where
  mk ::
  h : W.heap[wr.heap.size]? = some (.cells #[u0, u1, u2, u3] T (0, 0))
  bel : Below wr.heap.size wr W
section
variable {wr W W2 : World} {T : TypeId} {u0 u1 u2 u3 : Value}
theorem Bx4.born : Bx4 wr (wr.alloc (.cells #[u0, u1, u2, u3] T)) T u0 u1 u2 u3 := ⟨heap_alloc_new _ _, (Below.refl _ _).alloc (Nat.le_refl _) _⟩
theorem Bx4.c0 (x : Bx4 wr W T u0 u1 u2 u3) : W.cell? ⟨wr.heap.size, 0, none⟩ = some u0 := cell_in x.h rfl
theorem Bx4.c1 (x : Bx4 wr W T u0 u1 u2 u3) : W.cell? ⟨wr.heap.size, 1, none⟩ = some u1 := cell_in x.h rfl
theorem Bx4.c2 (x : Bx4 wr W T u0 u1 u2 u3) : W.cell? ⟨wr.heap.size, 2, none⟩ = some u2 := cell_in x.h rfl
theorem Bx4.c3 (x : Bx4 wr W T u0 u1 u2 u3) : W.cell? ⟨wr.heap.size, 3, none⟩ = some u3 := cell_in x.h rfl
theorem Bx4.z (x : Bx4 wr W T u0 u1 u2 u3) (j : Nat) : W.frozen? ⟨wr.heap.size, j, none⟩ = false := loose_in x.h
theorem Bx4.lt (x : Bx4 wr W T u0 u1 u2 u3) : wr.heap.size < W.heap.size := World.block_lt_of_cell? _ _ x.c0
theorem Bx4.up (x : Bx4 wr W T u0 u1 u2 u3) (b : Below W.heap.size W W2) : Bx4 wr W2 T u0 u1 u2 u3 := ⟨(b.block _ x.lt).trans x.h, x.bel.trans (b.mono x.bel.size)⟩
theorem Bx4.set0 (x : Bx4 wr W T u0 u1 u2 u3) (v : Value) : Bx4 wr (W.setCell ⟨wr.heap.size, 0, none⟩ v) T v u1 u2 u3 := ⟨Lib.heap_setCell_same (i := 0) x.h _, x.bel.setCell (Nat.le_refl _) _⟩
theorem Bx4.set2 (x : Bx4 wr W T u0 u1 u2 u3) (v : Value) : Bx4 wr (W.setCell ⟨wr.heap.size, 2, none⟩ v) T u0 u1 v u3 := ⟨Lib.heap_setCell_same (i := 2) x.h _, x.bel.setCell (Nat.le_refl _) _⟩
theorem Bx4.set3 (x : Bx4 wr W T u0 u1 u2 u3) (v : Value) : Bx4 wr (W.setCell ⟨wr.heap.size, 3, none⟩ v) T u0 u1 u2 v := ⟨Lib.heap_setCell_same (i := 3) x.h _, x.bel.setCell (Nat.le_refl _) _⟩
end
/-- a box of two -/
structure Bx2 (wr W : World) (T : TypeId) (u0 u1 : Value) : Prop where
  mk ::
  h : W.heap[wr.heap.size]? = some (.cells #[u0, u1] T (0, 0))
  bel : Below wr.heap.size wr W
section
variable {wr W W2 : World} {T : TypeId} {u0 u1 : Value}
theorem Bx2.born : Bx2 wr (wr.alloc (.cells #[u0, u1] T)) T u0 u1 := ⟨heap_alloc_new _ _, (Below.refl _ _).alloc (Nat.le_refl _) _⟩
theorem Bx2.c0 (x : Bx2 wr W T u0 u1) : W.cell? ⟨wr.heap.size, 0, none⟩ = some u0 := cell_in x.h rfl
theorem Bx2.c1 (x : Bx2 wr W T u0 u1) : W.cell? ⟨wr.heap.size, 1, none⟩ = some u1 := cell_in x.h rfl
theorem Bx2.z (x : Bx2 wr W T u0 u1) (j : Nat) : W.frozen? ⟨wr.heap.size, j, none⟩ = false := loose_in x.h
theorem Bx2.lt (x : Bx2 wr W T u0 u1) : wr.heap.size < W.heap.size := World.block_lt_of_cell? _ _ x.c0
theorem Bx2.up (x : Bx2 wr W T u0 u1) (b : Below W.heap.size W W2) : Bx2 wr W2 T u0 u1 := ⟨(b.block _ x.lt).trans x.h, x.bel.trans (b.mono x.bel.size)⟩
theorem Bx2.set1 (x : Bx2 wr W T u0 u1) (v : Value) : Bx2 wr (W.setCell ⟨wr.heap.size, 1, none⟩ v) T u0 v := ⟨Lib.heap_setCell_same (i := 1) x.h _, x.bel.setCell (Nat.le_refl _) _⟩
end
/-- the boxes as they are made -/
theorem cw_born {w : World} {x0 x1 x2 x3 : Value} {m : Int} : CW w (((w.alloc (.cells #[x0, x1, x2, x3, .int .i64 m] 28)).alloc (.cells #[.slice none 0 0, .slice none 0 0, .slice none 0 0, .slice none 0 0, .int .i64 0] 28)).alloc (.cells #[.slice none 0 0, .slice none 0 0, .slice none 0 0, .slice none 0 0, .int .i64 m] 28)) [] [] [] [] (.slice none 0 0) (.slice none 0 0) (.slice none 0 0) (.slice none 0 0) x0 x1 x2 x3 m := by
  have s1 : (w.alloc (.cells #[x0, x1, x2, x3, .int .i64 m] 28)).heap.size = w.heap.size + 1 := by simp
  have s2 : ((w.alloc (.cells #[x0, x1, x2, x3, .int .i64 m] 28)).alloc (.cells #[.slice none 0 0, .slice none 0 0, .slice none 0 0, .slice none 0 0, .int .i64 0] 28)).heap.size = w.heap.size + 2 := by simp
  have h2 : (((w.alloc (.cells #[x0, x1, x2, x3, .int .i64 m] 28)).alloc (.cells #[.slice none 0 0, .slice none 0 0, .slice none 0 0, .slice none 0 0, .int .i64 0] 28)).alloc (.cells #[.slice none 0 0, .slice none 0 0, .slice none 0 0, .slice none 0 0, .int .i64 m] 28)).heap[w.heap.size + 2]? = some (.cells #[.slice none 0 0, .slice none 0 0, .slice none 0 0, .slice none 0 0, .int .i64 m] 28 (0, 0)) := by
    rw [← s2]; exact heap_alloc_new _ _
  have h1 : (((w.alloc (.cells #[x0, x1, x2, x3, .int .i64 m] 28)).alloc (.cells #[.slice none 0 0, .slice none 0 0, .slice none 0 0, .slice none 0 0, .int .i64 0] 28)).alloc (.cells #[.slice none 0 0, .slice none 0 0, .slice none 0 0, .slice none 0 0, .int .i64 m] 28)).heap[w.heap.size + 1]? = some uz5c := by
    rw [Below.heap_alloc _ _ _ (by rw [s2]; omega), ← s1]; exact heap_alloc_new _ _
  have h0 : (((w.alloc (.cells #[x0, x1, x2, x3, .int .i64 m] 28)).alloc (.cells #[.slice none 0 0, .slice none 0 0, .slice none 0 0, .slice none 0 0, .int .i64 0] 28)).alloc (.cells #[.slice none 0 0, .slice none 0 0, .slice none 0 0, .slice none 0 0, .int .i64 m] 28)).heap[w.heap.size]? = some (.cells #[x0, x1, x2, x3, .int .i64 m] 28 (0, 0)) := by
    rw [Below.heap_alloc _ _ _ (by rw [s2]; omega), Below.heap_alloc _ _ _ (by rw [s1]; omega)]; exact heap_alloc_new _ _
  have hb := (((Below.refl w.heap.size w).alloc (Nat.le_refl _) (.cells #[x0, x1, x2, x3, .int .i64 m] 28)).alloc (by rw [s1]; omega) (.cells #[.slice none 0 0, .slice none 0 0, .slice none 0 0, .slice none 0 0, .int .i64 0] 28)).alloc (by rw [s2]; omega) (.cells #[.slice none 0 0, .slice none 0 0, .slice none 0 0, .slice none 0 0, .int .i64 m] 28)
  refine ⟨⟨[], ⟨fun i hi => ?_, cell_in h2 rfl, fun j => loose_in h2, fun i hi => ?_, fun i j hi hj hn k hk => ?_, fun x hx => by cases hx⟩, fun x hx => (by cases hx), fun x hx => (by cases hx), fun x hx => (by cases hx)⟩, hb, h0, h1⟩
  · match i, hi with
    | 0, _ => exact cell_in h2 rfl
    | 1, _ => exact cell_in h2 rfl
    | 2, _ => exact cell_in h2 rfl
    | 3, _ => exact cell_in h2 rfl
  · match i, hi with
    | 0, _ => exact World.ownsRow_nil _ _ _ _
    | 1, _ => exact World.ownsRow_nil _ _ _ _
    | 2, _ => exact World.ownsRow_nil _ _ _ _
    | 3, _ => exact World.ownsRow_nil _ _ _ _
  · match i, hi with
    | 0, _ => cases hk
    | 1, _ => cases hk
    | 2, _ => cases hk
    | 3, _ => cases hk
set_option maxHeartbeats 64000000 in
theorem ucopy_c {w : World} {u : Value} {U : UnitA} (hu : UnK w u U) (hz : Sz U) :
    Calls Try.prog 11 #[u] w fun e w' => ∃ wr T M O nv cv mv ov x0 x1 x2 x3, e = .returned (.agg #[nv, cv, mv, ov, .int .i64 U.main]) ∧ T.map (·.1) = U.classes ∧ M.map (·.1) = U.methods ∧ O.map (·.1) = U.objects ∧ CW w wr U.names T M O nv cv mv ov x0 x1 x2 x3 U.main ∧ Cg (fun k => k = w.heap.size + 1) wr w' := by
  obtain ⟨i0, hi0, hi0z, hi0s, hi0b⟩ := info_parts infoStrC
  obtain ⟨i1, hi1, hi1z, hi1s, hi1b⟩ := info_parts infoCls
  obtain ⟨i2, hi2, hi2z, hi2s, hi2b⟩ := info_parts infoMtC
  obtain ⟨i3, hi3, hi3z, hi3s, hi3b⟩ := info_parts infoObj
  have hmx : 100000 ≤ maxLen := by decide
  obtain ⟨na, nc, ca, cc, ma, mc, oa, oc, l1, l2, l3, l4, rfl, hV, _, _, _, _⟩ := hu.v1
  obtain ⟨_, _, _, _, _, _, _, _, ee, hU⟩ := hu.ex
  obtain ⟨g1, g2, g3, g4⟩ := hV.lens
  subst g1; subst g2; subst g3; subst g4
  cases ee
  obtain ⟨l1, g1⟩ : ∃ n, n = U.names.length := ⟨_, rfl⟩
  obtain ⟨l2, g2⟩ : ∃ n, n = U.classes.length := ⟨_, rfl⟩
  obtain ⟨l3, g3⟩ : ∃ n, n = U.methods.length := ⟨_, rfl⟩
  obtain ⟨l4, g4⟩ : ∃ n, n = U.objects.length := ⟨_, rfl⟩
  have z1 : l1 ≤ 100000 := by rw [g1]; exact hz.nn
  have z2 : l2 ≤ 100000 := by rw [g2]; exact hz.nc
  have z3 : l3 ≤ 100000 := by rw [g3]; exact hz.nm
  have z4 : l4 ≤ 100000 := by rw [g4]; exact hz.no
  have gg := Lib.hid (And.intro g1 (And.intro g2 (And.intro g3 g4)))
  obtain ⟨v1, v2, v3, v4⟩ := hU
  rw [← g1] at v1 ⊢
  rw [← g2] at v2 ⊢
  rw [← g3] at v3 ⊢
  rw [← g4] at v4 ⊢
  replace v1 := Lib.hid v1
  replace v2 := Lib.hid v2
  replace v3 := Lib.hid v3
  replace v4 := Lib.hid v4
  replace hz := Lib.hid hz
  clear hV hu g1 g2 g3 g4
  have hS : Hid (CW w (((w.alloc (.cells #[.slice na l1 nc, .slice ca l2 cc, .slice ma l3 mc, .slice oa l4 oc, .int .i64 U.main] 28)).alloc (.cells #[.slice none 0 0, .slice none 0 0, .slice none 0 0, .slice none 0 0, .int .i64 0] 28)).alloc (.cells #[.slice none 0 0, .slice none 0 0, .slice none 0 0, .slice none 0 0, .int .i64 U.main] 28)) [] [] [] [] (.slice none 0 0) (.slice none 0 0) (.slice none 0 0) (.slice none 0 0) (.slice na l1 nc) (.slice ca l2 cc) (.slice ma l3 mc) (.slice oa l4 oc) U.main) := Lib.hid cw_born
  go_enter Try.func11, Try.ntmps11
  go_upto_region 2 with fail
  generalize (((w.alloc (.cells #[.slice na l1 nc, .slice ca l2 cc, .slice ma l3 mc, .slice oa l4 oc, .int .i64 U.main] 28)).alloc (.cells #[.slice none 0 0, .slice none 0 0, .slice none 0 0, .slice none 0 0, .int .i64 0] 28)).alloc (.cells #[.slice none 0 0, .slice none 0 0, .slice none 0 0, .slice none 0 0, .int .i64 U.main] 28)) = W at *
  obtain ⟨b0, b1, b2, b3, b4⟩ := hS.out.ubs
  go_wp2
  clear b0 b1 b2 b3 b4
  go_loopw [18] (fun i wr => ∃ (k : Nat) (a : Option Addr) (c : Nat), k ≤ l1 ∧ i = .int .i64 k ∧ Hid (CW w wr (U.names.take k) [] [] [] (.slice a k c) (.slice none 0 0) (.slice none 0 0) (.slice none 0 0) (.slice na l1 nc) (.slice ca l2 cc) (.slice ma l3 mc) (.slice oa l4 oc) U.main)) (fun i _ => l1 - (intOf i).toNat)
  case atStart => exact ⟨0, none, 0, by omega, rfl, hS⟩
  case round =>
    clear hS
    obtain ⟨k, a, c, hk, rfl, hS⟩ := hrel
    obtain ⟨b0, b1, b2, b3, b4⟩ := hS.out.ubs
    by_cases hlt : k < l1
    · as_aux_lemma =>
      have hlt' : decide ((k : Int) < (l1 : Int)) = true := by simp; omega
      have p0 : (0 : Int) ≤ (k : Int) := by omega
      have p1 : (k : Int) < (l1 : Int) := by omega
      obtain ⟨x, hx⟩ : ∃ x, U.names[k]? = some x := ⟨U.names[k]'(by have := gg.out.1; omega), by simp⟩
      obtain ⟨g, off, rfl, c0⟩ := NmV.at (v1.out.up hS.out.bel) hx
      have hNx : Hid (U.names.take k ++ [x] = U.names.take (k + 1)) := Lib.hid (take_next hx).symm
      have hNl : Hid ((U.names.take k).length = k) := Lib.hid (by rw [List.length_take]; have := gg.out.1; omega)
      have PC := Lib.hid (fun w => uclone_c x (hz.out.ns x (List.mem_of_getElem? hx)) w)
      clear hx v2 v3 v4 hz
      go_upto_region 5 with fail
      clear c0 b0 b1 b2 b3 b4
      have x0a := hS.out.cells.1
      replace hS := Lib.hid (hS.out.up ((Below.refl _ _).drew))
      refine wp_region_last (d := 7) (fuel := 7) (S := (fun wr' => wr'.cell? ⟨w.heap.size + 2, 0, none⟩ = some (.slice a k c))) (by kernel_rfl) (by kernel_rfl) rfl ?_ (fun hHeld => ?_)
      · (try dsimp only); exact x0a
      try simp only [Act.put, List.setIfInBounds_toArray, List.set_cons_zero, List.set_cons_succ]
      refine wpAnyH_take (i := 0) (oi := { dst := some 22, op := Op.fieldAddr 28 (Operand.tmp 3) 0, type := 0, pos := "unit.go:81", after := #[], guard := none }) (v := ?_) rfl (by kernel_rfl) (by kernel_rfl) (by kernel_rfl) (fun _ _ _ h => h) (Or.inl ⟨by rfl, ?_⟩) (by assumption) ?_
      rotate_left 1
      · intro w hSw; (try dsimp only at hSw); go_simp <;> with_reducible rfl
      try simp only [Act.put, List.setIfInBounds_toArray, List.set_cons_zero, List.set_cons_succ]
      refine wpAnyH_take (i := 1) (oi := { dst := some 23, op := Op.load 23 (Operand.tmp 22), type := 23, pos := "unit.go:81", after := #[{ on := 0, ground := Ground.data }], guard := none }) (v := ?_) rfl (by kernel_rfl) (by kernel_rfl) (by kernel_rfl) (fun _ _ _ h => h) (Or.inl ⟨by rfl, ?_⟩) (by assumption) ?_
      rotate_left 1
      · intro w hSw; (try dsimp only at hSw); go_simp <;> with_reducible rfl
      try simp only [Act.put, List.setIfInBounds_toArray, List.set_cons_zero, List.set_cons_succ]
      refine wpAnyH_take (i := 2) (oi := { dst := some 24, op := Op.move (Operand.tmp 5), type := 9, pos := "unit.go:81", after := #[], guard := none }) (v := ?_) rfl (by kernel_rfl) (by kernel_rfl) (by kernel_rfl) (fun _ _ _ h => h) (Or.inl ⟨by rfl, ?_⟩) (by assumption) ?_
      rotate_left 1
      · intro w hSw; (try dsimp only at hSw); go_simp <;> with_reducible rfl
      try simp only [Act.put, List.setIfInBounds_toArray, List.set_cons_zero, List.set_cons_succ]
      refine wpAnyH_ready (rs := [3]) (by kernel_rfl) (by simp) ?_
      refine AllReadyH.cons (o := { dst := some 25, op := Op.call { callee := Callee.value (Operand.func 21), args := #[Operand.tmp 24], argTypes := #[9] }, type := 9, pos := "unit.go:81", after := #[{ on := 2, ground := Ground.data }], guard := none }) rfl (fun K9 hK => ?_) ?_
      · go_simp
        with_reducible refine (PC.out _).mono ?_
        rintro e y1 ⟨rfl, hb⟩
        have hS1 := Lib.hid (hS.out.up hb)
        have x0b := hS1.out.cells.1
        have hS2 := Lib.hid (hS1.out.up ((Below.refl y1.heap.size y1).alloc (Nat.le_refl _) (.cells #[.string x] 9)))
        have x0c := hS2.out.cells.1
        have own7 : Hid ((y1.alloc (.cells #[.string x] 9)).ownsRow (w.heap.size + 2 + 1) 9 1 (.slice a k c) k (strs (U.names.take k))) := Lib.hid (by have h := hS2.out.own0; rw [hNl.out] at h; exact h)
        have rd7 : Hid (∀ j u, (strs [x])[j]? = some u → (y1.alloc (.cells #[.string x] 9)).cell? ((⟨y1.heap.size, 0, none⟩ : Addr).add j) = some u) := Lib.hid (World.news_of_block (alloc_at _ _ _ rfl))
        have hb7 : Hid (w.heap.size + 2 + 1 ≤ (y1.alloc (.cells #[.string x] 9)).heap.size) := Lib.hid hS2.out.sz
        clear hb hS PC
        go_wp2_with fail
        refine hK.out _ _ ?_ ?_
        · (try dsimp only); exact x0b
        clear hK K9 hHeld; intro hHeld
        try simp only [Act.put, List.setIfInBounds_toArray, List.set_cons_zero, List.set_cons_succ]
        refine wpAnyH_ready (rs := [4]) (by kernel_rfl) (by simp) ?_
        refine AllReadyH.cons (o := { dst := some 26, op := Op.buildSlice 23 1 #[(0, Operand.tmp 25)], type := 23, pos := "unit.go:81", after := #[{ on := 3, ground := Ground.data }], guard := none }) rfl (fun K9 hK => ?_) ?_
        · go_simp
          refine hK.out _ _ ?_ ?_
          · (try dsimp only); exact x0c
          clear hK K9 hHeld; intro hHeld
          try simp only [Act.put, List.setIfInBounds_toArray, List.set_cons_zero, List.set_cons_succ]
          refine wpAnyH_ready (rs := [5]) (by kernel_rfl) (by simp) ?_
          refine AllReadyH.cons (o := { dst := some 27, op := Op.call { callee := Callee.builtin Builtin.append, args := #[Operand.tmp 23, Operand.tmp 26], argTypes := #[23, 23] }, type := 23, pos := "unit.go:81", after := #[{ on := 1, ground := Ground.data }, { on := 4, ground := Ground.data }, { on := 3, ground := Ground.chain }], guard := none }) rfl (fun K9 hK => ?_) ?_
          · refine step_append_lies _ rfl (.tmp 23) (.tmp 26) 23 rfl (w.heap.size + 2 + 1) 9 i0 (.string ByteArray.empty) 1 16 Try.underlying23 hi0 hi0z hi0s hi0b rfl (by decide) (.slice a k c) k _ rfl own7.out ⟨y1.heap.size, 0, none⟩ 1 1 (strs [x]) rfl rfl rd7.out (strs_one _) (by omega) (by omega) (by omega) hb7.out _ rfl ?_
            intro g1 cap1 wh hown1 hgrow1 hat1 hlt1
            have hN := Lib.hid (hS2.out.push0 (by rw [hNl.out]; exact hown1) hgrow1 (fun q hq => by have e1 : g1 = q := (by simpa [Value.ownBlock] using hq); rcases hat1 with e | e; exact Or.inl (by rw [← e1]; exact e); exact Or.inr (by rw [← e1]; exact e)))
            have hAf := hS2.out.after (i := 0) (by decide) hgrow1
            have x0h := hAf.1 0 _ x0c
            have z0h := hAf.2 0
            clear hown1 hgrow1 hat1 hlt1 hAf
            refine hK.out _ _ ?_ ?_
            · (try dsimp only); exact x0h
            clear hK K9 hHeld; intro hHeld
            try simp only [Act.put, List.setIfInBounds_toArray, List.set_cons_zero, List.set_cons_succ]
            refine wpAnyH_take (i := 6) (oi := { dst := some 28, op := Op.fieldAddr 28 (Operand.tmp 3) 0, type := 0, pos := "unit.go:81", after := #[{ on := 0, ground := Ground.phase }, { on := 1, ground := Ground.phase }, { on := 2, ground := Ground.phase }, { on := 3, ground := Ground.phase }, { on := 4, ground := Ground.phase }, { on := 5, ground := Ground.phase }], guard := none }) (v := ?_) rfl (by kernel_rfl) (by kernel_rfl) (by kernel_rfl) (fun _ _ _ h => h) (Or.inl ⟨by rfl, ?_⟩) (by assumption) ?_
            rotate_left 1
            · intro w hSw; (try dsimp only at hSw); go_simp <;> with_reducible rfl
            try simp only [Act.put, List.setIfInBounds_toArray, List.set_cons_zero, List.set_cons_succ]
            refine last_step (o := { dst := none, op := Op.store 23 (Operand.tmp 28) (Operand.tmp 27), type := 0, pos := "unit.go:81", after := #[{ on := 6, ground := Ground.data }, { on := 5, ground := Ground.data }, { on := 5, ground := Ground.chain }, { on := 0, ground := Ground.phase }, { on := 1, ground := Ground.phase }, { on := 2, ground := Ground.phase }, { on := 3, ground := Ground.phase }, { on := 4, ground := Ground.phase }, { on := 5, ground := Ground.phase }], guard := none }) rfl (by kernel_rfl) (fun K hK => ?_)
            go_simp
            refine hK.out _ _ ?_
            clear hK K
            try simp only [Act.put, List.setIfInBounds_toArray, List.set_cons_zero, List.set_cons_succ]
            go_wp2
            go_roundw
            case rel => exact ⟨k + 1, _, _, by omega, by go_num, by rw [← hNx.out]; exact hN⟩
            case measure => simp [intOf]; omega
          exact AllReadyH.nil
        exact AllReadyH.nil
      exact AllReadyH.nil
    · as_aux_lemma =>
      have hlt' : decide ((k : Int) < (l1 : Int)) = false := by simp; omega
      have hS0 : Hid (CW w wr U.names [] [] [] (.slice a l1 c) (.slice none 0 0) (.slice none 0 0) (.slice none 0 0) (.slice na l1 nc) (.slice ca l2 cc) (.slice ma l3 mc) (.slice oa l4 oc) U.main) := Lib.hid (by
        have h := hS.out
        rw [show k = l1 by omega, gg.out.1, List.take_length, ← gg.out.1] at h
        exact h)
      obtain rfl : l1 = k := by omega
      clear hS hk hlt
      rename Hid (CW _ _ _ _ _ _ _ _ _ _ _ _ _ _ _) => hS
      obtain ⟨nv, hnv⟩ : ∃ v, v = Value.slice a l1 c := ⟨_, rfl⟩
      rw [← hnv] at hS
      clear hnv
      obtain ⟨b0, b1, b2, b3, b4⟩ := hS.out.ubs
      go_wp2
      clear b0 b1 b2 b3 b4
      go_loopw [33] (fun i wr => ∃ (k : Nat) (T : List (ClassA × Value)) (a : Option Addr) (c : Nat), k ≤ l2 ∧ i = .int .i64 k ∧ Hid (T.map (·.1) = U.classes.take k) ∧ Hid (CW w wr U.names T [] [] nv (.slice a k c) (.slice none 0 0) (.slice none 0 0) (.slice na l1 nc) (.slice ca l2 cc) (.slice ma l3 mc) (.slice oa l4 oc) U.main)) (fun i _ => l2 - (intOf i).toNat)
      case atStart => exact ⟨0, [], none, 0, by omega, rfl, Lib.hid rfl, hS⟩
      case round =>
        clear hS
        obtain ⟨k, T, a, c, hk, rfl, hT, hS⟩ := hrel
        obtain ⟨b0, b1, b2, b3, b4⟩ := hS.out.ubs
        by_cases hlt : k < l2
        · as_aux_lemma =>
          have hlt' : decide ((k : Int) < (l2 : Int)) = true := by simp; omega
          have p0 : (0 : Int) ≤ (k : Int) := by omega
          have p1 : (k : Int) < (l2 : Int) := by omega
          obtain ⟨x, hx⟩ : ∃ x, U.classes[k]? = some x := ⟨U.classes[k]'(by have := gg.out.2.1; omega), by simp⟩
          obtain ⟨_, _, g, off, bv, rfl, d0, d1, d2, d3, pb⟩ := ClV.at (v2.out.up hS.out.bel) hx
          obtain ⟨ba, bc, rfl, _, _⟩ := pb.form
          have hbd : x.binds.length ≤ 8796093022208 := hz.out.bs x (List.mem_of_getElem? hx)
          have PC := Lib.hid (fun w => uclone_c x.nm (hz.out.cs x (List.mem_of_getElem? hx)) w)
          have hTl : Hid (T.length = k) := Lib.hid (by have h := congrArg List.length hT.out; rw [List.length_map, List.length_take] at h; have := gg.out.2.1; omega)
          have hTx : Hid (∀ v : Value, (T ++ [(x, v)]).map (·.1) = U.classes.take (k + 1)) := Lib.hid (fun v => by rw [List.map_append, hT.out, take_next hx]; rfl)
          have hX : Hid (Bx4 wr (wr.alloc (.cells #[.string x.nm, .int .i64 x.super, .int .i64 x.fields, .slice ba x.binds.length bc] 37)) 37 (.string x.nm) (.int .i64 x.super) (.int .i64 x.fields) (.slice ba x.binds.length bc)) := Lib.hid Bx4.born
          clear hx hT v1 v2 v3 v4 hz gg
          go_upto_region 10 with fail
          clear b0 b1 b2 b3 b4 d0 d1 d2 d3
          generalize wr.alloc (.cells #[.string x.nm, .int .i64 x.super, .int .i64 x.fields, .slice ba x.binds.length bc] 37) = W1 at *
          have e0 := hX.out.c0
          replace pb := Lib.hid pb
          go_upto_region 11 with (first | (go_at_call 21; ((with_reducible refine (PC.out _).mono ?_); rintro e1 y1 ⟨rfl, hb⟩; replace hX := Lib.hid (hX.out.up hb); have f0 := hX.out.c0; have zf := hX.out.z 0; clear hb e0)))
          replace hX := Lib.hid (hX.out.set0 (.string x.nm))
          clear f0 zf PC
          generalize y1.setCell ⟨wr.heap.size, 0, none⟩ (.string x.nm) = W3 at *
          have e3 := hX.out.c3
          have PB := Lib.hid (ucpbind_c (pb.out.up hX.out.bel) hbd)
          have hS3 := Lib.hid (hS.out.up hX.out.bel)
          have hlt3 := Lib.hid hX.out.lt
          go_upto_region 12 with (first | (go_at_call 22; ((with_reducible refine PB.out.mono ?_); rintro e1 y2 ⟨v3, rfl, hO3, hb⟩; obtain ⟨a3, c3, rfl⟩ := row_shape hO3; replace hX := Lib.hid (hX.out.up hb); replace hO3 := Lib.hid hO3; have f3 := hX.out.c3; have zf := hX.out.z 3; clear hb e3)))
          replace hX := Lib.hid (hX.out.set3 (.slice a3 x.binds.length c3))
          replace hO3 := Lib.hid (row_set hO3.out ⟨wr.heap.size, 3, none⟩ (.slice a3 x.binds.length c3) (fun e => by have h1 := (hO3.out.lt _ e).1; have h2 := hlt3.out; simp only at h1; omega))
          clear f3 zf PB
          generalize y2.setCell ⟨wr.heap.size, 3, none⟩ (.slice a3 x.binds.length c3) = W5 at *
          have q0 := hX.out.c0
          have q1 := hX.out.c1
          have q2 := hX.out.c2
          have q3 := hX.out.c3
          have hS5 := Lib.hid (hS.out.up hX.out.bel)
          have x5 := hS5.out.cells.2.1
          have hS6 := Lib.hid (hS5.out.up ((Below.refl W5.heap.size W5).alloc (Nat.le_refl _) (.cells #[.string x.nm, .int .i64 x.super, .int .i64 x.fields, .slice a3 x.binds.length c3] 37)))
          have x6 := hS6.out.cells.2.1
          have own6 : Hid ((W5.alloc (.cells #[.string x.nm, .int .i64 x.super, .int .i64 x.fields, .slice a3 x.binds.length c3] 37)).ownsRow (w.heap.size + 2 + 1) 37 4 (.slice a k c) k (cl4s T)) := Lib.hid (by have h := hS6.out.own1; rw [hTl.out] at h; exact h)
          have hb6 : Hid (w.heap.size + 2 + 1 ≤ (W5.alloc (.cells #[.string x.nm, .int .i64 x.super, .int .i64 x.fields, .slice a3 x.binds.length c3] 37)).heap.size) := Lib.hid hS6.out.sz
          have hin : Hid ((W5.alloc (.cells #[.string x.nm, .int .i64 x.super, .int .i64 x.fields, .slice a3 x.binds.length c3] 37)).ownsRow (w.heap.size + 2 + 1) 39 2 (.slice a3 x.binds.length c3) x.binds.length (pr2 x.binds) ∧ ∀ j, j < 4 → ∀ q, (Value.slice a3 x.binds.length c3).ownBlock = some q → (rws U.names T [] [] nv (.slice a k c) (.slice none 0 0) (.slice none 0 0) j).v.ownBlock ≠ some q) := Lib.hid (hS3.out.new (Nat.le_refl _) (row_bel hO3.out ((Below.refl W5.heap.size W5).alloc (Nat.le_refl _) (.cells #[.string x.nm, .int .i64 x.super, .int .i64 x.fields, .slice a3 x.binds.length c3] 37))))
          clear hS3 hO3 hX hS5 hS hlt3 hbd
          go_wp2_with (first | (at_builtin; refine wpList_append_lies _ rfl (.tmp 46) (.tmp 48) 24 rfl (w.heap.size + 2 + 1) 37 i1 (.agg #[.string ByteArray.empty, .int .i64 0, .int .i64 0, .slice none 0 0]) 4 56 Try.underlying24 hi1 hi1z hi1s hi1b rfl (by decide) (.slice a k c) k _ (by simp [Act.eval]) own6.out ⟨W5.heap.size, 0, none⟩ 1 1 (cl4s [(x, .slice a3 x.binds.length c3)]) (by simp [Act.eval]) (by simp [cl4s, cl4]) (World.news_of_block (alloc_at _ _ _ rfl)) (cl4s_one _ (by intro y hy; rw [List.mem_singleton.1 hy]; exact ⟨_, _, _, rfl⟩)) (by omega) (by omega) (by omega) hb6.out _ rfl ?_; intro g1 cap1 w7 hown1 hgrow1 hat1 hlt1; have hAf := hS6.out.after (i := 1) (by decide) hgrow1; have x7 := hAf.1 1 _ x6; have z7 := hAf.2 1; have hP := Lib.hid (hS6.out.push1 (x := (x, .slice a3 x.binds.length c3)) hin.out (by rw [hTl.out]; exact hown1) hgrow1 (fun q hq => by have e1 : g1 = q := (by simpa [Value.ownBlock] using hq); rcases hat1 with e | e; exact Or.inl (by rw [← e1]; exact e); exact Or.inr (by rw [← e1]; exact e))); clear hown1 hgrow1 hat1 hlt1 hAf))
          go_roundw
          case rel => exact ⟨k + 1, _, _, _, by omega, by go_num, Lib.hid (hTx.out _), hP⟩
          case measure => simp [intOf]; omega
        · as_aux_lemma =>
          have hlt' : decide ((k : Int) < (l2 : Int)) = false := by simp; omega
          obtain rfl : l2 = k := by omega
          have hT1 : Hid (T.map (·.1) = U.classes) := Lib.hid (by have h := hT.out; rw [gg.out.2.1, List.take_length] at h; exact h)
          clear hT hk hlt
          obtain ⟨cv, hnv⟩ : ∃ v, v = Value.slice a l2 c := ⟨_, rfl⟩
          rw [← hnv] at hS
          clear hnv
          obtain ⟨b0, b1, b2, b3, b4⟩ := hS.out.ubs
          go_wp2
          clear b0 b1 b2 b3 b4
          go_loopw [55] (fun i wr => ∃ (k : Nat) (M : List (MethA × Value × Value)) (a : Option Addr) (c : Nat), k ≤ l3 ∧ i = .int .i64 k ∧ Hid (M.map (·.1) = U.methods.take k) ∧ Hid (CW w wr U.names T M [] nv cv (.slice a k c) (.slice none 0 0) (.slice na l1 nc) (.slice ca l2 cc) (.slice ma l3 mc) (.slice oa l4 oc) U.main)) (fun i _ => l3 - (intOf i).toNat)
          case atStart => exact ⟨0, [], none, 0, by omega, rfl, Lib.hid rfl, hS⟩
          case round =>
            clear hS
            obtain ⟨k, M, a, c, hk, rfl, hT, hS⟩ := hrel
            obtain ⟨b0, b1, b2, b3, b4⟩ := hS.out.ubs
            by_cases hlt : k < l3
            · as_aux_lemma =>
              have hlt' : decide ((k : Int) < (l3 : Int)) = true := by simp; omega
              have p0 : (0 : Int) ≤ (k : Int) := by omega
              have p1 : (k : Int) < (l3 : Int) := by omega
              obtain ⟨x, hx⟩ : ∃ x, U.methods[k]? = some x := ⟨U.methods[k]'(by have := gg.out.2.2.1; omega), by simp⟩
              obtain ⟨g, off, la, lc, ka, kc, rfl, d0, d1, d2, d3, pm⟩ := MtV.at (v3.out.up hS.out.bel) hx
              obtain ⟨_, _, _, _, em, pl, pk⟩ := pm.ex
              cases em
              have hbd := hz.out.ms x (List.mem_of_getElem? hx)
              replace pl := Lib.hid pl
              replace pk := Lib.hid pk
              have hTl : Hid (M.length = k) := Lib.hid (by have h := congrArg List.length hT.out; rw [List.length_map, List.length_take] at h; have := gg.out.2.2.1; omega)
              have hTx : Hid (∀ v v' : Value, (M ++ [(x, v, v')]).map (·.1) = U.methods.take (k + 1)) := Lib.hid (fun v v' => by rw [List.map_append, hT.out, take_next hx]; rfl)
              have hX : Hid (Bx4 wr (wr.alloc (.cells #[.int .i64 x.args, .int .i64 x.temps, .slice la x.lits.length lc, .slice ka x.code.length kc] 47)) 47 (.int .i64 x.args) (.int .i64 x.temps) (.slice la x.lits.length lc) (.slice ka x.code.length kc)) := Lib.hid Bx4.born
              clear hx hT v1 v2 v3 v4 hz gg
              go_upto_region 17 with fail
              clear b0 b1 b2 b3 b4 d0 d1 d2 d3
              generalize wr.alloc (.cells #[.int .i64 x.args, .int .i64 x.temps, .slice la x.lits.length lc, .slice ka x.code.length kc] 47) = W1 at *
              have e2 := hX.out.c2
              have PB := Lib.hid (ucpval_c (pl.out.up hX.out.bel) hbd.1)
              have hS3 := Lib.hid (hS.out.up hX.out.bel)
              have hlt3 := Lib.hid hX.out.lt
              go_upto_region 18 with (first | (go_at_call 23; ((with_reducible refine PB.out.mono ?_); rintro e1 y2 ⟨v3', rfl, hO3, hb⟩; obtain ⟨a3, c3, rfl⟩ := row_shape hO3; replace hX := Lib.hid (hX.out.up hb); replace hO3 := Lib.hid hO3; have f3 := hX.out.c2; have zf := hX.out.z 2; clear hb e2)))
              replace hX := Lib.hid (hX.out.set2 (.slice a3 x.lits.length c3))
              replace hO3 := Lib.hid (row_set hO3.out ⟨wr.heap.size, 2, none⟩ (.slice a3 x.lits.length c3) (fun e => by have h1 := (hO3.out.lt _ e).1; have h2 := hlt3.out; simp only at h1; omega))
              clear f3 zf PB
              generalize y2.setCell ⟨wr.heap.size, 2, none⟩ (.slice a3 x.lits.length c3) = W3 at *
              have e3 := hX.out.c3
              have PB := Lib.hid (ucpbyte_c (pk.out.up hX.out.bel) hbd.2)
              have hS4 := Lib.hid (hS.out.up hX.out.bel)
              have hlt4 := Lib.hid hX.out.lt
              go_upto_region 19 with (first | (go_at_call 24; ((with_reducible refine PB.out.mono ?_); rintro e1 y4 ⟨v4', rfl, hO4, hb⟩; obtain ⟨a4, c4, rfl⟩ := row_shape hO4; replace hX := Lib.hid (hX.out.up hb); replace hO3 := Lib.hid (row_bel hO3.out hb); replace hO4 := Lib.hid hO4; have f3 := hX.out.c3; have zf := hX.out.z 3; clear hb e3)))
              replace hX := Lib.hid (hX.out.set3 (.slice a4 x.code.length c4))
              replace hO3 := Lib.hid (row_set hO3.out ⟨wr.heap.size, 3, none⟩ (.slice a4 x.code.length c4) (fun e => by have h1 := (hO3.out.lt _ e).1; have h2 := hlt3.out; simp only at h1; omega))
              replace hO4 := Lib.hid (row_set hO4.out ⟨wr.heap.size, 3, none⟩ (.slice a4 x.code.length c4) (fun e => by have h1 := (hO4.out.lt _ e).1; have h2 := hlt4.out; simp only at h1; omega))
              clear f3 zf PB
              generalize y4.setCell ⟨wr.heap.size, 3, none⟩ (.slice a4 x.code.length c4) = W5 at *
              have q0 := hX.out.c0
              have q1 := hX.out.c1
              have q2 := hX.out.c2
              have q3 := hX.out.c3
              have hS5 := Lib.hid (hS.out.up hX.out.bel)
              have x5 := hS5.out.cells.2.2.1
              have hS6 := Lib.hid (hS5.out.up ((Below.refl W5.heap.size W5).alloc (Nat.le_refl _) (.cells #[.int .i64 x.args, .int .i64 x.temps, .slice a3 x.lits.length c3, .slice a4 x.code.length c4] 47)))
              have x6 := hS6.out.cells.2.2.1
              have own6 : Hid ((W5.alloc (.cells #[.int .i64 x.args, .int .i64 x.temps, .slice a3 x.lits.length c3, .slice a4 x.code.length c4] 47)).ownsRow (w.heap.size + 2 + 1) 47 4 (.slice a k c) k (mt4s M)) := Lib.hid (by have h := hS6.out.own2; rw [hTl.out] at h; exact h)
              have hb6 : Hid (w.heap.size + 2 + 1 ≤ (W5.alloc (.cells #[.int .i64 x.args, .int .i64 x.temps, .slice a3 x.lits.length c3, .slice a4 x.code.length c4] 47)).heap.size) := Lib.hid hS6.out.sz
              have hin : Hid ((W5.alloc (.cells #[.int .i64 x.args, .int .i64 x.temps, .slice a3 x.lits.length c3, .slice a4 x.code.length c4] 47)).ownsRow (w.heap.size + 2 + 1) 49 2 (.slice a3 x.lits.length c3) x.lits.length (pr2 x.lits) ∧ ∀ j, j < 4 → ∀ q, (Value.slice a3 x.lits.length c3).ownBlock = some q → (rws U.names T M [] nv cv (.slice a k c) (.slice none 0 0) j).v.ownBlock ≠ some q) := Lib.hid (hS3.out.new (Nat.le_refl _) (row_bel hO3.out ((Below.refl W5.heap.size W5).alloc (Nat.le_refl _) (.cells #[.int .i64 x.args, .int .i64 x.temps, .slice a3 x.lits.length c3, .slice a4 x.code.length c4] 47))))
              have hin2 : Hid ((W5.alloc (.cells #[.int .i64 x.args, .int .i64 x.temps, .slice a3 x.lits.length c3, .slice a4 x.code.length c4] 47)).ownsRow (w.heap.size + 2 + 1) 5 1 (.slice a4 x.code.length c4) x.code.length (bys x.code) ∧ ∀ j, j < 4 → ∀ q, (Value.slice a4 x.code.length c4).ownBlock = some q → (rws U.names T M [] nv cv (.slice a k c) (.slice none 0 0) j).v.ownBlock ≠ some q) := Lib.hid (hS4.out.new (Nat.le_refl _) (row_bel hO4.out ((Below.refl W5.heap.size W5).alloc (Nat.le_refl _) (.cells #[.int .i64 x.args, .int .i64 x.temps, .slice a3 x.lits.length c3, .slice a4 x.code.length c4] 47))))
              clear hS3 hO3 hX hS5 hS hlt3 hbd
              go_wp2_with (first | (at_builtin; refine wpList_append_lies _ rfl (.tmp 68) (.tmp 70) 25 rfl (w.heap.size + 2 + 1) 47 i2 (.agg #[.int .i64 0, .int .i64 0, .slice none 0 0, .slice none 0 0]) 4 64 Try.underlying25 hi2 hi2z hi2s hi2b rfl (by decide) (.slice a k c) k _ (by simp [Act.eval]) own6.out ⟨W5.heap.size, 0, none⟩ 1 1 (mt4s [(x, .slice a3 x.lits.length c3, .slice a4 x.code.length c4)]) (by simp [Act.eval]) (by simp [mt4s, mt4]) (World.news_of_block (alloc_at _ _ _ rfl)) (mt4s_one _ (by intro y hy; rw [List.mem_singleton.1 hy]; exact ⟨⟨_, _, _, rfl⟩, _, _, _, rfl⟩)) (by omega) (by omega) (by omega) hb6.out _ rfl ?_; intro g1 cap1 w7 hown1 hgrow1 hat1 hlt1; have hAf := hS6.out.after (i := 2) (by decide) hgrow1; have x7 := hAf.1 2 _ x6; have z7 := hAf.2 2; have hP := Lib.hid (hS6.out.push2 (x := (x, .slice a3 x.lits.length c3, .slice a4 x.code.length c4)) hin.out hin2.out (by rw [hTl.out]; exact hown1) hgrow1 (fun q hq => by have e1 : g1 = q := (by simpa [Value.ownBlock] using hq); rcases hat1 with e | e; exact Or.inl (by rw [← e1]; exact e); exact Or.inr (by rw [← e1]; exact e))); clear hown1 hgrow1 hat1 hlt1 hAf))
              go_roundw
              case rel => exact ⟨k + 1, _, _, _, by omega, by go_num, Lib.hid (hTx.out _ _), hP⟩
              case measure => simp [intOf]; omega
            · as_aux_lemma =>
              have hlt' : decide ((k : Int) < (l3 : Int)) = false := by simp; omega
              obtain rfl : l3 = k := by omega
              have hT2 : Hid (M.map (·.1) = U.methods) := Lib.hid (by have h := hT.out; rw [gg.out.2.2.1, List.take_length] at h; exact h)
              clear hT hk hlt
              obtain ⟨mv, hnv⟩ : ∃ v, v = Value.slice a l3 c := ⟨_, rfl⟩
              rw [← hnv] at hS
              clear hnv
              obtain ⟨b0, b1, b2, b3, b4⟩ := hS.out.ubs
              go_wp2
              clear b0 b1 b2 b3 b4
              go_loopw [77] (fun i wr => ∃ (k : Nat) (O : List (ObjA × Value)) (a : Option Addr) (c : Nat), k ≤ l4 ∧ i = .int .i64 k ∧ Hid (O.map (·.1) = U.objects.take k) ∧ Hid (CW w wr U.names T M O nv cv mv (.slice a k c) (.slice na l1 nc) (.slice ca l2 cc) (.slice ma l3 mc) (.slice oa l4 oc) U.main)) (fun i _ => l4 - (intOf i).toNat)
              case atStart => exact ⟨0, [], none, 0, by omega, rfl, Lib.hid rfl, hS⟩
              case round =>
                clear hS
                obtain ⟨k, O, a, c, hk, rfl, hT, hS⟩ := hrel
                obtain ⟨b0, b1, b2, b3, b4⟩ := hS.out.ubs
                by_cases hlt : k < l4
                · as_aux_lemma =>
                  have hlt' : decide ((k : Int) < (l4 : Int)) = true := by simp; omega
                  have p0 : (0 : Int) ≤ (k : Int) := by omega
                  have p1 : (k : Int) < (l4 : Int) := by omega
                  obtain ⟨x, hx⟩ : ∃ x, U.objects[k]? = some x := ⟨U.objects[k]'(by have := gg.out.2.2.2; omega), by simp⟩
                  obtain ⟨_, g, off, fv, rfl, d0, d1, pf⟩ := ObV.at (v4.out.up hS.out.bel) hx
                  obtain ⟨fa, fc, rfl, _, _⟩ := pf.form
                  have hbd : x.flds.length ≤ 8796093022208 := hz.out.os x (List.mem_of_getElem? hx)
                  replace pf := Lib.hid pf
                  have hTl : Hid (O.length = k) := Lib.hid (by have h := congrArg List.length hT.out; rw [List.length_map, List.length_take] at h; have := gg.out.2.2.2; omega)
                  have hTx : Hid (∀ v : Value, (O ++ [(x, v)]).map (·.1) = U.objects.take (k + 1)) := Lib.hid (fun v => by rw [List.map_append, hT.out, take_next hx]; rfl)
                  have hX : Hid (Bx2 wr (wr.alloc (.cells #[.int .i64 x.cls, .slice fa x.flds.length fc] 51)) 51 (.int .i64 x.cls) (.slice fa x.flds.length fc)) := Lib.hid Bx2.born
                  clear hx hT v1 v2 v3 v4 hz gg
                  go_upto_region 24 with fail
                  clear b0 b1 b2 b3 b4 d0 d1
                  generalize wr.alloc (.cells #[.int .i64 x.cls, .slice fa x.flds.length fc] 51) = W1 at *
                  have e1' := hX.out.c1
                  have PB := Lib.hid (ucpval_c (pf.out.up hX.out.bel) hbd)
                  have hS3 := Lib.hid (hS.out.up hX.out.bel)
                  have hlt3 := Lib.hid hX.out.lt
                  go_upto_region 25 with (first | (go_at_call 23; ((with_reducible refine PB.out.mono ?_); rintro e1 y2 ⟨v3', rfl, hO3, hb⟩; obtain ⟨a3, c3, rfl⟩ := row_shape hO3; replace hX := Lib.hid (hX.out.up hb); replace hO3 := Lib.hid hO3; have f3 := hX.out.c1; have zf := hX.out.z 1; clear hb e1')))
                  replace hX := Lib.hid (hX.out.set1 (.slice a3 x.flds.length c3))
                  replace hO3 := Lib.hid (row_set hO3.out ⟨wr.heap.size, 1, none⟩ (.slice a3 x.flds.length c3) (fun e => by have h1 := (hO3.out.lt _ e).1; have h2 := hlt3.out; simp only at h1; omega))
                  clear f3 zf PB
                  generalize y2.setCell ⟨wr.heap.size, 1, none⟩ (.slice a3 x.flds.length c3) = W5 at *
                  have q0 := hX.out.c0
                  have q1 := hX.out.c1
                  have hS5 := Lib.hid (hS.out.up hX.out.bel)
                  have x5 := hS5.out.cells.2.2.2.1
                  have hS6 := Lib.hid (hS5.out.up ((Below.refl W5.heap.size W5).alloc (Nat.le_refl _) (.cells #[.int .i64 x.cls, .slice a3 x.flds.length c3] 51)))
                  have x6 := hS6.out.cells.2.2.2.1
                  have own6 : Hid ((W5.alloc (.cells #[.int .i64 x.cls, .slice a3 x.flds.length c3] 51)).ownsRow (w.heap.size + 2 + 1) 51 2 (.slice a k c) k (ob2s O)) := Lib.hid (by have h := hS6.out.own3; rw [hTl.out] at h; exact h)
                  have hb6 : Hid (w.heap.size + 2 + 1 ≤ (W5.alloc (.cells #[.int .i64 x.cls, .slice a3 x.flds.length c3] 51)).heap.size) := Lib.hid hS6.out.sz
                  have hin : Hid ((W5.alloc (.cells #[.int .i64 x.cls, .slice a3 x.flds.length c3] 51)).ownsRow (w.heap.size + 2 + 1) 49 2 (.slice a3 x.flds.length c3) x.flds.length (pr2 x.flds) ∧ ∀ j, j < 4 → ∀ q, (Value.slice a3 x.flds.length c3).ownBlock = some q → (rws U.names T M O nv cv mv (.slice a k c) j).v.ownBlock ≠ some q) := Lib.hid (hS3.out.new (Nat.le_refl _) (row_bel hO3.out ((Below.refl W5.heap.size W5).alloc (Nat.le_refl _) (.cells #[.int .i64 x.cls, .slice a3 x.flds.length c3] 51))))
                  clear hS3 hO3 hX hS5 hS hlt3 hbd
                  go_wp2_with (first | (at_builtin; refine wpList_append_lies _ rfl (.tmp 86) (.tmp 88) 26 rfl (w.heap.size + 2 + 1) 51 i3 (.agg #[.int .i64 0, .slice none 0 0]) 2 32 Try.underlying26 hi3 hi3z hi3s hi3b rfl (by decide) (.slice a k c) k _ (by simp [Act.eval]) own6.out ⟨W5.heap.size, 0, none⟩ 1 1 (ob2s [(x, .slice a3 x.flds.length c3)]) (by simp [Act.eval]) (by simp [ob2s]) (World.news_of_block (alloc_at _ _ _ rfl)) (ob2s_one _ (by intro y hy; rw [List.mem_singleton.1 hy]; exact ⟨_, _, _, rfl⟩)) (by omega) (by omega) (by omega) hb6.out _ rfl ?_; intro g1 cap1 w7 hown1 hgrow1 hat1 hlt1; have hAf := hS6.out.after (i := 3) (by decide) hgrow1; have x7 := hAf.1 3 _ x6; have z7 := hAf.2 3; have hP := Lib.hid (hS6.out.push3 (x := (x, .slice a3 x.flds.length c3)) hin.out (by rw [hTl.out]; exact hown1) hgrow1 (fun q hq => by have e1 : g1 = q := (by simpa [Value.ownBlock] using hq); rcases hat1 with e | e; exact Or.inl (by rw [← e1]; exact e); exact Or.inr (by rw [← e1]; exact e))); clear hown1 hgrow1 hat1 hlt1 hAf))
                  go_roundw
                  case rel => exact ⟨k + 1, _, _, _, by omega, by go_num, Lib.hid (hTx.out _), hP⟩
                  case measure => simp [intOf]; omega
                · as_aux_lemma =>
                  have hlt' : decide ((k : Int) < (l4 : Int)) = false := by simp; omega
                  obtain rfl : l4 = k := by omega
                  have hT3 : Hid (O.map (·.1) = U.objects) := Lib.hid (by have h := hT.out; rw [gg.out.2.2.2, List.take_length] at h; exact h)
                  clear hT hk hlt
                  obtain ⟨ov, hnv⟩ : ∃ v, v = Value.slice a l4 c := ⟨_, rfl⟩
                  rw [← hnv] at hS
                  clear hnv
                  clear b0 b1 b2 b3 b4
                  obtain ⟨na', nc', e0⟩ := row_shape hS.out.own0
                  obtain ⟨ca', cc', e1⟩ := row_shape hS.out.own1
                  obtain ⟨ma', mc', e2⟩ := row_shape hS.out.own2
                  obtain ⟨oa', oc', e3⟩ := row_shape hS.out.own3
                  generalize U.names.length = m1 at *
                  generalize T.length = m2 at *
                  generalize M.length = m3 at *
                  generalize O.length = m4 at *
                  subst e0; subst e1; subst e2; subst e3
                  obtain ⟨x0, x1, x2, x3, x4⟩ := hS.out.cells
                  have hh := hS.out.res
                  have y0 : wr.cell? ⟨w.heap.size + 1, 0, none⟩ = some (.slice none 0 0) := cell_in hh rfl
                  have y1 : wr.cell? ⟨w.heap.size + 1, 1, none⟩ = some (.slice none 0 0) := cell_in hh rfl
                  have y2 : wr.cell? ⟨w.heap.size + 1, 2, none⟩ = some (.slice none 0 0) := cell_in hh rfl
                  have y3 : wr.cell? ⟨w.heap.size + 1, 3, none⟩ = some (.slice none 0 0) := cell_in hh rfl
                  have y4 : wr.cell? ⟨w.heap.size + 1, 4, none⟩ = some (.int .i64 0) := cell_in hh rfl
                  have qz : ∀ j, wr.frozen? ⟨w.heap.size + 1, j, none⟩ = false := fun j => loose_in hh
                  obtain ⟨r0, r1, r2, r3, r4⟩ := set5_at (v0 := .slice na' m1 nc') (v1 := .slice ca' m2 cc') (v2 := .slice ma' m3 mc') (v3 := .slice oa' m4 oc') (v4 := .int .i64 U.main) y0 y1 y2 y3 y4
                  have hcg := Lib.hid (set5_cg wr (w.heap.size + 1) (.slice na' m1 nc') (.slice ca' m2 cc') (.slice ma' m3 mc') (.slice oa' m4 oc') (.int .i64 U.main))
                  have ht : wr.there (w.heap.size + 1) 0 5 := by
                    intro j hj
                    rcases (show j = 0 ∨ j = 1 ∨ j = 2 ∨ j = 3 ∨ j = 4 by omega) with rfl | rfl | rfl | rfl | rfl
                    · exact ⟨by first | exact ⟨_, y0⟩ | (rw [Nat.zero_add, y0]; rfl), qz _⟩
                    · exact ⟨by first | exact ⟨_, y1⟩ | (rw [Nat.zero_add, y1]; rfl), qz _⟩
                    · exact ⟨by first | exact ⟨_, y2⟩ | (rw [Nat.zero_add, y2]; rfl), qz _⟩
                    · exact ⟨by first | exact ⟨_, y3⟩ | (rw [Nat.zero_add, y3]; rfl), qz _⟩
                    · exact ⟨by first | exact ⟨_, y4⟩ | (rw [Nat.zero_add, y4]; rfl), qz _⟩
                  replace ht := Lib.hid ht
                  have hr5 := Lib.hid (And.intro r0 (And.intro r1 (And.intro r2 (And.intro r3 r4))))
                  clear y0 y1 y2 y3 y4 qz r0 r1 r2 r3 r4 hh
                  have hrg : Hid (wr.rangeAt (w.heap.size + 2) 0 [.slice na' m1 nc', .slice ca' m2 cc', .slice ma' m3 mc', .slice oa' m4 oc', .int .i64 U.main]) := Lib.hid (range5 x0 x1 x2 x3 x4)
                  obtain ⟨dU, hdU, hrU⟩ := rowU
                  clear x0 x1 x2 x3 x4 hi0 hi0z hi0s hi0b hi1 hi1z hi1s hi1b hi2 hi2z hi2s hi2b hi3 hi3z hi3s hi3b
                  go_upto_region 27 with fail
                  refine wp_region_lit ?_
                  refine wpList_load_mid rfl 28 (.tmp 3) rfl (w.heap.size + 2) 0 rfl _ dU hrg.out hdU hrU infoU ?_
                  try simp only [Act.put, List.setIfInBounds_toArray, List.set_cons_zero, List.set_cons_succ]
                  refine wpList_store_mid rfl 28 (.tmp 2) (.tmp 92) rfl (w.heap.size + 1) 0 #[.slice na' m1 nc', .slice ca' m2 cc', .slice ma' m3 mc', .slice oa' m4 oc', .int .i64 U.main] (by simp [Act.eval]) (by simp [Act.eval]) ht.out infoU (all_oneCell_toArray (cs := [.slice na' m1 nc', .slice ca' m2 cc', .slice ma' m3 mc', .slice oa' m4 oc', .int .i64 U.main]) (fun v hv => by simp only [List.mem_cons, List.not_mem_nil, or_false] at hv; rcases hv with rfl | rfl | rfl | rfl | rfl <;> rfl)) ?_
                  refine wpList_nil ?_
                  have hW9 : wr.setCells (w.heap.size + 1) 0 [.slice na' m1 nc', .slice ca' m2 cc', .slice ma' m3 mc', .slice oa' m4 oc', .int .i64 U.main] = set5 wr (w.heap.size + 1) (.slice na' m1 nc') (.slice ca' m2 cc') (.slice ma' m3 mc') (.slice oa' m4 oc') (.int .i64 U.main) := rfl
                  simp only [hW9]
                  clear hW9
                  obtain ⟨r0, r1, r2, r3, r4⟩ := hr5.out
                  generalize set5 wr (w.heap.size + 1) (.slice na' m1 nc') (.slice ca' m2 cc') (.slice ma' m3 mc') (.slice oa' m4 oc') (.int .i64 U.main) = W9 at *
                  rename (∀ (a : Act) (w : World), Code.wp _ _ _ a w → _) => hKr
                  refine hKr _ _ ?_
                  refine wp_ret ?_
                  refine bodyPost_ret (ucopy_res rfl r0 r1 r2 r3 r4) rfl ?_
                  exact ⟨wr, T, M, O, _, _, _, _, _, _, _, _, rfl, hT1.out, hT2.out, hT3.out, hS.out, hcg.out⟩
end Wd
end Go.Proofs.Ytgfdgdbkifkehaa

/- The landed programs: are two rows alike? -/
namespace Go.Proofs.Ytgfdgdbkifkehaa
open Go.RowKit
set_option linter.unusedVariables false
set_option maxRecDepth 20000
namespace Wd
set_option maxHeartbeats 8000000 in
theorem ueqval_c {w : World} {a b : Value} {A B : List (Int × Int)} (ha : PrV w a A) (hb : PrV w b B) :
    Calls Try.prog 49 #[a, b] w fun e w' => e = .returned (.bool (decide (A = B))) ∧ Below w.heap.size w w' := by
  obtain ⟨aa, ac, rfl, ha1, ha2⟩ := ha.form
  obtain ⟨ba, bc, rfl, hb1, hb2⟩ := hb.form
  have hle := len_le (Nat.le_trans ha1 ha2)
  by_cases hl : A.length = B.length
  · have hl' : ((A.length : Int) != (B.length : Int)) = false := by simp [hl]
    obtain ⟨n, hn⟩ : ∃ n, n = A.length := ⟨_, rfl⟩
    obtain ⟨m, hm⟩ : ∃ m, m = B.length := ⟨_, rfl⟩
    have hn' := Lib.hid hn
    have hm' := Lib.hid hm
    have hnm : n = m := by omega
    rw [← hn] at ha hle hl' ⊢
    rw [← hm] at hb hl' ⊢
    replace ha := Lib.hid ha
    replace hb := Lib.hid hb
    have hst := Lib.hid (EqR.start A B)
    clear hl hn hm ha1 ha2 hb1 hb2
    go_enter Try.func49, Try.ntmps49
    go_wp2
    go_loopw [13] (fun i wr => ∃ (k : Nat), k ≤ n ∧ i = .int .i64 k ∧ Hid (EqR A B k) ∧ Hid (Below w.heap.size w wr)) (fun i _ => n - (intOf i).toNat)
    case atStart => exact ⟨0, by omega, rfl, hst, Lib.hid (Below.refl _ _)⟩
    case round =>
      obtain ⟨k, hk, rfl, hE, hB⟩ := hrel
      by_cases hlt : k < n
      · have hlt' : decide ((k : Int) < (n : Int)) = true := by simp; omega
        have p0 : (0 : Int) ≤ (k : Int) := by omega
        have p1 : (k : Int) < (n : Int) := by omega
        have p2 : (k : Int) < (m : Int) := by omega
        obtain ⟨⟨x1, x2⟩, hx⟩ : ∃ x, A[k]? = some x := ⟨A[k]'(by have := hn'.out; omega), by simp⟩
        obtain ⟨⟨y1, y2⟩, hy⟩ : ∃ x, B[k]? = some x := ⟨B[k]'(by have := hm'.out; omega), by simp⟩
        obtain ⟨_, _, g, off, rfl, c0, c1⟩ := PrV.at (ha.out.up hB.out) hx
        obtain ⟨_, _, h, off2, rfl, d0, d1⟩ := PrV.at (hb.out.up hB.out) hy
        simp only at c0 c1 d0 d1
        have hxH := Lib.hid hx
        have hyH := Lib.hid hy
        have hB' := Lib.hid (hB.out.trans (((Below.refl wr.heap.size wr).drew).mono hB.out.size))
        clear hx hy hst hlt
        by_cases e1 : x1 = y1
        · by_cases e2 : x2 = y2
          · have f1 : (x1 == y1) = true := by simpa using e1
            have f2 : (x2 == y2) = true := by simpa using e2
            have hE' := Lib.hid (hE.out.step hxH.out hyH.out (by rw [e1, e2]))
            clear e1 e2
            go_upto_region 6 with fail
            refine wp_region_held_drew (S := (fun wr' => wr'.cell? ⟨g, off + k * 2, none⟩ = some (.int .i64 x1) ∧ wr'.cell? ⟨g, off + k * 2 + 1, none⟩ = some (.int .i64 x2) ∧ wr'.cell? ⟨h, off2 + k * 2, none⟩ = some (.int .i64 y1) ∧ wr'.cell? ⟨h, off2 + k * 2 + 1, none⟩ = some (.int .i64 y2))) (by kernel_rfl) ?_ (fun hHeld => ?_)
            · (try dsimp only); exact ⟨c0, c1, d0, d1⟩
            try simp only [Act.put, List.setIfInBounds_toArray, List.set_cons_zero, List.set_cons_succ]
            refine wpAnyH_take (i := 0) (oi := { dst := some 16, op := Op.move (Operand.tmp 0), type := 44, pos := "slices.go:25", after := #[], guard := none }) (v := ?_) rfl (by kernel_rfl) (by kernel_rfl) (by kernel_rfl) (fun _ _ _ h => h) (Or.inl ⟨by rfl, ?_⟩) (by assumption) ?_
            rotate_left 1
            · intro w hSw; (try dsimp only at hSw); go_simp <;> with_reducible rfl
            try simp only [Act.put, List.setIfInBounds_toArray, List.set_cons_zero, List.set_cons_succ]
            refine wpAnyH_take (i := 1) (oi := { dst := some 17, op := Op.move (Operand.tmp 5), type := 3, pos := "slices.go:25", after := #[], guard := none }) (v := ?_) rfl (by kernel_rfl) (by kernel_rfl) (by kernel_rfl) (fun _ _ _ h => h) (Or.inl ⟨by rfl, ?_⟩) (by assumption) ?_
            rotate_left 1
            · intro w hSw; (try dsimp only at hSw); go_simp <;> with_reducible rfl
            try simp only [Act.put, List.setIfInBounds_toArray, List.set_cons_zero, List.set_cons_succ]
            refine wpAnyH_take (i := 2) (oi := { dst := some 18, op := Op.indexAddr 44 (Operand.tmp 16) (Operand.tmp 17), type := 0, pos := "slices.go:25", after := #[{ on := 0, ground := Ground.data }, { on := 1, ground := Ground.data }], guard := none }) (v := ?_) rfl (by kernel_rfl) (by kernel_rfl) (by kernel_rfl) (fun _ _ _ h => h) (Or.inl ⟨by rfl, ?_⟩) (by assumption) ?_
            rotate_left 1
            · intro w hSw; (try dsimp only at hSw); go_simp <;> with_reducible rfl
            try simp only [Act.put, List.setIfInBounds_toArray, List.set_cons_zero, List.set_cons_succ]
            refine wpAnyH_take (i := 3) (oi := { dst := some 19, op := Op.load 49 (Operand.tmp 18), type := 49, pos := "slices.go:25", after := #[{ on := 2, ground := Ground.data }], guard := none }) (v := ?_) rfl (by kernel_rfl) (by kernel_rfl) (by kernel_rfl) (fun _ _ _ h => h) (Or.inl ⟨by rfl, ?_⟩) (by assumption) ?_
            rotate_left 1
            · intro w hSw; (try dsimp only at hSw); go_simp <;> with_reducible rfl
            try simp only [Act.put, List.setIfInBounds_toArray, List.set_cons_zero, List.set_cons_succ]
            refine wpAnyH_take (i := 4) (oi := { dst := some 20, op := Op.move (Operand.tmp 1), type := 44, pos := "slices.go:25", after := #[], guard := none }) (v := ?_) rfl (by kernel_rfl) (by kernel_rfl) (by kernel_rfl) (fun _ _ _ h => h) (Or.inl ⟨by rfl, ?_⟩) (by assumption) ?_
            rotate_left 1
            · intro w hSw; (try dsimp only at hSw); go_simp <;> with_reducible rfl
            try simp only [Act.put, List.setIfInBounds_toArray, List.set_cons_zero, List.set_cons_succ]
            refine wpAnyH_take (i := 5) (oi := { dst := some 21, op := Op.move (Operand.tmp 5), type := 3, pos := "slices.go:25", after := #[], guard := none }) (v := ?_) rfl (by kernel_rfl) (by kernel_rfl) (by kernel_rfl) (fun _ _ _ h => h) (Or.inl ⟨by rfl, ?_⟩) (by assumption) ?_
            rotate_left 1
            · intro w hSw; (try dsimp only at hSw); go_simp <;> with_reducible rfl
            try simp only [Act.put, List.setIfInBounds_toArray, List.set_cons_zero, List.set_cons_succ]
            refine wpAnyH_take (i := 6) (oi := { dst := some 22, op := Op.indexAddr 44 (Operand.tmp 20) (Operand.tmp 21), type := 0, pos := "slices.go:25", after := #[{ on := 4, ground := Ground.data }, { on := 5, ground := Ground.data }], guard := none }) (v := ?_) rfl (by kernel_rfl) (by kernel_rfl) (by kernel_rfl) (fun _ _ _ h => h) (Or.inl ⟨by rfl, ?_⟩) (by assumption) ?_
            rotate_left 1
            · intro w hSw; (try dsimp only at hSw); go_simp <;> with_reducible rfl
            try simp only [Act.put, List.setIfInBounds_toArray, List.set_cons_zero, List.set_cons_succ]
            refine wpAnyH_take (i := 7) (oi := { dst := some 23, op := Op.load 49 (Operand.tmp 22), type := 49, pos := "slices.go:25", after := #[{ on := 6, ground := Ground.data }], guard := none }) (v := ?_) rfl (by kernel_rfl) (by kernel_rfl) (by kernel_rfl) (fun _ _ _ h => h) (Or.inl ⟨by rfl, ?_⟩) (by assumption) ?_
            rotate_left 1
            · intro w hSw; (try dsimp only at hSw); go_simp <;> with_reducible rfl
            try simp only [Act.put, List.setIfInBounds_toArray, List.set_cons_zero, List.set_cons_succ]
            refine wpAnyH_take (i := 8) (oi := { dst := some 24, op := Op.binOp BinOp.neq 49 (Operand.tmp 19) (Operand.tmp 23) 49, type := 4, pos := "slices.go:25", after := #[{ on := 3, ground := Ground.data }, { on := 7, ground := Ground.data }], guard := none }) (v := ?_) rfl (by kernel_rfl) (by kernel_rfl) (by kernel_rfl) (fun _ _ _ h => h) (Or.inl ⟨by rfl, ?_⟩) (by assumption) ?_
            rotate_left 1
            · intro w hSw; (try dsimp only at hSw); go_simp <;> with_reducible rfl
            try simp only [Act.put, List.setIfInBounds_toArray, List.set_cons_zero, List.set_cons_succ]
            refine wpAnyH_done (by kernel_rfl) ?_ _
            go_wp2_with fail
            go_roundw
            case rel => exact ⟨k + 1, by omega, by go_num, hE', hB'⟩
            case measure => simp [intOf]; omega
          · have f1 : (x1 == y1) = true := by simpa using e1
            have f2 : (x2 == y2) = false := by simpa using e2
            have e := Lib.hid (eq_not hxH.out hyH.out (fun h => e2 (congrArg Prod.snd h)))
            clear e1 e2
            go_upto_region 6 with fail
            refine wp_region_held_drew (S := (fun wr' => wr'.cell? ⟨g, off + k * 2, none⟩ = some (.int .i64 x1) ∧ wr'.cell? ⟨g, off + k * 2 + 1, none⟩ = some (.int .i64 x2) ∧ wr'.cell? ⟨h, off2 + k * 2, none⟩ = some (.int .i64 y1) ∧ wr'.cell? ⟨h, off2 + k * 2 + 1, none⟩ = some (.int .i64 y2))) (by kernel_rfl) ?_ (fun hHeld => ?_)
            · (try dsimp only); exact ⟨c0, c1, d0, d1⟩
            try simp only [Act.put, List.setIfInBounds_toArray, List.set_cons_zero, List.set_cons_succ]
            refine wpAnyH_take (i := 0) (oi := { dst := some 16, op := Op.move (Operand.tmp 0), type := 44, pos := "slices.go:25", after := #[], guard := none }) (v := ?_) rfl (by kernel_rfl) (by kernel_rfl) (by kernel_rfl) (fun _ _ _ h => h) (Or.inl ⟨by rfl, ?_⟩) (by assumption) ?_
            rotate_left 1
            · intro w hSw; (try dsimp only at hSw); go_simp <;> with_reducible rfl
            try simp only [Act.put, List.setIfInBounds_toArray, List.set_cons_zero, List.set_cons_succ]
            refine wpAnyH_take (i := 1) (oi := { dst := some 17, op := Op.move (Operand.tmp 5), type := 3, pos := "slices.go:25", after := #[], guard := none }) (v := ?_) rfl (by kernel_rfl) (by kernel_rfl) (by kernel_rfl) (fun _ _ _ h => h) (Or.inl ⟨by rfl, ?_⟩) (by assumption) ?_
            rotate_left 1
            · intro w hSw; (try dsimp only at hSw); go_simp <;> with_reducible rfl
            try simp only [Act.put, List.setIfInBounds_toArray, List.set_cons_zero, List.set_cons_succ]
            refine wpAnyH_take (i := 2) (oi := { dst := some 18, op := Op.indexAddr 44 (Operand.tmp 16) (Operand.tmp 17), type := 0, pos := "slices.go:25", after := #[{ on := 0, ground := Ground.data }, { on := 1, ground := Ground.data }], guard := none }) (v := ?_) rfl (by kernel_rfl) (by kernel_rfl) (by kernel_rfl) (fun _ _ _ h => h) (Or.inl ⟨by rfl, ?_⟩) (by assumption) ?_
            rotate_left 1
            · intro w hSw; (try dsimp only at hSw); go_simp <;> with_reducible rfl
            try simp only [Act.put, List.setIfInBounds_toArray, List.set_cons_zero, List.set_cons_succ]
            refine wpAnyH_take (i := 3) (oi := { dst := some 19, op := Op.load 49 (Operand.tmp 18), type := 49, pos := "slices.go:25", after := #[{ on := 2, ground := Ground.data }], guard := none }) (v := ?_) rfl (by kernel_rfl) (by kernel_rfl) (by kernel_rfl) (fun _ _ _ h => h) (Or.inl ⟨by rfl, ?_⟩) (by assumption) ?_
            rotate_left 1
            · intro w hSw; (try dsimp only at hSw); go_simp <;> with_reducible rfl
            try simp only [Act.put, List.setIfInBounds_toArray, List.set_cons_zero, List.set_cons_succ]
            refine wpAnyH_take (i := 4) (oi := { dst := some 20, op := Op.move (Operand.tmp 1), type := 44, pos := "slices.go:25", after := #[], guard := none }) (v := ?_) rfl (by kernel_rfl) (by kernel_rfl) (by kernel_rfl) (fun _ _ _ h => h) (Or.inl ⟨by rfl, ?_⟩) (by assumption) ?_
            rotate_left 1
            · intro w hSw; (try dsimp only at hSw); go_simp <;> with_reducible rfl
            try simp only [Act.put, List.setIfInBounds_toArray, List.set_cons_zero, List.set_cons_succ]
            refine wpAnyH_take (i := 5) (oi := { dst := some 21, op := Op.move (Operand.tmp 5), type := 3, pos := "slices.go:25", after := #[], guard := none }) (v := ?_) rfl (by kernel_rfl) (by kernel_rfl) (by kernel_rfl) (fun _ _ _ h => h) (Or.inl ⟨by rfl, ?_⟩) (by assumption) ?_
            rotate_left 1
            · intro w hSw; (try dsimp only at hSw); go_simp <;> with_reducible rfl
            try simp only [Act.put, List.setIfInBounds_toArray, List.set_cons_zero, List.set_cons_succ]
            refine wpAnyH_take (i := 6) (oi := { dst := some 22, op := Op.indexAddr 44 (Operand.tmp 20) (Operand.tmp 21), type := 0, pos := "slices.go:25", after := #[{ on := 4, ground := Ground.data }, { on := 5, ground := Ground.data }], guard := none }) (v := ?_) rfl (by kernel_rfl) (by kernel_rfl) (by kernel_rfl) (fun _ _ _ h => h) (Or.inl ⟨by rfl, ?_⟩) (by assumption) ?_
            rotate_left 1
            · intro w hSw; (try dsimp only at hSw); go_simp <;> with_reducible rfl
            try simp only [Act.put, List.setIfInBounds_toArray, List.set_cons_zero, List.set_cons_succ]
            refine wpAnyH_take (i := 7) (oi := { dst := some 23, op := Op.load 49 (Operand.tmp 22), type := 49, pos := "slices.go:25", after := #[{ on := 6, ground := Ground.data }], guard := none }) (v := ?_) rfl (by kernel_rfl) (by kernel_rfl) (by kernel_rfl) (fun _ _ _ h => h) (Or.inl ⟨by rfl, ?_⟩) (by assumption) ?_
            rotate_left 1
            · intro w hSw; (try dsimp only at hSw); go_simp <;> with_reducible rfl
            try simp only [Act.put, List.setIfInBounds_toArray, List.set_cons_zero, List.set_cons_succ]
            refine wpAnyH_take (i := 8) (oi := { dst := some 24, op := Op.binOp BinOp.neq 49 (Operand.tmp 19) (Operand.tmp 23) 49, type := 4, pos := "slices.go:25", after := #[{ on := 3, ground := Ground.data }, { on := 7, ground := Ground.data }], guard := none }) (v := ?_) rfl (by kernel_rfl) (by kernel_rfl) (by kernel_rfl) (fun _ _ _ h => h) (Or.inl ⟨by rfl, ?_⟩) (by assumption) ?_
            rotate_left 1
            · intro w hSw; (try dsimp only at hSw); go_simp <;> with_reducible rfl
            try simp only [Act.put, List.setIfInBounds_toArray, List.set_cons_zero, List.set_cons_succ]
            refine wpAnyH_done (by kernel_rfl) ?_ _
            go_wp2_with fail
            go_ret
            exact ⟨congrArg (fun b => Ending.returned (Value.bool b)) e.out.symm, hB'.out⟩
        · have f1 : (x1 == y1) = false := by simpa using e1
          have e := Lib.hid (eq_not hxH.out hyH.out (fun h => e1 (congrArg Prod.fst h)))
          clear e1
          go_upto_region 6 with fail
          refine wp_region_held_drew (S := (fun wr' => wr'.cell? ⟨g, off + k * 2, none⟩ = some (.int .i64 x1) ∧ wr'.cell? ⟨g, off + k * 2 + 1, none⟩ = some (.int .i64 x2) ∧ wr'.cell? ⟨h, off2 + k * 2, none⟩ = some (.int .i64 y1) ∧ wr'.cell? ⟨h, off2 + k * 2 + 1, none⟩ = some (.int .i64 y2))) (by kernel_rfl) ?_ (fun hHeld => ?_)
          · (try dsimp only); exact ⟨c0, c1, d0, d1⟩
          try simp only [Act.put, List.setIfInBounds_toArray, List.set_cons_zero, List.set_cons_succ]
          refine wpAnyH_take (i := 0) (oi := { dst := some 16, op := Op.move (Operand.tmp 0), type := 44, pos := "slices.go:25", after := #[], guard := none }) (v := ?_) rfl (by kernel_rfl) (by kernel_rfl) (by kernel_rfl) (fun _ _ _ h => h) (Or.inl ⟨by rfl, ?_⟩) (by assumption) ?_
          rotate_left 1
          · intro w hSw; (try dsimp only at hSw); go_simp <;> with_reducible rfl
          try simp only [Act.put, List.setIfInBounds_toArray, List.set_cons_zero, List.set_cons_succ]
          refine wpAnyH_take (i := 1) (oi := { dst := some 17, op := Op.move (Operand.tmp 5), type := 3, pos := "slices.go:25", after := #[], guard := none }) (v := ?_) rfl (by kernel_rfl) (by kernel_rfl) (by kernel_rfl) (fun _ _ _ h => h) (Or.inl ⟨by rfl, ?_⟩) (by assumption) ?_
          rotate_left 1
          · intro w hSw; (try dsimp only at hSw); go_simp <;> with_reducible rfl
          try simp only [Act.put, List.setIfInBounds_toArray, List.set_cons_zero, List.set_cons_succ]
          refine wpAnyH_take (i := 2) (oi := { dst := some 18, op := Op.indexAddr 44 (Operand.tmp 16) (Operand.tmp 17), type := 0, pos := "slices.go:25", after := #[{ on := 0, ground := Ground.data }, { on := 1, ground := Ground.data }], guard := none }) (v := ?_) rfl (by kernel_rfl) (by kernel_rfl) (by kernel_rfl) (fun _ _ _ h => h) (Or.inl ⟨by rfl, ?_⟩) (by assumption) ?_
          rotate_left 1
          · intro w hSw; (try dsimp only at hSw); go_simp <;> with_reducible rfl
          try simp only [Act.put, List.setIfInBounds_toArray, List.set_cons_zero, List.set_cons_succ]
          refine wpAnyH_take (i := 3) (oi := { dst := some 19, op := Op.load 49 (Operand.tmp 18), type := 49, pos := "slices.go:25", after := #[{ on := 2, ground := Ground.data }], guard := none }) (v := ?_) rfl (by kernel_rfl) (by kernel_rfl) (by kernel_rfl) (fun _ _ _ h => h) (Or.inl ⟨by rfl, ?_⟩) (by assumption) ?_
          rotate_left 1
          · intro w hSw; (try dsimp only at hSw); go_simp <;> with_reducible rfl
          try simp only [Act.put, List.setIfInBounds_toArray, List.set_cons_zero, List.set_cons_succ]
          refine wpAnyH_take (i := 4) (oi := { dst := some 20, op := Op.move (Operand.tmp 1), type := 44, pos := "slices.go:25", after := #[], guard := none }) (v := ?_) rfl (by kernel_rfl) (by kernel_rfl) (by kernel_rfl) (fun _ _ _ h => h) (Or.inl ⟨by rfl, ?_⟩) (by assumption) ?_
          rotate_left 1
          · intro w hSw; (try dsimp only at hSw); go_simp <;> with_reducible rfl
          try simp only [Act.put, List.setIfInBounds_toArray, List.set_cons_zero, List.set_cons_succ]
          refine wpAnyH_take (i := 5) (oi := { dst := some 21, op := Op.move (Operand.tmp 5), type := 3, pos := "slices.go:25", after := #[], guard := none }) (v := ?_) rfl (by kernel_rfl) (by kernel_rfl) (by kernel_rfl) (fun _ _ _ h => h) (Or.inl ⟨by rfl, ?_⟩) (by assumption) ?_
          rotate_left 1
          · intro w hSw; (try dsimp only at hSw); go_simp <;> with_reducible rfl
          try simp only [Act.put, List.setIfInBounds_toArray, List.set_cons_zero, List.set_cons_succ]
          refine wpAnyH_take (i := 6) (oi := { dst := some 22, op := Op.indexAddr 44 (Operand.tmp 20) (Operand.tmp 21), type := 0, pos := "slices.go:25", after := #[{ on := 4, ground := Ground.data }, { on := 5, ground := Ground.data }], guard := none }) (v := ?_) rfl (by kernel_rfl) (by kernel_rfl) (by kernel_rfl) (fun _ _ _ h => h) (Or.inl ⟨by rfl, ?_⟩) (by assumption) ?_
          rotate_left 1
          · intro w hSw; (try dsimp only at hSw); go_simp <;> with_reducible rfl
          try simp only [Act.put, List.setIfInBounds_toArray, List.set_cons_zero, List.set_cons_succ]
          refine wpAnyH_take (i := 7) (oi := { dst := some 23, op := Op.load 49 (Operand.tmp 22), type := 49, pos := "slices.go:25", after := #[{ on := 6, ground := Ground.data }], guard := none }) (v := ?_) rfl (by kernel_rfl) (by kernel_rfl) (by kernel_rfl) (fun _ _ _ h => h) (Or.inl ⟨by rfl, ?_⟩) (by assumption) ?_
          rotate_left 1
          · intro w hSw; (try dsimp only at hSw); go_simp <;> with_reducible rfl
          try simp only [Act.put, List.setIfInBounds_toArray, List.set_cons_zero, List.set_cons_succ]
          refine wpAnyH_take (i := 8) (oi := { dst := some 24, op := Op.binOp BinOp.neq 49 (Operand.tmp 19) (Operand.tmp 23) 49, type := 4, pos := "slices.go:25", after := #[{ on := 3, ground := Ground.data }, { on := 7, ground := Ground.data }], guard := none }) (v := ?_) rfl (by kernel_rfl) (by kernel_rfl) (by kernel_rfl) (fun _ _ _ h => h) (Or.inl ⟨by rfl, ?_⟩) (by assumption) ?_
          rotate_left 1
          · intro w hSw; (try dsimp only at hSw); go_simp <;> with_reducible rfl
          try simp only [Act.put, List.setIfInBounds_toArray, List.set_cons_zero, List.set_cons_succ]
          refine wpAnyH_done (by kernel_rfl) ?_ _
          go_wp2_with fail
          go_ret
          exact ⟨congrArg (fun b => Ending.returned (Value.bool b)) e.out.symm, hB'.out⟩
      · have e := Lib.hid (EqR.last (A := A) (B := B) (n := n) (by have := hE.out; rw [show k = n by omega] at this; exact this) hn'.out (by rw [hnm]; exact hm'.out))
        have hlt' : decide ((k : Int) < (n : Int)) = false := by simp; omega
        go_wp2
        go_ret
        exact ⟨congrArg (fun b => Ending.returned (Value.bool b)) e.out.symm, hB.out⟩
  · have hl' : ((A.length : Int) != (B.length : Int)) = true := by simp; omega
    have e := Lib.hid (eq_len hl)
    clear hl
    go_enter Try.func49, Try.ntmps49
    go_wp2
    go_ret
    exact ⟨congrArg (fun b => Ending.returned (Value.bool b)) e.out.symm, Below.refl _ _⟩
set_option maxHeartbeats 8000000 in
theorem ueqbind_c {w : World} {a b : Value} {A B : List (Int × Int)} (ha : PrV w a A) (hb : PrV w b B) :
    Calls Try.prog 48 #[a, b] w fun e w' => e = .returned (.bool (decide (A = B))) ∧ Below w.heap.size w w' := by
  obtain ⟨aa, ac, rfl, ha1, ha2⟩ := ha.form
  obtain ⟨ba, bc, rfl, hb1, hb2⟩ := hb.form
  have hle := len_le (Nat.le_trans ha1 ha2)
  by_cases hl : A.length = B.length
  · have hl' : ((A.length : Int) != (B.length : Int)) = false := by simp [hl]
    obtain ⟨n, hn⟩ : ∃ n, n = A.length := ⟨_, rfl⟩
    obtain ⟨m, hm⟩ : ∃ m, m = B.length := ⟨_, rfl⟩
    have hn' := Lib.hid hn
    have hm' := Lib.hid hm
    have hnm : n = m := by omega
    rw [← hn] at ha hle hl' ⊢
    rw [← hm] at hb hl' ⊢
    replace ha := Lib.hid ha
    replace hb := Lib.hid hb
    have hst := Lib.hid (EqR.start A B)
    clear hl hn hm ha1 ha2 hb1 hb2
    go_enter Try.func48, Try.ntmps48
    go_wp2
    go_loopw [13] (fun i wr => ∃ (k : Nat), k ≤ n ∧ i = .int .i64 k ∧ Hid (EqR A B k) ∧ Hid (Below w.heap.size w wr)) (fun i _ => n - (intOf i).toNat)
    case atStart => exact ⟨0, by omega, rfl, hst, Lib.hid (Below.refl _ _)⟩
    case round =>
      obtain ⟨k, hk, rfl, hE, hB⟩ := hrel
      by_cases hlt : k < n
      · have hlt' : decide ((k : Int) < (n : Int)) = true := by simp; omega
        have p0 : (0 : Int) ≤ (k : Int) := by omega
        have p1 : (k : Int) < (n : Int) := by omega
        have p2 : (k : Int) < (m : Int) := by omega
        obtain ⟨⟨x1, x2⟩, hx⟩ : ∃ x, A[k]? = some x := ⟨A[k]'(by have := hn'.out; omega), by simp⟩
        obtain ⟨⟨y1, y2⟩, hy⟩ : ∃ x, B[k]? = some x := ⟨B[k]'(by have := hm'.out; omega), by simp⟩
        obtain ⟨_, _, g, off, rfl, c0, c1⟩ := PrV.at (ha.out.up hB.out) hx
        obtain ⟨_, _, h, off2, rfl, d0, d1⟩ := PrV.at (hb.out.up hB.out) hy
        simp only at c0 c1 d0 d1
        have hxH := Lib.hid hx
        have hyH := Lib.hid hy
        have hB' := Lib.hid (hB.out.trans (((Below.refl wr.heap.size wr).drew).mono hB.out.size))
        clear hx hy hst hlt
        by_cases e1 : x1 = y1
        · by_cases e2 : x2 = y2
          · have f1 : (x1 == y1) = true := by simpa using e1
            have f2 : (x2 == y2) = true := by simpa using e2
            have hE' := Lib.hid (hE.out.step hxH.out hyH.out (by rw [e1, e2]))
            clear e1 e2
            go_upto_region 6 with fail
            refine wp_region_held_drew (S := (fun wr' => wr'.cell? ⟨g, off + k * 2, none⟩ = some (.int .i64 x1) ∧ wr'.cell? ⟨g, off + k * 2 + 1, none⟩ = some (.int .i64 x2) ∧ wr'.cell? ⟨h, off2 + k * 2, none⟩ = some (.int .i64 y1) ∧ wr'.cell? ⟨h, off2 + k * 2 + 1, none⟩ = some (.int .i64 y2))) (by kernel_rfl) ?_ (fun hHeld => ?_)
            · (try dsimp only); exact ⟨c0, c1, d0, d1⟩
            try simp only [Act.put, List.setIfInBounds_toArray, List.set_cons_zero, List.set_cons_succ]
            refine wpAnyH_take (i := 0) (oi := { dst := some 16, op := Op.move (Operand.tmp 0), type := 35, pos := "slices.go:25", after := #[], guard := none }) (v := ?_) rfl (by kernel_rfl) (by kernel_rfl) (by kernel_rfl) (fun _ _ _ h => h) (Or.inl ⟨by rfl, ?_⟩) (by assumption) ?_
            rotate_left 1
            · intro w hSw; (try dsimp only at hSw); go_simp <;> with_reducible rfl
            try simp only [Act.put, List.setIfInBounds_toArray, List.set_cons_zero, List.set_cons_succ]
            refine wpAnyH_take (i := 1) (oi := { dst := some 17, op := Op.move (Operand.tmp 5), type := 3, pos := "slices.go:25", after := #[], guard := none }) (v := ?_) rfl (by kernel_rfl) (by kernel_rfl) (by kernel_rfl) (fun _ _ _ h => h) (Or.inl ⟨by rfl, ?_⟩) (by assumption) ?_
            rotate_left 1
            · intro w hSw; (try dsimp only at hSw); go_simp <;> with_reducible rfl
            try simp only [Act.put, List.setIfInBounds_toArray, List.set_cons_zero, List.set_cons_succ]
            refine wpAnyH_take (i := 2) (oi := { dst := some 18, op := Op.indexAddr 35 (Operand.tmp 16) (Operand.tmp 17), type := 0, pos := "slices.go:25", after := #[{ on := 0, ground := Ground.data }, { on := 1, ground := Ground.data }], guard := none }) (v := ?_) rfl (by kernel_rfl) (by kernel_rfl) (by kernel_rfl) (fun _ _ _ h => h) (Or.inl ⟨by rfl, ?_⟩) (by assumption) ?_
            rotate_left 1
            · intro w hSw; (try dsimp only at hSw); go_simp <;> with_reducible rfl
            try simp only [Act.put, List.setIfInBounds_toArray, List.set_cons_zero, List.set_cons_succ]
            refine wpAnyH_take (i := 3) (oi := { dst := some 19, op := Op.load 39 (Operand.tmp 18), type := 39, pos := "slices.go:25", after := #[{ on := 2, ground := Ground.data }], guard := none }) (v := ?_) rfl (by kernel_rfl) (by kernel_rfl) (by kernel_rfl) (fun _ _ _ h => h) (Or.inl ⟨by rfl, ?_⟩) (by assumption) ?_
            rotate_left 1
            · intro w hSw; (try dsimp only at hSw); go_simp <;> with_reducible rfl
            try simp only [Act.put, List.setIfInBounds_toArray, List.set_cons_zero, List.set_cons_succ]
            refine wpAnyH_take (i := 4) (oi := { dst := some 20, op := Op.move (Operand.tmp 1), type := 35, pos := "slices.go:25", after := #[], guard := none }) (v := ?_) rfl (by kernel_rfl) (by kernel_rfl) (by kernel_rfl) (fun _ _ _ h => h) (Or.inl ⟨by rfl, ?_⟩) (by assumption) ?_
            rotate_left 1
            · intro w hSw; (try dsimp only at hSw); go_simp <;> with_reducible rfl
            try simp only [Act.put, List.setIfInBounds_toArray, List.set_cons_zero, List.set_cons_succ]
            refine wpAnyH_take (i := 5) (oi := { dst := some 21, op := Op.move (Operand.tmp 5), type := 3, pos := "slices.go:25", after := #[], guard := none }) (v := ?_) rfl (by kernel_rfl) (by kernel_rfl) (by kernel_rfl) (fun _ _ _ h => h) (Or.inl ⟨by rfl, ?_⟩) (by assumption) ?_
            rotate_left 1
            · intro w hSw; (try dsimp only at hSw); go_simp <;> with_reducible rfl
            try simp only [Act.put, List.setIfInBounds_toArray, List.set_cons_zero, List.set_cons_succ]
            refine wpAnyH_take (i := 6) (oi := { dst := some 22, op := Op.indexAddr 35 (Operand.tmp 20) (Operand.tmp 21), type := 0, pos := "slices.go:25", after := #[{ on := 4, ground := Ground.data }, { on := 5, ground := Ground.data }], guard := none }) (v := ?_) rfl (by kernel_rfl) (by kernel_rfl) (by kernel_rfl) (fun _ _ _ h => h) (Or.inl ⟨by rfl, ?_⟩) (by assumption) ?_
            rotate_left 1
            · intro w hSw; (try dsimp only at hSw); go_simp <;> with_reducible rfl
            try simp only [Act.put, List.setIfInBounds_toArray, List.set_cons_zero, List.set_cons_succ]
            refine wpAnyH_take (i := 7) (oi := { dst := some 23, op := Op.load 39 (Operand.tmp 22), type := 39, pos := "slices.go:25", after := #[{ on := 6, ground := Ground.data }], guard := none }) (v := ?_) rfl (by kernel_rfl) (by kernel_rfl) (by kernel_rfl) (fun _ _ _ h => h) (Or.inl ⟨by rfl, ?_⟩) (by assumption) ?_
            rotate_left 1
            · intro w hSw; (try dsimp only at hSw); go_simp <;> with_reducible rfl
            try simp only [Act.put, List.setIfInBounds_toArray, List.set_cons_zero, List.set_cons_succ]
            refine wpAnyH_take (i := 8) (oi := { dst := some 24, op := Op.binOp BinOp.neq 39 (Operand.tmp 19) (Operand.tmp 23) 39, type := 4, pos := "slices.go:25", after := #[{ on := 3, ground := Ground.data }, { on := 7, ground := Ground.data }], guard := none }) (v := ?_) rfl (by kernel_rfl) (by kernel_rfl) (by kernel_rfl) (fun _ _ _ h => h) (Or.inl ⟨by rfl, ?_⟩) (by assumption) ?_
            rotate_left 1
            · intro w hSw; (try dsimp only at hSw); go_simp <;> with_reducible rfl
            try simp only [Act.put, List.setIfInBounds_toArray, List.set_cons_zero, List.set_cons_succ]
            refine wpAnyH_done (by kernel_rfl) ?_ _
            go_wp2_with fail
            go_roundw
            case rel => exact ⟨k + 1, by omega, by go_num, hE', hB'⟩
            case measure => simp [intOf]; omega
          · have f1 : (x1 == y1) = true := by simpa using e1
            have f2 : (x2 == y2) = false := by simpa using e2
            have e := Lib.hid (eq_not hxH.out hyH.out (fun h => e2 (congrArg Prod.snd h)))
            clear e1 e2
            go_upto_region 6 with fail
            refine wp_region_held_drew (S := (fun wr' => wr'.cell? ⟨g, off + k * 2, none⟩ = some (.int .i64 x1) ∧ wr'.cell? ⟨g, off + k * 2 + 1, none⟩ = some (.int .i64 x2) ∧ wr'.cell? ⟨h, off2 + k * 2, none⟩ = some (.int .i64 y1) ∧ wr'.cell? ⟨h, off2 + k * 2 + 1, none⟩ = some (.int .i64 y2))) (by kernel_rfl) ?_ (fun hHeld => ?_)
            · (try dsimp only); exact ⟨c0, c1, d0, d1⟩
            try simp only [Act.put, List.setIfInBounds_toArray, List.set_cons_zero, List.set_cons_succ]
            refine wpAnyH_take (i := 0) (oi := { dst := some 16, op := Op.move (Operand.tmp 0), type := 35, pos := "slices.go:25", after := #[], guard := none }) (v := ?_) rfl (by kernel_rfl) (by kernel_rfl) (by kernel_rfl) (fun _ _ _ h => h) (Or.inl ⟨by rfl, ?_⟩) (by assumption) ?_
            rotate_left 1
            · intro w hSw; (try dsimp only at hSw); go_simp <;> with_reducible rfl
            try simp only [Act.put, List.setIfInBounds_toArray, List.set_cons_zero, List.set_cons_succ]
            refine wpAnyH_take (i := 1) (oi := { dst := some 17, op := Op.move (Operand.tmp 5), type := 3, pos := "slices.go:25", after := #[], guard := none }) (v := ?_) rfl (by kernel_rfl) (by kernel_rfl) (by kernel_rfl) (fun _ _ _ h => h) (Or.inl ⟨by rfl, ?_⟩) (by assumption) ?_
            rotate_left 1
            · intro w hSw; (try dsimp only at hSw); go_simp <;> with_reducible rfl
            try simp only [Act.put, List.setIfInBounds_toArray, List.set_cons_zero, List.set_cons_succ]
            refine wpAnyH_take (i := 2) (oi := { dst := some 18, op := Op.indexAddr 35 (Operand.tmp 16) (Operand.tmp 17), type := 0, pos := "slices.go:25", after := #[{ on := 0, ground := Ground.data }, { on := 1, ground := Ground.data }], guard := none }) (v := ?_) rfl (by kernel_rfl) (by kernel_rfl) (by kernel_rfl) (fun _ _ _ h => h) (Or.inl ⟨by rfl, ?_⟩) (by assumption) ?_
            rotate_left 1
            · intro w hSw; (try dsimp only at hSw); go_simp <;> with_reducible rfl
            try simp only [Act.put, List.setIfInBounds_toArray, List.set_cons_zero, List.set_cons_succ]
            refine wpAnyH_take (i := 3) (oi := { dst := some 19, op := Op.load 39 (Operand.tmp 18), type := 39, pos := "slices.go:25", after := #[{ on := 2, ground := Ground.data }], guard := none }) (v := ?_) rfl (by kernel_rfl) (by kernel_rfl) (by kernel_rfl) (fun _ _ _ h => h) (Or.inl ⟨by rfl, ?_⟩) (by assumption) ?_
            rotate_left 1
            · intro w hSw; (try dsimp only at hSw); go_simp <;> with_reducible rfl
            try simp only [Act.put, List.setIfInBounds_toArray, List.set_cons_zero, List.set_cons_succ]
            refine wpAnyH_take (i := 4) (oi := { dst := some 20, op := Op.move (Operand.tmp 1), type := 35, pos := "slices.go:25", after := #[], guard := none }) (v := ?_) rfl (by kernel_rfl) (by kernel_rfl) (by kernel_rfl) (fun _ _ _ h => h) (Or.inl ⟨by rfl, ?_⟩) (by assumption) ?_
            rotate_left 1
            · intro w hSw; (try dsimp only at hSw); go_simp <;> with_reducible rfl
            try simp only [Act.put, List.setIfInBounds_toArray, List.set_cons_zero, List.set_cons_succ]
            refine wpAnyH_take (i := 5) (oi := { dst := some 21, op := Op.move (Operand.tmp 5), type := 3, pos := "slices.go:25", after := #[], guard := none }) (v := ?_) rfl (by kernel_rfl) (by kernel_rfl) (by kernel_rfl) (fun _ _ _ h => h) (Or.inl ⟨by rfl, ?_⟩) (by assumption) ?_
            rotate_left 1
            · intro w hSw; (try dsimp only at hSw); go_simp <;> with_reducible rfl
            try simp only [Act.put, List.setIfInBounds_toArray, List.set_cons_zero, List.set_cons_succ]
            refine wpAnyH_take (i := 6) (oi := { dst := some 22, op := Op.indexAddr 35 (Operand.tmp 20) (Operand.tmp 21), type := 0, pos := "slices.go:25", after := #[{ on := 4, ground := Ground.data }, { on := 5, ground := Ground.data }], guard := none }) (v := ?_) rfl (by kernel_rfl) (by kernel_rfl) (by kernel_rfl) (fun _ _ _ h => h) (Or.inl ⟨by rfl, ?_⟩) (by assumption) ?_
            rotate_left 1
            · intro w hSw; (try dsimp only at hSw); go_simp <;> with_reducible rfl
            try simp only [Act.put, List.setIfInBounds_toArray, List.set_cons_zero, List.set_cons_succ]
            refine wpAnyH_take (i := 7) (oi := { dst := some 23, op := Op.load 39 (Operand.tmp 22), type := 39, pos := "slices.go:25", after := #[{ on := 6, ground := Ground.data }], guard := none }) (v := ?_) rfl (by kernel_rfl) (by kernel_rfl) (by kernel_rfl) (fun _ _ _ h => h) (Or.inl ⟨by rfl, ?_⟩) (by assumption) ?_
            rotate_left 1
            · intro w hSw; (try dsimp only at hSw); go_simp <;> with_reducible rfl
            try simp only [Act.put, List.setIfInBounds_toArray, List.set_cons_zero, List.set_cons_succ]
            refine wpAnyH_take (i := 8) (oi := { dst := some 24, op := Op.binOp BinOp.neq 39 (Operand.tmp 19) (Operand.tmp 23) 39, type := 4, pos := "slices.go:25", after := #[{ on := 3, ground := Ground.data }, { on := 7, ground := Ground.data }], guard := none }) (v := ?_) rfl (by kernel_rfl) (by kernel_rfl) (by kernel_rfl) (fun _ _ _ h => h) (Or.inl ⟨by rfl, ?_⟩) (by assumption) ?_
            rotate_left 1
            · intro w hSw; (try dsimp only at hSw); go_simp <;> with_reducible rfl
            try simp only [Act.put, List.setIfInBounds_toArray, List.set_cons_zero, List.set_cons_succ]
            refine wpAnyH_done (by kernel_rfl) ?_ _
            go_wp2_with fail
            go_ret
            exact ⟨congrArg (fun b => Ending.returned (Value.bool b)) e.out.symm, hB'.out⟩
        · have f1 : (x1 == y1) = false := by simpa using e1
          have e := Lib.hid (eq_not hxH.out hyH.out (fun h => e1 (congrArg Prod.fst h)))
          clear e1
          go_upto_region 6 with fail
          refine wp_region_held_drew (S := (fun wr' => wr'.cell? ⟨g, off + k * 2, none⟩ = some (.int .i64 x1) ∧ wr'.cell? ⟨g, off + k * 2 + 1, none⟩ = some (.int .i64 x2) ∧ wr'.cell? ⟨h, off2 + k * 2, none⟩ = some (.int .i64 y1) ∧ wr'.cell? ⟨h, off2 + k * 2 + 1, none⟩ = some (.int .i64 y2))) (by kernel_rfl) ?_ (fun hHeld => ?_)
          · (try dsimp only); exact ⟨c0, c1, d0, d1⟩
          try simp only [Act.put, List.setIfInBounds_toArray, List.set_cons_zero, List.set_cons_succ]
          refine wpAnyH_take (i := 0) (oi := { dst := some 16, op := Op.move (Operand.tmp 0), type := 35, pos := "slices.go:25", after := #[], guard := none }) (v := ?_) rfl (by kernel_rfl) (by kernel_rfl) (by kernel_rfl) (fun _ _ _ h => h) (Or.inl ⟨by rfl, ?_⟩) (by assumption) ?_
          rotate_left 1
          · intro w hSw; (try dsimp only at hSw); go_simp <;> with_reducible rfl
          try simp only [Act.put, List.setIfInBounds_toArray, List.set_cons_zero, List.set_cons_succ]
          refine wpAnyH_take (i := 1) (oi := { dst := some 17, op := Op.move (Operand.tmp 5), type := 3, pos := "slices.go:25", after := #[], guard := none }) (v := ?_) rfl (by kernel_rfl) (by kernel_rfl) (by kernel_rfl) (fun _ _ _ h => h) (Or.inl ⟨by rfl, ?_⟩) (by assumption) ?_
          rotate_left 1
          · intro w hSw; (try dsimp only at hSw); go_simp <;> with_reducible rfl
          try simp only [Act.put, List.setIfInBounds_toArray, List.set_cons_zero, List.set_cons_succ]
          refine wpAnyH_take (i := 2) (oi := { dst := some 18, op := Op.indexAddr 35 (Operand.tmp 16) (Operand.tmp 17), type := 0, pos := "slices.go:25", after := #[{ on := 0, ground := Ground.data }, { on := 1, ground := Ground.data }], guard := none }) (v := ?_) rfl (by kernel_rfl) (by kernel_rfl) (by kernel_rfl) (fun _ _ _ h => h) (Or.inl ⟨by rfl, ?_⟩) (by assumption) ?_
          rotate_left 1
          · intro w hSw; (try dsimp only at hSw); go_simp <;> with_reducible rfl
          try simp only [Act.put, List.setIfInBounds_toArray, List.set_cons_zero, List.set_cons_succ]
          refine wpAnyH_take (i := 3) (oi := { dst := some 19, op := Op.load 39 (Operand.tmp 18), type := 39, pos := "slices.go:25", after := #[{ on := 2, ground := Ground.data }], guard := none }) (v := ?_) rfl (by kernel_rfl) (by kernel_rfl) (by kernel_rfl) (fun _ _ _ h => h) (Or.inl ⟨by rfl, ?_⟩) (by assumption) ?_
          rotate_left 1
          · intro w hSw; (try dsimp only at hSw); go_simp <;> with_reducible rfl
          try simp only [Act.put, List.setIfInBounds_toArray, List.set_cons_zero, List.set_cons_succ]
          refine wpAnyH_take (i := 4) (oi := { dst := some 20, op := Op.move (Operand.tmp 1), type := 35, pos := "slices.go:25", after := #[], guard := none }) (v := ?_) rfl (by kernel_rfl) (by kernel_rfl) (by kernel_rfl) (fun _ _ _ h => h) (Or.inl ⟨by rfl, ?_⟩) (by assumption) ?_
          rotate_left 1
          · intro w hSw; (try dsimp only at hSw); go_simp <;> with_reducible rfl
          try simp only [Act.put, List.setIfInBounds_toArray, List.set_cons_zero, List.set_cons_succ]
          refine wpAnyH_take (i := 5) (oi := { dst := some 21, op := Op.move (Operand.tmp 5), type := 3, pos := "slices.go:25", after := #[], guard := none }) (v := ?_) rfl (by kernel_rfl) (by kernel_rfl) (by kernel_rfl) (fun _ _ _ h => h) (Or.inl ⟨by rfl, ?_⟩) (by assumption) ?_
          rotate_left 1
          · intro w hSw; (try dsimp only at hSw); go_simp <;> with_reducible rfl
          try simp only [Act.put, List.setIfInBounds_toArray, List.set_cons_zero, List.set_cons_succ]
          refine wpAnyH_take (i := 6) (oi := { dst := some 22, op := Op.indexAddr 35 (Operand.tmp 20) (Operand.tmp 21), type := 0, pos := "slices.go:25", after := #[{ on := 4, ground := Ground.data }, { on := 5, ground := Ground.data }], guard := none }) (v := ?_) rfl (by kernel_rfl) (by kernel_rfl) (by kernel_rfl) (fun _ _ _ h => h) (Or.inl ⟨by rfl, ?_⟩) (by assumption) ?_
          rotate_left 1
          · intro w hSw; (try dsimp only at hSw); go_simp <;> with_reducible rfl
          try simp only [Act.put, List.setIfInBounds_toArray, List.set_cons_zero, List.set_cons_succ]
          refine wpAnyH_take (i := 7) (oi := { dst := some 23, op := Op.load 39 (Operand.tmp 22), type := 39, pos := "slices.go:25", after := #[{ on := 6, ground := Ground.data }], guard := none }) (v := ?_) rfl (by kernel_rfl) (by kernel_rfl) (by kernel_rfl) (fun _ _ _ h => h) (Or.inl ⟨by rfl, ?_⟩) (by assumption) ?_
          rotate_left 1
          · intro w hSw; (try dsimp only at hSw); go_simp <;> with_reducible rfl
          try simp only [Act.put, List.setIfInBounds_toArray, List.set_cons_zero, List.set_cons_succ]
          refine wpAnyH_take (i := 8) (oi := { dst := some 24, op := Op.binOp BinOp.neq 39 (Operand.tmp 19) (Operand.tmp 23) 39, type := 4, pos := "slices.go:25", after := #[{ on := 3, ground := Ground.data }, { on := 7, ground := Ground.data }], guard := none }) (v := ?_) rfl (by kernel_rfl) (by kernel_rfl) (by kernel_rfl) (fun _ _ _ h => h) (Or.inl ⟨by rfl, ?_⟩) (by assumption) ?_
          rotate_left 1
          · intro w hSw; (try dsimp only at hSw); go_simp <;> with_reducible rfl
          try simp only [Act.put, List.setIfInBounds_toArray, List.set_cons_zero, List.set_cons_succ]
          refine wpAnyH_done (by kernel_rfl) ?_ _
          go_wp2_with fail
          go_ret
          exact ⟨congrArg (fun b => Ending.returned (Value.bool b)) e.out.symm, hB'.out⟩
      · have e := Lib.hid (EqR.last (A := A) (B := B) (n := n) (by have := hE.out; rw [show k = n by omega] at this; exact this) hn'.out (by rw [hnm]; exact hm'.out))
        have hlt' : decide ((k : Int) < (n : Int)) = false := by simp; omega
        go_wp2
        go_ret
        exact ⟨congrArg (fun b => Ending.returned (Value.bool b)) e.out.symm, hB.out⟩
  · have hl' : ((A.length : Int) != (B.length : Int)) = true := by simp; omega
    have e := Lib.hid (eq_len hl)
    clear hl
    go_enter Try.func48, Try.ntmps48
    go_wp2
    go_ret
    exact ⟨congrArg (fun b => Ending.returned (Value.bool b)) e.out.symm, Below.refl _ _⟩
set_option maxHeartbeats 8000000 in
theorem ueqstr_c {w : World} {a b : Value} {A B : List ByteArray} (ha : NmV w a A) (hb : NmV w b B) :
    Calls Try.prog 25 #[a, b] w fun e w' => e = .returned (.bool (decide (A = B))) ∧ Below w.heap.size w w' := by
  obtain ⟨aa, ac, rfl, ha1, ha2, _⟩ := ha.ex
  obtain ⟨ba, bc, rfl, hb1, hb2, _⟩ := hb.ex
  have hle := len_le (Nat.le_trans ha1 ha2)
  by_cases hl : A.length = B.length
  · have hl' : ((A.length : Int) != (B.length : Int)) = false := by simp [hl]
    obtain ⟨n, hn⟩ : ∃ n, n = A.length := ⟨_, rfl⟩
    obtain ⟨m, hm⟩ : ∃ m, m = B.length := ⟨_, rfl⟩
    have hn' := Lib.hid hn
    have hm' := Lib.hid hm
    have hnm : n = m := by omega
    rw [← hn] at ha hle hl' ⊢
    rw [← hm] at hb hl' ⊢
    replace ha := Lib.hid ha
    replace hb := Lib.hid hb
    have hst := Lib.hid (EqR.start A B)
    clear hl hn hm ha1 ha2 hb1 hb2
    go_enter Try.func25, Try.ntmps25
    go_wp2
    go_loopw [13] (fun i wr => ∃ (k : Nat), k ≤ n ∧ i = .int .i64 k ∧ Hid (EqR A B k) ∧ Hid (Below w.heap.size w wr)) (fun i _ => n - (intOf i).toNat)
    case atStart => exact ⟨0, by omega, rfl, hst, Lib.hid (Below.refl _ _)⟩
    case round =>
      obtain ⟨k, hk, rfl, hE, hB⟩ := hrel
      by_cases hlt : k < n
      · have hlt' : decide ((k : Int) < (n : Int)) = true := by simp; omega
        have p0 : (0 : Int) ≤ (k : Int) := by omega
        have p1 : (k : Int) < (n : Int) := by omega
        have p2 : (k : Int) < (m : Int) := by omega
        obtain ⟨x1, hx⟩ : ∃ x, A[k]? = some x := ⟨A[k]'(by have := hn'.out; omega), by simp⟩
        obtain ⟨y1, hy⟩ : ∃ x, B[k]? = some x := ⟨B[k]'(by have := hm'.out; omega), by simp⟩
        obtain ⟨g, off, rfl, c0⟩ := NmV.at (ha.out.up hB.out) hx
        obtain ⟨h, off2, rfl, d0⟩ := NmV.at (hb.out.up hB.out) hy
        have hxH := Lib.hid hx
        have hyH := Lib.hid hy
        have hB' := Lib.hid (hB.out.trans (((Below.refl wr.heap.size wr).drew).mono hB.out.size))
        clear hx hy hst hlt
        by_cases e1 : x1 = y1
        · have f1 : (x1.toList == y1.toList) = true := bl_eq e1
          have hE' := Lib.hid (hE.out.step hxH.out hyH.out e1)
          clear e1
          go_upto_region 6 with fail
          go_region
          go_wp2
          go_roundw
          case rel => exact ⟨k + 1, by omega, by go_num, hE', hB'⟩
          case measure => simp [intOf]; omega
        · have f1 : (x1.toList == y1.toList) = false := bl_ne e1
          have e := Lib.hid (eq_not hxH.out hyH.out e1)
          clear e1
          go_upto_region 6 with fail
          go_region
          go_wp2
          go_ret
          exact ⟨congrArg (fun b => Ending.returned (Value.bool b)) e.out.symm, hB'.out⟩
      · have e := Lib.hid (EqR.last (A := A) (B := B) (n := n) (by have := hE.out; rw [show k = n by omega] at this; exact this) hn'.out (by rw [hnm]; exact hm'.out))
        have hlt' : decide ((k : Int) < (n : Int)) = false := by simp; omega
        go_wp2
        go_ret
        exact ⟨congrArg (fun b => Ending.returned (Value.bool b)) e.out.symm, hB.out⟩
  · have hl' : ((A.length : Int) != (B.length : Int)) = true := by simp; omega
    have e := Lib.hid (eq_len hl)
    clear hl
    go_enter Try.func25, Try.ntmps25
    go_wp2
    go_ret
    exact ⟨congrArg (fun b => Ending.returned (Value.bool b)) e.out.symm, Below.refl _ _⟩
set_option maxHeartbeats 8000000 in
theorem ueqbyte_c {w : World} {a b : Value} {A B : List Int} (ha : ByV w a A) (hb : ByV w b B) :
    Calls Try.prog 50 #[a, b] w fun e w' => e = .returned (.bool (decide (A = B))) ∧ Below w.heap.size w w' := by
  obtain ⟨aa, ac, rfl, ha1, ha2, _⟩ := ha.ex
  obtain ⟨ba, bc, rfl, hb1, hb2, _⟩ := hb.ex
  have hle := len_le (Nat.le_trans ha1 ha2)
  by_cases hl : A.length = B.length
  · have hl' : ((A.length : Int) != (B.length : Int)) = false := by simp [hl]
    obtain ⟨n, hn⟩ : ∃ n, n = A.length := ⟨_, rfl⟩
    obtain ⟨m, hm⟩ : ∃ m, m = B.length := ⟨_, rfl⟩
    have hn' := Lib.hid hn
    have hm' := Lib.hid hm
    have hnm : n = m := by omega
    rw [← hn] at ha hle hl' ⊢
    rw [← hm] at hb hl' ⊢
    replace ha := Lib.hid ha
    replace hb := Lib.hid hb
    have hst := Lib.hid (EqR.start A B)
    clear hl hn hm ha1 ha2 hb1 hb2
    go_enter Try.func50, Try.ntmps50
    go_wp2
    go_loopw [13] (fun i wr => ∃ (k : Nat), k ≤ n ∧ i = .int .i64 k ∧ Hid (EqR A B k) ∧ Hid (Below w.heap.size w wr)) (fun i _ => n - (intOf i).toNat)
    case atStart => exact ⟨0, by omega, rfl, hst, Lib.hid (Below.refl _ _)⟩
    case round =>
      obtain ⟨k, hk, rfl, hE, hB⟩ := hrel
      by_cases hlt : k < n
      · have hlt' : decide ((k : Int) < (n : Int)) = true := by simp; omega
        have p0 : (0 : Int) ≤ (k : Int) := by omega
        have p1 : (k : Int) < (n : Int) := by omega
        have p2 : (k : Int) < (m : Int) := by omega
        obtain ⟨x1, hx⟩ : ∃ x, A[k]? = some x := ⟨A[k]'(by have := hn'.out; omega), by simp⟩
        obtain ⟨y1, hy⟩ : ∃ x, B[k]? = some x := ⟨B[k]'(by have := hm'.out; omega), by simp⟩
        obtain ⟨_, g, off, rfl, c0⟩ := ByV.at (ha.out.up hB.out) hx
        obtain ⟨_, h, off2, rfl, d0⟩ := ByV.at (hb.out.up hB.out) hy
        have hxH := Lib.hid hx
        have hyH := Lib.hid hy
        have hB' := Lib.hid (hB.out.trans (((Below.refl wr.heap.size wr).drew).mono hB.out.size))
        clear hx hy hst hlt
        by_cases e1 : x1 = y1
        · have f1 : (x1 != y1) = false := by simpa using e1
          have hE' := Lib.hid (hE.out.step hxH.out hyH.out e1)
          clear e1
          go_upto_region 6 with fail
          go_region
          go_wp2
          go_roundw
          case rel => exact ⟨k + 1, by omega, by go_num, hE', hB'⟩
          case measure => simp [intOf]; omega
        · have f1 : (x1 != y1) = true := by simpa using e1
          have e := Lib.hid (eq_not hxH.out hyH.out e1)
          clear e1
          go_upto_region 6 with fail
          go_region
          go_wp2
          go_ret
          exact ⟨congrArg (fun b => Ending.returned (Value.bool b)) e.out.symm, hB'.out⟩
      · have e := Lib.hid (EqR.last (A := A) (B := B) (n := n) (by have := hE.out; rw [show k = n by omega] at this; exact this) hn'.out (by rw [hnm]; exact hm'.out))
        have hlt' : decide ((k : Int) < (n : Int)) = false := by simp; omega
        go_wp2
        go_ret
        exact ⟨congrArg (fun b => Ending.returned (Value.bool b)) e.out.symm, hB.out⟩
  · have hl' : ((A.length : Int) != (B.length : Int)) = true := by simp; omega
    have e := Lib.hid (eq_len hl)
    clear hl
    go_enter Try.func50, Try.ntmps50
    go_wp2
    go_ret
    exact ⟨congrArg (fun b => Ending.returned (Value.bool b)) e.out.symm, Below.refl _ _⟩
end Wd
end Go.Proofs.Ytgfdgdbkifkehaa

/- The landed programs: are two classes, two methods, two objects, two programs the same? -/
namespace Go.Proofs.Ytgfdgdbkifkehaa
open Go.RowKit
set_option linter.unusedVariables false
set_option maxRecDepth 20000
namespace Wd
/-- a class, by value -/
structure ClK (w : World) (v : Value) (c : ClassA) : Prop where
  mk ::
  ex : ∃ ba bc, v = .agg #[.string c.nm, .int .i64 c.super, .int .i64 c.fields, .slice ba c.binds.length bc] ∧ PrV w (.slice ba c.binds.length bc) c.binds
theorem ClK.up {w w1 : World} {v : Value} {c : ClassA} (h : ClK w v c) (b : Below w.heap.size w w1) : ClK w1 v c := by
  obtain ⟨ba, bc, e, p⟩ := h.ex
  exact ⟨ba, bc, e, p.up b⟩
theorem cls_eq (A B : ClassA) : decide (A = B) = (decide (A.nm = B.nm) && (decide (A.super = B.super) && (decide (A.fields = B.fields) && decide (A.binds = B.binds)))) := by
  cases A; cases B; simp [Bool.decide_and]
theorem met_eq (A B : MethA) : decide (A = B) = (decide (A.args = B.args) && (decide (A.temps = B.temps) && (decide (A.lits = B.lits) && decide (A.code = B.code)))) := by
  cases A; cases B; simp [Bool.decide_and]
theorem obj_eq (A B : ObjA) : decide (A = B) = (decide (A.cls = B.cls) && decide (A.flds = B.flds)) := by
  cases A; cases B; simp [Bool.decide_and]
set_option maxHeartbeats 16000000 in
theorem usclass_c {w : World} {a b : Value} {A B : ClassA} (ha : ClK w a A) (hb : ClK w b B) :
    Calls Try.prog 27 #[a, b] w fun e w' => e = .returned (.bool (decide (A = B))) ∧ Below w.heap.size w w' := by
  obtain ⟨ba, ca, rfl, ha0⟩ := ha.ex
  obtain ⟨bb, cb, rfl, hb0⟩ := hb.ex
  have hw1 := (Below.refl w.heap.size w).alloc (Nat.le_refl _) (.cells #[.string A.nm, .int .i64 A.super, .int .i64 A.fields, .slice ba A.binds.length ca] 37)
  have hw2 := hw1.alloc (by simp only [World.size_alloc]; omega) (.cells #[.string B.nm, .int .i64 B.super, .int .i64 B.fields, .slice bb B.binds.length cb] 37)
  have i1 : (w.alloc (.cells #[.string A.nm, .int .i64 A.super, .int .i64 A.fields, .slice ba A.binds.length ca] 37)).heap.size = w.heap.size + 1 := by simp
  have a0 : ((w.alloc (.cells #[.string A.nm, .int .i64 A.super, .int .i64 A.fields, .slice ba A.binds.length ca] 37)).alloc (.cells #[.string B.nm, .int .i64 B.super, .int .i64 B.fields, .slice bb B.binds.length cb] 37)).cell? ⟨w.heap.size, 0, none⟩ = some (.string A.nm) := (World.cell?_alloc_old _ _ _ (by simp)).trans (by simp)
  have a1 : ((w.alloc (.cells #[.string A.nm, .int .i64 A.super, .int .i64 A.fields, .slice ba A.binds.length ca] 37)).alloc (.cells #[.string B.nm, .int .i64 B.super, .int .i64 B.fields, .slice bb B.binds.length cb] 37)).cell? ⟨w.heap.size, 1, none⟩ = some (.int .i64 A.super) := (World.cell?_alloc_old _ _ _ (by simp)).trans (by simp)
  have a2 : ((w.alloc (.cells #[.string A.nm, .int .i64 A.super, .int .i64 A.fields, .slice ba A.binds.length ca] 37)).alloc (.cells #[.string B.nm, .int .i64 B.super, .int .i64 B.fields, .slice bb B.binds.length cb] 37)).cell? ⟨w.heap.size, 2, none⟩ = some (.int .i64 A.fields) := (World.cell?_alloc_old _ _ _ (by simp)).trans (by simp)
  have a3 : ((w.alloc (.cells #[.string A.nm, .int .i64 A.super, .int .i64 A.fields, .slice ba A.binds.length ca] 37)).alloc (.cells #[.string B.nm, .int .i64 B.super, .int .i64 B.fields, .slice bb B.binds.length cb] 37)).cell? ⟨w.heap.size, 3, none⟩ = some (.slice ba A.binds.length ca) := (World.cell?_alloc_old _ _ _ (by simp)).trans (by simp)
  have b0 : ((w.alloc (.cells #[.string A.nm, .int .i64 A.super, .int .i64 A.fields, .slice ba A.binds.length ca] 37)).alloc (.cells #[.string B.nm, .int .i64 B.super, .int .i64 B.fields, .slice bb B.binds.length cb] 37)).cell? ⟨w.heap.size + 1, 0, none⟩ = some (.string B.nm) := by rw [← i1]; simp
  have b1 : ((w.alloc (.cells #[.string A.nm, .int .i64 A.super, .int .i64 A.fields, .slice ba A.binds.length ca] 37)).alloc (.cells #[.string B.nm, .int .i64 B.super, .int .i64 B.fields, .slice bb B.binds.length cb] 37)).cell? ⟨w.heap.size + 1, 1, none⟩ = some (.int .i64 B.super) := by rw [← i1]; simp
  have b2 : ((w.alloc (.cells #[.string A.nm, .int .i64 A.super, .int .i64 A.fields, .slice ba A.binds.length ca] 37)).alloc (.cells #[.string B.nm, .int .i64 B.super, .int .i64 B.fields, .slice bb B.binds.length cb] 37)).cell? ⟨w.heap.size + 1, 2, none⟩ = some (.int .i64 B.fields) := by rw [← i1]; simp
  have b3 : ((w.alloc (.cells #[.string A.nm, .int .i64 A.super, .int .i64 A.fields, .slice ba A.binds.length ca] 37)).alloc (.cells #[.string B.nm, .int .i64 B.super, .int .i64 B.fields, .slice bb B.binds.length cb] 37)).cell? ⟨w.heap.size + 1, 3, none⟩ = some (.slice bb B.binds.length cb) := by rw [← i1]; simp
  have hW := Lib.hid hw2
  have P0 := Lib.hid (ueqbind_c (ha0.up hw2) (hb0.up hw2))
  have eq := Lib.hid (cls_eq A B)
  clear ha hb hw1 hw2 i1 ha0 hb0
  generalize decide (A = B) = r at *
  go_enter Try.func27, Try.ntmps27
  go_upto_region 1 with fail
  generalize ((w.alloc (.cells #[.string A.nm, .int .i64 A.super, .int .i64 A.fields, .slice ba A.binds.length ca] 37)).alloc (.cells #[.string B.nm, .int .i64 B.super, .int .i64 B.fields, .slice bb B.binds.length cb] 37)) = W at *
  by_cases g : ¬ A.nm = B.nm
  · as_aux_lemma =>
    have d0 : (A.nm.toList == B.nm.toList) = false := bl_ne g
    rw [decide_eq_false g] at eq
    have e : Hid (r = false) := Lib.hid (by rw [eq.out]; simp)
    clear g
    go_wp2
    go_ret
    exact ⟨congrArg (fun b => Ending.returned (Value.bool b)) e.out.symm, hW.out⟩
  replace g : A.nm = B.nm := Decidable.not_not.1 g
  have d0 : (A.nm.toList == B.nm.toList) = true := bl_eq g
  rw [decide_eq_true g, Bool.true_and] at eq
  clear g
  by_cases g : ¬ A.super = B.super
  · as_aux_lemma =>
    have d1 : (A.super == B.super) = false := by simpa using g
    rw [decide_eq_false g] at eq
    have e : Hid (r = false) := Lib.hid (by rw [eq.out]; simp)
    clear g
    go_wp2
    go_ret
    exact ⟨congrArg (fun b => Ending.returned (Value.bool b)) e.out.symm, hW.out⟩
  replace g : A.super = B.super := Decidable.not_not.1 g
  have d1 : (A.super == B.super) = true := by simpa using g
  rw [decide_eq_true g, Bool.true_and] at eq
  clear g
  by_cases g : ¬ A.fields = B.fields
  · as_aux_lemma =>
    have d2 : (A.fields == B.fields) = false := by simpa using g
    rw [decide_eq_false g] at eq
    have e : Hid (r = false) := Lib.hid (by rw [eq.out]; simp)
    clear g
    go_wp2
    go_ret
    exact ⟨congrArg (fun b => Ending.returned (Value.bool b)) e.out.symm, hW.out⟩
  replace g : A.fields = B.fields := Decidable.not_not.1 g
  have d2 : (A.fields == B.fields) = true := by simpa using g
  rw [decide_eq_true g, Bool.true_and] at eq
  clear g
  have PQ0 := P0
  clear P0
  generalize decide (A.binds = B.binds) = q at *
  go_wp2_with (first | (go_at_call 48; ((with_reducible refine (PQ0.out).mono ?_); rintro e1 w2 ⟨rfl, hb0⟩)))
  go_ret
  exact ⟨congrArg (fun b => Ending.returned (Value.bool b)) eq.out.symm, hW.out.trans (hb0.mono hW.out.size)⟩
set_option maxHeartbeats 16000000 in
theorem usmeth_c {w : World} {a b : Value} {A B : MethA} (ha : MeV w a A) (hb : MeV w b B) :
    Calls Try.prog 29 #[a, b] w fun e w' => e = .returned (.bool (decide (A = B))) ∧ Below w.heap.size w w' := by
  obtain ⟨la, ma, ka, na, rfl, ha0, ha1⟩ := ha.ex
  obtain ⟨lb, mb, kb, nb, rfl, hb0, hb1⟩ := hb.ex
  have hw1 := (Below.refl w.heap.size w).alloc (Nat.le_refl _) (.cells #[.int .i64 A.args, .int .i64 A.temps, .slice la A.lits.length ma, .slice ka A.code.length na] 47)
  have hw2 := hw1.alloc (by simp only [World.size_alloc]; omega) (.cells #[.int .i64 B.args, .int .i64 B.temps, .slice lb B.lits.length mb, .slice kb B.code.length nb] 47)
  have i1 : (w.alloc (.cells #[.int .i64 A.args, .int .i64 A.temps, .slice la A.lits.length ma, .slice ka A.code.length na] 47)).heap.size = w.heap.size + 1 := by simp
  have a0 : ((w.alloc (.cells #[.int .i64 A.args, .int .i64 A.temps, .slice la A.lits.length ma, .slice ka A.code.length na] 47)).alloc (.cells #[.int .i64 B.args, .int .i64 B.temps, .slice lb B.lits.length mb, .slice kb B.code.length nb] 47)).cell? ⟨w.heap.size, 0, none⟩ = some (.int .i64 A.args) := (World.cell?_alloc_old _ _ _ (by simp)).trans (by simp)
  have a1 : ((w.alloc (.cells #[.int .i64 A.args, .int .i64 A.temps, .slice la A.lits.length ma, .slice ka A.code.length na] 47)).alloc (.cells #[.int .i64 B.args, .int .i64 B.temps, .slice lb B.lits.length mb, .slice kb B.code.length nb] 47)).cell? ⟨w.heap.size, 1, none⟩ = some (.int .i64 A.temps) := (World.cell?_alloc_old _ _ _ (by simp)).trans (by simp)
  have a2 : ((w.alloc (.cells #[.int .i64 A.args, .int .i64 A.temps, .slice la A.lits.length ma, .slice ka A.code.length na] 47)).alloc (.cells #[.int .i64 B.args, .int .i64 B.temps, .slice lb B.lits.length mb, .slice kb B.code.length nb] 47)).cell? ⟨w.heap.size, 2, none⟩ = some (.slice la A.lits.length ma) := (World.cell?_alloc_old _ _ _ (by simp)).trans (by simp)
  have a3 : ((w.alloc (.cells #[.int .i64 A.args, .int .i64 A.temps, .slice la A.lits.length ma, .slice ka A.code.length na] 47)).alloc (.cells #[.int .i64 B.args, .int .i64 B.temps, .slice lb B.lits.length mb, .slice kb B.code.length nb] 47)).cell? ⟨w.heap.size, 3, none⟩ = some (.slice ka A.code.length na) := (World.cell?_alloc_old _ _ _ (by simp)).trans (by simp)
  have b0 : ((w.alloc (.cells #[.int .i64 A.args, .int .i64 A.temps, .slice la A.lits.length ma, .slice ka A.code.length na] 47)).alloc (.cells #[.int .i64 B.args, .int .i64 B.temps, .slice lb B.lits.length mb, .slice kb B.code.length nb] 47)).cell? ⟨w.heap.size + 1, 0, none⟩ = some (.int .i64 B.args) := by rw [← i1]; simp
  have b1 : ((w.alloc (.cells #[.int .i64 A.args, .int .i64 A.temps, .slice la A.lits.length ma, .slice ka A.code.length na] 47)).alloc (.cells #[.int .i64 B.args, .int .i64 B.temps, .slice lb B.lits.length mb, .slice kb B.code.length nb] 47)).cell? ⟨w.heap.size + 1, 1, none⟩ = some (.int .i64 B.temps) := by rw [← i1]; simp
  have b2 : ((w.alloc (.cells #[.int .i64 A.args, .int .i64 A.temps, .slice la A.lits.length ma, .slice ka A.code.length na] 47)).alloc (.cells #[.int .i64 B.args, .int .i64 B.temps, .slice lb B.lits.length mb, .slice kb B.code.length nb] 47)).cell? ⟨w.heap.size + 1, 2, none⟩ = some (.slice lb B.lits.length mb) := by rw [← i1]; simp
  have b3 : ((w.alloc (.cells #[.int .i64 A.args, .int .i64 A.temps, .slice la A.lits.length ma, .slice ka A.code.length na] 47)).alloc (.cells #[.int .i64 B.args, .int .i64 B.temps, .slice lb B.lits.length mb, .slice kb B.code.length nb] 47)).cell? ⟨w.heap.size + 1, 3, none⟩ = some (.slice kb B.code.length nb) := by rw [← i1]; simp
  have hW := Lib.hid hw2
  have P0 := Lib.hid (ueqval_c (ha0.up hw2) (hb0.up hw2))
  have P1 := Lib.hid (fun (w' : World) (b' : Below ((w.alloc (.cells #[.int .i64 A.args, .int .i64 A.temps, .slice la A.lits.length ma, .slice ka A.code.length na] 47)).alloc (.cells #[.int .i64 B.args, .int .i64 B.temps, .slice lb B.lits.length mb, .slice kb B.code.length nb] 47)).heap.size ((w.alloc (.cells #[.int .i64 A.args, .int .i64 A.temps, .slice la A.lits.length ma, .slice ka A.code.length na] 47)).alloc (.cells #[.int .i64 B.args, .int .i64 B.temps, .slice lb B.lits.length mb, .slice kb B.code.length nb] 47)) w') => ueqbyte_c ((ha1.up hw2).up b') ((hb1.up hw2).up b'))
  have eq := Lib.hid (met_eq A B)
  clear ha hb hw1 hw2 i1 ha0 hb0 ha1 hb1
  generalize decide (A = B) = r at *
  go_enter Try.func29, Try.ntmps29
  go_upto_region 1 with fail
  generalize ((w.alloc (.cells #[.int .i64 A.args, .int .i64 A.temps, .slice la A.lits.length ma, .slice ka A.code.length na] 47)).alloc (.cells #[.int .i64 B.args, .int .i64 B.temps, .slice lb B.lits.length mb, .slice kb B.code.length nb] 47)) = W at *
  by_cases g : ¬ A.args = B.args
  · as_aux_lemma =>
    have d0 : (A.args == B.args) = false := by simpa using g
    rw [decide_eq_false g] at eq
    have e : Hid (r = false) := Lib.hid (by rw [eq.out]; simp)
    clear g
    go_wp2
    go_ret
    exact ⟨congrArg (fun b => Ending.returned (Value.bool b)) e.out.symm, hW.out⟩
  replace g : A.args = B.args := Decidable.not_not.1 g
  have d0 : (A.args == B.args) = true := by simpa using g
  rw [decide_eq_true g, Bool.true_and] at eq
  clear g
  by_cases g : ¬ A.temps = B.temps
  · as_aux_lemma =>
    have d1 : (A.temps == B.temps) = false := by simpa using g
    rw [decide_eq_false g] at eq
    have e : Hid (r = false) := Lib.hid (by rw [eq.out]; simp)
    clear g
    go_wp2
    go_ret
    exact ⟨congrArg (fun b => Ending.returned (Value.bool b)) e.out.symm, hW.out⟩
  replace g : A.temps = B.temps := Decidable.not_not.1 g
  have d1 : (A.temps == B.temps) = true := by simpa using g
  rw [decide_eq_true g, Bool.true_and] at eq
  clear g
  cases q0 : decide (A.lits = B.lits) with
  | false =>
    as_aux_lemma =>
    have PQ0 := P0
    rw [q0] at PQ0 eq
    have e : Hid (r = false) := Lib.hid (by rw [eq.out]; simp)
    clear q0 P0
    go_wp2_with (first | (go_at_call 49; ((with_reducible refine (PQ0.out).mono ?_); rintro e1 w2 ⟨rfl, hb0⟩)))
    go_ret
    exact ⟨congrArg (fun b => Ending.returned (Value.bool b)) e.out.symm, hW.out.trans (hb0.mono hW.out.size)⟩
  | true =>
  rw [q0, Bool.true_and] at eq
  have PQ0 := P0
  rw [q0] at PQ0
  clear q0 P0
  generalize decide (A.code = B.code) = q at *
  go_wp2_with (first | (go_at_call 49; ((with_reducible refine (PQ0.out).mono ?_); rintro e1 w2 ⟨rfl, hb0⟩; have c3 := cell_up hb0 a3; have f3 := cell_up hb0 b3)) | (go_at_call 50; ((with_reducible refine (P1.out _ hb0).mono ?_); rintro e1 w3 ⟨rfl, hb1⟩)))
  go_ret
  exact ⟨congrArg (fun b => Ending.returned (Value.bool b)) eq.out.symm, hW.out.trans ((hb0.trans (hb1.mono hb0.size)).mono hW.out.size)⟩
set_option maxHeartbeats 16000000 in
theorem usobj_c {w : World} {a b : Value} {A B : ObjA} (ha : ObK w a A) (hb : ObK w b B) :
    Calls Try.prog 31 #[a, b] w fun e w' => e = .returned (.bool (decide (A = B))) ∧ Below w.heap.size w w' := by
  obtain ⟨fa, ca, rfl, ha0⟩ := ha.ex
  obtain ⟨fb, cb, rfl, hb0⟩ := hb.ex
  have hw1 := (Below.refl w.heap.size w).alloc (Nat.le_refl _) (.cells #[.int .i64 A.cls, .slice fa A.flds.length ca] 51)
  have hw2 := hw1.alloc (by simp only [World.size_alloc]; omega) (.cells #[.int .i64 B.cls, .slice fb B.flds.length cb] 51)
  have i1 : (w.alloc (.cells #[.int .i64 A.cls, .slice fa A.flds.length ca] 51)).heap.size = w.heap.size + 1 := by simp
  have a0 : ((w.alloc (.cells #[.int .i64 A.cls, .slice fa A.flds.length ca] 51)).alloc (.cells #[.int .i64 B.cls, .slice fb B.flds.length cb] 51)).cell? ⟨w.heap.size, 0, none⟩ = some (.int .i64 A.cls) := (World.cell?_alloc_old _ _ _ (by simp)).trans (by simp)
  have a1 : ((w.alloc (.cells #[.int .i64 A.cls, .slice fa A.flds.length ca] 51)).alloc (.cells #[.int .i64 B.cls, .slice fb B.flds.length cb] 51)).cell? ⟨w.heap.size, 1, none⟩ = some (.slice fa A.flds.length ca) := (World.cell?_alloc_old _ _ _ (by simp)).trans (by simp)
  have b0 : ((w.alloc (.cells #[.int .i64 A.cls, .slice fa A.flds.length ca] 51)).alloc (.cells #[.int .i64 B.cls, .slice fb B.flds.length cb] 51)).cell? ⟨w.heap.size + 1, 0, none⟩ = some (.int .i64 B.cls) := by rw [← i1]; simp
  have b1 : ((w.alloc (.cells #[.int .i64 A.cls, .slice fa A.flds.length ca] 51)).alloc (.cells #[.int .i64 B.cls, .slice fb B.flds.length cb] 51)).cell? ⟨w.heap.size + 1, 1, none⟩ = some (.slice fb B.flds.length cb) := by rw [← i1]; simp
  have hW := Lib.hid hw2
  have P0 := Lib.hid (ueqval_c (ha0.up hw2) (hb0.up hw2))
  have eq := Lib.hid (obj_eq A B)
  clear ha hb hw1 hw2 i1 ha0 hb0
  generalize decide (A = B) = r at *
  go_enter Try.func31, Try.ntmps31
  go_upto_region 1 with fail
  generalize ((w.alloc (.cells #[.int .i64 A.cls, .slice fa A.flds.length ca] 51)).alloc (.cells #[.int .i64 B.cls, .slice fb B.flds.length cb] 51)) = W at *
  by_cases g : ¬ A.cls = B.cls
  · as_aux_lemma =>
    have d0 : (A.cls == B.cls) = false := by simpa using g
    rw [decide_eq_false g] at eq
    have e : Hid (r = false) := Lib.hid (by rw [eq.out]; simp)
    clear g
    go_wp2
    go_ret
    exact ⟨congrArg (fun b => Ending.returned (Value.bool b)) e.out.symm, hW.out⟩
  replace g : A.cls = B.cls := Decidable.not_not.1 g
  have d0 : (A.cls == B.cls) = true := by simpa using g
  rw [decide_eq_true g, Bool.true_and] at eq
  clear g
  have PQ0 := P0
  clear P0
  generalize decide (A.flds = B.flds) = q at *
  go_wp2_with (first | (go_at_call 49; ((with_reducible refine (PQ0.out).mono ?_); rintro e1 w2 ⟨rfl, hb0⟩)))
  go_ret
  exact ⟨congrArg (fun b => Ending.returned (Value.bool b)) eq.out.symm, hW.out.trans (hb0.mono hW.out.size)⟩
end Wd
end Go.Proofs.Ytgfdgdbkifkehaa

/- The landed programs: are two rows of classes, of methods, of objects the same? -/
namespace Go.Proofs.Ytgfdgdbkifkehaa
open Go.RowKit
set_option linter.unusedVariables false
set_option maxRecDepth 20000
namespace Wd
set_option maxHeartbeats 16000000 in
theorem uefcls_c {w : World} {a b : Value} {A B : List ClassA} (ha : ClV w a A) (hb : ClV w b B) :
    Calls Try.prog 26 #[a, b, .func (.func 27) #[] #[]] w fun e w' => e = .returned (.bool (decide (A = B))) ∧ Below w.heap.size w w' := by
  obtain ⟨aa, ac, rfl, ha1, ha2, _⟩ := ha.ex
  obtain ⟨ba, bc, rfl, hb1, hb2, _⟩ := hb.ex
  have hle := len_le (Nat.le_trans ha1 ha2)
  by_cases hl : A.length = B.length
  · have hl' : ((A.length : Int) != (B.length : Int)) = false := by simp [hl]
    obtain ⟨n, hn⟩ : ∃ n, n = A.length := ⟨_, rfl⟩
    obtain ⟨m, hm⟩ : ∃ m, m = B.length := ⟨_, rfl⟩
    have hn' := Lib.hid hn
    have hm' := Lib.hid hm
    have hnm := Lib.hid (show n = m by omega)
    rw [← hn] at ha hle hl' ⊢
    rw [← hm] at hb hl' ⊢
    replace ha := Lib.hid ha
    replace hb := Lib.hid hb
    have hst := Lib.hid (EqR.start A B)
    clear hl hn hm ha1 ha2 hb1 hb2
    go_enter Try.func26, Try.ntmps26
    go_wp2
    go_loopw [17] (fun i wr => ∃ (k : Nat), k ≤ n ∧ i = .int .i64 k ∧ Hid (EqR A B k) ∧ Hid (Below w.heap.size w wr)) (fun i _ => n - (intOf i).toNat)
    case atStart => exact ⟨0, by omega, rfl, hst, Lib.hid (Below.refl _ _)⟩
    case round =>
      clear hst
      obtain ⟨k, hk, rfl, hE, hB⟩ := hrel
      by_cases hlt : k < n
      · have hlt' : decide ((k : Int) < (n : Int)) = true := by simp; omega
        have p0 : (0 : Int) ≤ (k : Int) := by omega
        have p1 : (k : Int) < (n : Int) := by omega
        have p2 : (k : Int) < (m : Int) := by have := hnm.out; omega
        obtain ⟨x, hx⟩ : ∃ x, A[k]? = some x := ⟨A[k]'(by have := hn'.out; omega), by simp⟩
        obtain ⟨y, hy⟩ : ∃ x, B[k]? = some x := ⟨B[k]'(by have := hm'.out; omega), by simp⟩
        obtain ⟨_, _, g1, o1, v1, rfl, c0, c1, c2, c3, p1⟩ := ClV.at (ha.out.up hB.out) hx
        obtain ⟨l1, m1, rfl, _, _⟩ := p1.form
        have kx : ClK wr (.agg #[.string x.nm, .int .i64 x.super, .int .i64 x.fields, .slice l1 x.binds.length m1]) x := ⟨_, _, rfl, p1⟩
        obtain ⟨_, _, g2, o2, v2, rfl, d0, d1, d2, d3, p2⟩ := ClV.at (hb.out.up hB.out) hy
        obtain ⟨l2, m2, rfl, _, _⟩ := p2.form
        have ky : ClK wr (.agg #[.string y.nm, .int .i64 y.super, .int .i64 y.fields, .slice l2 y.binds.length m2]) y := ⟨_, _, rfl, p2⟩
        have hxH := Lib.hid hx
        have hyH := Lib.hid hy
        have b1 := (Below.refl wr.heap.size wr).alloc (Nat.le_refl _) (.cells #[.string x.nm, .int .i64 x.super, .int .i64 x.fields, .slice l1 x.binds.length m1] 37)
        have b2 := b1.alloc (by simp only [World.size_alloc]; omega) (.cells #[.string y.nm, .int .i64 y.super, .int .i64 y.fields, .slice l2 y.binds.length m2] 37)
        replace d0 := cell_up b1 d0
        replace d1 := cell_up b1 d1
        replace d2 := cell_up b1 d2
        replace d3 := cell_up b1 d3
        have hB2 := Lib.hid (hB.out.trans (b2.mono hB.out.size))
        have PC := Lib.hid (usclass_c (kx.up b2) (ky.up b2))
        have eQ : ∀ q, decide (x = y) = q → Hid (decide (x = y) = q) := fun q h => Lib.hid h
        clear hx hy hlt b1 b2 kx ky
        cases q : decide (x = y) with
        | true =>
          as_aux_lemma =>
          have hE' := Lib.hid (hE.out.step hxH.out hyH.out (of_decide_eq_true q))
          rw [q] at PC
          clear q eQ
          go_wp2_with (first | (go_at_call 27; ((with_reducible refine PC.out.mono ?_); rintro e1 w2 ⟨rfl, hb3⟩)))
          go_roundw
          case rel => exact ⟨k + 1, by omega, by go_num, hE', Lib.hid (hB2.out.trans (hb3.mono hB2.out.size))⟩
          case measure => simp [intOf]; omega
        | false =>
          as_aux_lemma =>
          have e := Lib.hid (eq_not hxH.out hyH.out (of_decide_eq_false q))
          rw [q] at PC
          clear q eQ
          go_wp2_with (first | (go_at_call 27; ((with_reducible refine PC.out.mono ?_); rintro e1 w2 ⟨rfl, hb3⟩)))
          go_ret
          exact ⟨congrArg (fun b => Ending.returned (Value.bool b)) e.out.symm, hB2.out.trans (hb3.mono hB2.out.size)⟩
      · have e := Lib.hid (EqR.last (A := A) (B := B) (n := n) (by have := hE.out; rw [show k = n by omega] at this; exact this) hn'.out (by rw [hnm.out]; exact hm'.out))
        have hlt' : decide ((k : Int) < (n : Int)) = false := by simp; omega
        go_wp2
        go_ret
        exact ⟨congrArg (fun b => Ending.returned (Value.bool b)) e.out.symm, hB.out⟩
  · have hl' : ((A.length : Int) != (B.length : Int)) = true := by simp; omega
    have e := Lib.hid (eq_len hl)
    clear hl
    go_enter Try.func26, Try.ntmps26
    go_wp2
    go_ret
    exact ⟨congrArg (fun b => Ending.returned (Value.bool b)) e.out.symm, Below.refl _ _⟩
set_option maxHeartbeats 16000000 in
theorem uefmet_c {w : World} {a b : Value} {A B : List MethA} (ha : MtV w a A) (hb : MtV w b B) :
    Calls Try.prog 28 #[a, b, .func (.func 29) #[] #[]] w fun e w' => e = .returned (.bool (decide (A = B))) ∧ Below w.heap.size w w' := by
  obtain ⟨aa, ac, rfl, ha1, ha2, _⟩ := ha.ex
  obtain ⟨ba, bc, rfl, hb1, hb2, _⟩ := hb.ex
  have hle := len_le (Nat.le_trans ha1 ha2)
  by_cases hl : A.length = B.length
  · have hl' : ((A.length : Int) != (B.length : Int)) = false := by simp [hl]
    obtain ⟨n, hn⟩ : ∃ n, n = A.length := ⟨_, rfl⟩
    obtain ⟨m, hm⟩ : ∃ m, m = B.length := ⟨_, rfl⟩
    have hn' := Lib.hid hn
    have hm' := Lib.hid hm
    have hnm := Lib.hid (show n = m by omega)
    rw [← hn] at ha hle hl' ⊢
    rw [← hm] at hb hl' ⊢
    replace ha := Lib.hid ha
    replace hb := Lib.hid hb
    have hst := Lib.hid (EqR.start A B)
    clear hl hn hm ha1 ha2 hb1 hb2
    go_enter Try.func28, Try.ntmps28
    go_wp2
    go_loopw [17] (fun i wr => ∃ (k : Nat), k ≤ n ∧ i = .int .i64 k ∧ Hid (EqR A B k) ∧ Hid (Below w.heap.size w wr)) (fun i _ => n - (intOf i).toNat)
    case atStart => exact ⟨0, by omega, rfl, hst, Lib.hid (Below.refl _ _)⟩
    case round =>
      clear hst
      obtain ⟨k, hk, rfl, hE, hB⟩ := hrel
      by_cases hlt : k < n
      · have hlt' : decide ((k : Int) < (n : Int)) = true := by simp; omega
        have p0 : (0 : Int) ≤ (k : Int) := by omega
        have p1 : (k : Int) < (n : Int) := by omega
        have p2 : (k : Int) < (m : Int) := by have := hnm.out; omega
        obtain ⟨x, hx⟩ : ∃ x, A[k]? = some x := ⟨A[k]'(by have := hn'.out; omega), by simp⟩
        obtain ⟨y, hy⟩ : ∃ x, B[k]? = some x := ⟨B[k]'(by have := hm'.out; omega), by simp⟩
        obtain ⟨g1, o1, l1, m1, s1, t1, rfl, c0, c1, c2, c3, kx⟩ := MtV.at (ha.out.up hB.out) hx
        obtain ⟨g2, o2, l2, m2, s2, t2, rfl, d0, d1, d2, d3, ky⟩ := MtV.at (hb.out.up hB.out) hy
        have hxH := Lib.hid hx
        have hyH := Lib.hid hy
        have b1 := (Below.refl wr.heap.size wr).alloc (Nat.le_refl _) (.cells #[.int .i64 x.args, .int .i64 x.temps, .slice l1 x.lits.length m1, .slice s1 x.code.length t1] 47)
        have b2 := b1.alloc (by simp only [World.size_alloc]; omega) (.cells #[.int .i64 y.args, .int .i64 y.temps, .slice l2 y.lits.length m2, .slice s2 y.code.length t2] 47)
        replace d0 := cell_up b1 d0
        replace d1 := cell_up b1 d1
        replace d2 := cell_up b1 d2
        replace d3 := cell_up b1 d3
        have hB2 := Lib.hid (hB.out.trans (b2.mono hB.out.size))
        have PC := Lib.hid (usmeth_c (kx.up b2) (ky.up b2))
        have eQ : ∀ q, decide (x = y) = q → Hid (decide (x = y) = q) := fun q h => Lib.hid h
        clear hx hy hlt b1 b2 kx ky
        cases q : decide (x = y) with
        | true =>
          as_aux_lemma =>
          have hE' := Lib.hid (hE.out.step hxH.out hyH.out (of_decide_eq_true q))
          rw [q] at PC
          clear q eQ
          go_wp2_with (first | (go_at_call 29; ((with_reducible refine PC.out.mono ?_); rintro e1 w2 ⟨rfl, hb3⟩)))
          go_roundw
          case rel => exact ⟨k + 1, by omega, by go_num, hE', Lib.hid (hB2.out.trans (hb3.mono hB2.out.size))⟩
          case measure => simp [intOf]; omega
        | false =>
          as_aux_lemma =>
          have e := Lib.hid (eq_not hxH.out hyH.out (of_decide_eq_false q))
          rw [q] at PC
          clear q eQ
          go_wp2_with (first | (go_at_call 29; ((with_reducible refine PC.out.mono ?_); rintro e1 w2 ⟨rfl, hb3⟩)))
          go_ret
          exact ⟨congrArg (fun b => Ending.returned (Value.bool b)) e.out.symm, hB2.out.trans (hb3.mono hB2.out.size)⟩
      · have e := Lib.hid (EqR.last (A := A) (B := B) (n := n) (by have := hE.out; rw [show k = n by omega] at this; exact this) hn'.out (by rw [hnm.out]; exact hm'.out))
        have hlt' : decide ((k : Int) < (n : Int)) = false := by simp; omega
        go_wp2
        go_ret
        exact ⟨congrArg (fun b => Ending.returned (Value.bool b)) e.out.symm, hB.out⟩
  · have hl' : ((A.length : Int) != (B.length : Int)) = true := by simp; omega
    have e := Lib.hid (eq_len hl)
    clear hl
    go_enter Try.func28, Try.ntmps28
    go_wp2
    go_ret
    exact ⟨congrArg (fun b => Ending.returned (Value.bool b)) e.out.symm, Below.refl _ _⟩
set_option maxHeartbeats 16000000 in
theorem uefobj_c {w : World} {a b : Value} {A B : List ObjA} (ha : ObV w a A) (hb : ObV w b B) :
    Calls Try.prog 30 #[a, b, .func (.func 31) #[] #[]] w fun e w' => e = .returned (.bool (decide (A = B))) ∧ Below w.heap.size w w' := by
  obtain ⟨aa, ac, rfl, ha1, ha2, _⟩ := ha.ex
  obtain ⟨ba, bc, rfl, hb1, hb2, _⟩ := hb.ex
  have hle := len_le (Nat.le_trans ha1 ha2)
  by_cases hl : A.length = B.length
  · have hl' : ((A.length : Int) != (B.length : Int)) = false := by simp [hl]
    obtain ⟨n, hn⟩ : ∃ n, n = A.length := ⟨_, rfl⟩
    obtain ⟨m, hm⟩ : ∃ m, m = B.length := ⟨_, rfl⟩
    have hn' := Lib.hid hn
    have hm' := Lib.hid hm
    have hnm := Lib.hid (show n = m by omega)
    rw [← hn] at ha hle hl' ⊢
    rw [← hm] at hb hl' ⊢
    replace ha := Lib.hid ha
    replace hb := Lib.hid hb
    have hst := Lib.hid (EqR.start A B)
    clear hl hn hm ha1 ha2 hb1 hb2
    go_enter Try.func30, Try.ntmps30
    go_wp2
    go_loopw [17] (fun i wr => ∃ (k : Nat), k ≤ n ∧ i = .int .i64 k ∧ Hid (EqR A B k) ∧ Hid (Below w.heap.size w wr)) (fun i _ => n - (intOf i).toNat)
    case atStart => exact ⟨0, by omega, rfl, hst, Lib.hid (Below.refl _ _)⟩
    case round =>
      clear hst
      obtain ⟨k, hk, rfl, hE, hB⟩ := hrel
      by_cases hlt : k < n
      · have hlt' : decide ((k : Int) < (n : Int)) = true := by simp; omega
        have p0 : (0 : Int) ≤ (k : Int) := by omega
        have p1 : (k : Int) < (n : Int) := by omega
        have p2 : (k : Int) < (m : Int) := by have := hnm.out; omega
        obtain ⟨x, hx⟩ : ∃ x, A[k]? = some x := ⟨A[k]'(by have := hn'.out; omega), by simp⟩
        obtain ⟨y, hy⟩ : ∃ x, B[k]? = some x := ⟨B[k]'(by have := hm'.out; omega), by simp⟩
        obtain ⟨i1, g1, o1, v1, rfl, c0, c1, p1⟩ := ObV.at (ha.out.up hB.out) hx
        obtain ⟨l1, m1, rfl, _, _⟩ := p1.form
        have kx : ObK wr (.agg #[.int .i64 x.cls, .slice l1 x.flds.length m1]) x := ⟨i1, _, _, rfl, p1⟩
        obtain ⟨i2, g2, o2, v2, rfl, d0, d1, p2⟩ := ObV.at (hb.out.up hB.out) hy
        obtain ⟨l2, m2, rfl, _, _⟩ := p2.form
        have ky : ObK wr (.agg #[.int .i64 y.cls, .slice l2 y.flds.length m2]) y := ⟨i2, _, _, rfl, p2⟩
        have hxH := Lib.hid hx
        have hyH := Lib.hid hy
        have b1 := (Below.refl wr.heap.size wr).alloc (Nat.le_refl _) (.cells #[.int .i64 x.cls, .slice l1 x.flds.length m1] 51)
        have b2 := b1.alloc (by simp only [World.size_alloc]; omega) (.cells #[.int .i64 y.cls, .slice l2 y.flds.length m2] 51)
        replace d0 := cell_up b1 d0
        replace d1 := cell_up b1 d1
        have hB2 := Lib.hid (hB.out.trans (b2.mono hB.out.size))
        have PC := Lib.hid (usobj_c (kx.up b2) (ky.up b2))
        have eQ : ∀ q, decide (x = y) = q → Hid (decide (x = y) = q) := fun q h => Lib.hid h
        clear hx hy hlt b1 b2 kx ky
        cases q : decide (x = y) with
        | true =>
          as_aux_lemma =>
          have hE' := Lib.hid (hE.out.step hxH.out hyH.out (of_decide_eq_true q))
          rw [q] at PC
          clear q eQ
          go_wp2_with (first | (go_at_call 31; ((with_reducible refine PC.out.mono ?_); rintro e1 w2 ⟨rfl, hb3⟩)))
          go_roundw
          case rel => exact ⟨k + 1, by omega, by go_num, hE', Lib.hid (hB2.out.trans (hb3.mono hB2.out.size))⟩
          case measure => simp [intOf]; omega
        | false =>
          as_aux_lemma =>
          have e := Lib.hid (eq_not hxH.out hyH.out (of_decide_eq_false q))
          rw [q] at PC
          clear q eQ
          go_wp2_with (first | (go_at_call 31; ((with_reducible refine PC.out.mono ?_); rintro e1 w2 ⟨rfl, hb3⟩)))
          go_ret
          exact ⟨congrArg (fun b => Ending.returned (Value.bool b)) e.out.symm, hB2.out.trans (hb3.mono hB2.out.size)⟩
      · have e := Lib.hid (EqR.last (A := A) (B := B) (n := n) (by have := hE.out; rw [show k = n by omega] at this; exact this) hn'.out (by rw [hnm.out]; exact hm'.out))
        have hlt' : decide ((k : Int) < (n : Int)) = false := by simp; omega
        go_wp2
        go_ret
        exact ⟨congrArg (fun b => Ending.returned (Value.bool b)) e.out.symm, hB.out⟩
  · have hl' : ((A.length : Int) != (B.length : Int)) = true := by simp; omega
    have e := Lib.hid (eq_len hl)
    clear hl
    go_enter Try.func30, Try.ntmps30
    go_wp2
    go_ret
    exact ⟨congrArg (fun b => Ending.returned (Value.bool b)) e.out.symm, Below.refl _ _⟩
end Wd
end Go.Proofs.Ytgfdgdbkifkehaa

/- The landed programs: are two programs the same? -/
namespace Go.Proofs.Ytgfdgdbkifkehaa
open Go.RowKit
set_option linter.unusedVariables false
set_option maxRecDepth 20000
namespace Wd
/-- two programs lie boxed -/
structure U2 (w wr : World) (U V : UnitA) (na ka ma oa pa qa ra sa : Option Addr) (n1 n2 n3 n4 m1 m2 m3 m4 nc kc mc oc pc qc rc sc : Nat) : Prop where
  mk ::
  ca : wr.cell? ⟨w.heap.size, 0, none⟩ = some (.slice na n1 nc) ∧ wr.cell? ⟨w.heap.size, 1, none⟩ = some (.slice ka n2 kc) ∧ wr.cell? ⟨w.heap.size, 2, none⟩ = some (.slice ma n3 mc) ∧ wr.cell? ⟨w.heap.size, 3, none⟩ = some (.slice oa n4 oc) ∧ wr.cell? ⟨w.heap.size, 4, none⟩ = some (.int .i64 U.main)
  cb : wr.cell? ⟨w.heap.size + 1, 0, none⟩ = some (.slice pa m1 pc) ∧ wr.cell? ⟨w.heap.size + 1, 1, none⟩ = some (.slice qa m2 qc) ∧ wr.cell? ⟨w.heap.size + 1, 2, none⟩ = some (.slice ra m3 rc) ∧ wr.cell? ⟨w.heap.size + 1, 3, none⟩ = some (.slice sa m4 sc) ∧ wr.cell? ⟨w.heap.size + 1, 4, none⟩ = some (.int .i64 V.main)
  va : NmV wr (.slice na n1 nc) U.names ∧ ClV wr (.slice ka n2 kc) U.classes ∧ MtV wr (.slice ma n3 mc) U.methods ∧ ObV wr (.slice oa n4 oc) U.objects
  vb : NmV wr (.slice pa m1 pc) V.names ∧ ClV wr (.slice qa m2 qc) V.classes ∧ MtV wr (.slice ra m3 rc) V.methods ∧ ObV wr (.slice sa m4 sc) V.objects
  bel : Below w.heap.size w wr
theorem U2.up {w wr w2 : World} {U V : UnitA} {na ka ma oa pa qa ra sa : Option Addr} {n1 n2 n3 n4 m1 m2 m3 m4 nc kc mc oc pc qc rc sc : Nat} (h : U2 w wr U V na ka ma oa pa qa ra sa n1 n2 n3 n4 m1 m2 m3 m4 nc kc mc oc pc qc rc sc) (b : Below wr.heap.size wr w2) : U2 w w2 U V na ka ma oa pa qa ra sa n1 n2 n3 n4 m1 m2 m3 m4 nc kc mc oc pc qc rc sc := by
  obtain ⟨a0, a1, a2, a3, a4⟩ := h.ca
  obtain ⟨b0, b1, b2, b3, b4⟩ := h.cb
  obtain ⟨v0, v1, v2, v3⟩ := h.va
  obtain ⟨u0, u1, u2, u3⟩ := h.vb
  exact ⟨⟨cell_up b a0, cell_up b a1, cell_up b a2, cell_up b a3, cell_up b a4⟩, ⟨cell_up b b0, cell_up b b1, cell_up b b2, cell_up b b3, cell_up b b4⟩, ⟨v0.up b, v1.up b, v2.up b, v3.up b⟩, ⟨u0.up b, u1.up b, u2.up b, u3.up b⟩, h.bel.trans (b.mono h.bel.size)⟩
theorem u2_ex {w : World} {a b : Value} {U V : UnitA} (ha : UnK w a U) (hb : UnK w b V) : ∃ na ka ma oa pa qa ra sa n1 n2 n3 n4 m1 m2 m3 m4 nc kc mc oc pc qc rc sc, a = .agg #[.slice na n1 nc, .slice ka n2 kc, .slice ma n3 mc, .slice oa n4 oc, .int .i64 U.main] ∧ b = .agg #[.slice pa m1 pc, .slice qa m2 qc, .slice ra m3 rc, .slice sa m4 sc, .int .i64 V.main] ∧ U2 w ((w.alloc (.cells #[.slice na n1 nc, .slice ka n2 kc, .slice ma n3 mc, .slice oa n4 oc, .int .i64 U.main] 28)).alloc (.cells #[.slice pa m1 pc, .slice qa m2 qc, .slice ra m3 rc, .slice sa m4 sc, .int .i64 V.main] 28)) U V na ka ma oa pa qa ra sa n1 n2 n3 n4 m1 m2 m3 m4 nc kc mc oc pc qc rc sc := by
  obtain ⟨na, nc, ka, kc, ma, mc, oa, oc, rfl, v0, v1, v2, v3⟩ := ha.ex
  obtain ⟨pa, pc, qa, qc, ra, rc, sa, sc, rfl, u0, u1, u2, u3⟩ := hb.ex
  have hw1 := (Below.refl w.heap.size w).alloc (Nat.le_refl _) (.cells #[.slice na U.names.length nc, .slice ka U.classes.length kc, .slice ma U.methods.length mc, .slice oa U.objects.length oc, .int .i64 U.main] 28)
  have hw2 := hw1.alloc (by simp only [World.size_alloc]; omega) (.cells #[.slice pa V.names.length pc, .slice qa V.classes.length qc, .slice ra V.methods.length rc, .slice sa V.objects.length sc, .int .i64 V.main] 28)
  have i1 : (w.alloc (.cells #[.slice na U.names.length nc, .slice ka U.classes.length kc, .slice ma U.methods.length mc, .slice oa U.objects.length oc, .int .i64 U.main] 28)).heap.size = w.heap.size + 1 := by simp
  refine ⟨na, ka, ma, oa, pa, qa, ra, sa, _, _, _, _, _, _, _, _, nc, kc, mc, oc, pc, qc, rc, sc, rfl, rfl, ⟨⟨?_, ?_, ?_, ?_, ?_⟩, ⟨?_, ?_, ?_, ?_, ?_⟩, ⟨v0.up hw2, v1.up hw2, v2.up hw2, v3.up hw2⟩, ⟨u0.up hw2, u1.up hw2, u2.up hw2, u3.up hw2⟩, hw2⟩⟩
  · exact (World.cell?_alloc_old _ _ _ (by simp)).trans (by simp)
  · exact (World.cell?_alloc_old _ _ _ (by simp)).trans (by simp)
  · exact (World.cell?_alloc_old _ _ _ (by simp)).trans (by simp)
  · exact (World.cell?_alloc_old _ _ _ (by simp)).trans (by simp)
  · exact (World.cell?_alloc_old _ _ _ (by simp)).trans (by simp)
  · rw [← i1]; simp
  · rw [← i1]; simp
  · rw [← i1]; simp
  · rw [← i1]; simp
  · rw [← i1]; simp
set_option maxHeartbeats 32000000 in
theorem usameU_c {w : World} {a b : Value} {U V : UnitA} (ha : UnK w a U) (hb : UnK w b V) :
    Calls Try.prog 12 #[a, b] w fun e w' => e = .returned (.bool (sameU U V)) ∧ Below w.heap.size w w' := by
  obtain ⟨na, ka, ma, oa, pa, qa, ra, sa, n1, n2, n3, n4, m1, m2, m3, m4, nc, kc, mc, oc, pc, qc, rc, sc, rfl, rfl, hS⟩ := u2_ex ha hb
  clear ha hb
  have eq : Hid (sameU U V = (decide (U.main = V.main) && (decide (U.names = V.names) && (decide (U.classes = V.classes) && (decide (U.methods = V.methods) && decide (U.objects = V.objects)))))) := Lib.hid (by
    unfold sameU
    cases decide (U.main = V.main) <;> cases decide (U.names = V.names) <;> cases decide (U.classes = V.classes) <;> cases decide (U.methods = V.methods) <;> cases decide (U.objects = V.objects) <;> rfl)
  replace hS := Lib.hid hS
  generalize sameU U V = r at *
  have P1 := Lib.hid (fun (w' : World) (h1 : NmV w' (.slice na n1 nc) U.names) (h2 : NmV w' (.slice pa m1 pc) V.names) => ueqstr_c h1 h2)
  have P2 := Lib.hid (fun (w' : World) (h1 : ClV w' (.slice ka n2 kc) U.classes) (h2 : ClV w' (.slice qa m2 qc) V.classes) => uefcls_c h1 h2)
  have P3 := Lib.hid (fun (w' : World) (h1 : MtV w' (.slice ma n3 mc) U.methods) (h2 : MtV w' (.slice ra m3 rc) V.methods) => uefmet_c h1 h2)
  have P4 := Lib.hid (fun (w' : World) (h1 : ObV w' (.slice oa n4 oc) U.objects) (h2 : ObV w' (.slice sa m4 sc) V.objects) => uefobj_c h1 h2)
  go_enter Try.func12, Try.ntmps12
  go_upto_region 1 with fail
  generalize ((w.alloc (.cells #[.slice na n1 nc, .slice ka n2 kc, .slice ma n3 mc, .slice oa n4 oc, .int .i64 U.main] 28)).alloc (.cells #[.slice pa m1 pc, .slice qa m2 qc, .slice ra m3 rc, .slice sa m4 sc, .int .i64 V.main] 28)) = W at *
  obtain ⟨a0, a1, a2, a3, a4⟩ := hS.out.ca
  obtain ⟨b0, b1, b2, b3, b4⟩ := hS.out.cb
  by_cases g : ¬ U.main = V.main
  · as_aux_lemma =>
    have d : (U.main == V.main) = false := by simpa using g
    rw [decide_eq_false g] at eq
    have e : Hid (r = false) := Lib.hid (by rw [eq.out]; rfl)
    clear g
    go_wp2
    go_ret
    exact ⟨congrArg (fun b => Ending.returned (Value.bool b)) e.out.symm, hS.out.bel⟩
  replace g : U.main = V.main := Decidable.not_not.1 g
  have d : (U.main == V.main) = true := by simpa using g
  rw [decide_eq_true g, Bool.true_and] at eq
  clear g
  go_wp2_with fail
  refine (P1.out _ hS.out.va.1 hS.out.vb.1).mono ?_
  rintro e w2 ⟨rfl, hq⟩
  replace hS := Lib.hid (hS.out.up hq)
  clear hq a0 a1 a2 a3 a4 b0 b1 b2 b3 b4 P1
  obtain ⟨a0, a1, a2, a3, a4⟩ := hS.out.ca
  obtain ⟨b0, b1, b2, b3, b4⟩ := hS.out.cb
  generalize decide (U.names = V.names) = q at *
  cases q with
  | false =>
    as_aux_lemma =>
    have e : Hid (r = false) := Lib.hid (by rw [eq.out]; rfl)
    go_wp2
    go_ret
    exact ⟨congrArg (fun b => Ending.returned (Value.bool b)) e.out.symm, hS.out.bel⟩
  | true =>
  rw [Bool.true_and] at eq
  go_wp2_with fail
  refine (P2.out _ hS.out.va.2.1 hS.out.vb.2.1).mono ?_
  rintro e w3 ⟨rfl, hq⟩
  replace hS := Lib.hid (hS.out.up hq)
  clear hq a0 a1 a2 a3 a4 b0 b1 b2 b3 b4 P2
  obtain ⟨a0, a1, a2, a3, a4⟩ := hS.out.ca
  obtain ⟨b0, b1, b2, b3, b4⟩ := hS.out.cb
  generalize decide (U.classes = V.classes) = q at *
  cases q with
  | false =>
    as_aux_lemma =>
    have e : Hid (r = false) := Lib.hid (by rw [eq.out]; rfl)
    go_wp2
    go_ret
    exact ⟨congrArg (fun b => Ending.returned (Value.bool b)) e.out.symm, hS.out.bel⟩
  | true =>
  rw [Bool.true_and] at eq
  go_wp2_with fail
  refine (P3.out _ hS.out.va.2.2.1 hS.out.vb.2.2.1).mono ?_
  rintro e w4 ⟨rfl, hq⟩
  replace hS := Lib.hid (hS.out.up hq)
  clear hq a0 a1 a2 a3 a4 b0 b1 b2 b3 b4 P3
  obtain ⟨a0, a1, a2, a3, a4⟩ := hS.out.ca
  obtain ⟨b0, b1, b2, b3, b4⟩ := hS.out.cb
  generalize decide (U.methods = V.methods) = q at *
  cases q with
  | false =>
    as_aux_lemma =>
    have e : Hid (r = false) := Lib.hid (by rw [eq.out]; rfl)
    go_wp2
    go_ret
    exact ⟨congrArg (fun b => Ending.returned (Value.bool b)) e.out.symm, hS.out.bel⟩
  | true =>
  rw [Bool.true_and] at eq
  go_wp2_with fail
  refine (P4.out _ hS.out.va.2.2.2 hS.out.vb.2.2.2).mono ?_
  rintro e w5 ⟨rfl, hq⟩
  replace hS := Lib.hid (hS.out.up hq)
  clear hq a0 a1 a2 a3 a4 b0 b1 b2 b3 b4 P4
  obtain ⟨a0, a1, a2, a3, a4⟩ := hS.out.ca
  obtain ⟨b0, b1, b2, b3, b4⟩ := hS.out.cb
  generalize decide (U.objects = V.objects) = q at *
  go_wp2
  go_ret
  exact ⟨congrArg (fun b => Ending.returned (Value.bool b)) eq.out.symm, hS.out.bel⟩
end Wd
end Go.Proofs.Ytgfdgdbkifkehaa

/- What the laws ask of the package's instructions. -/
namespace Go.Proofs.Ytgfdgdbkifkehaa
open Go.RowKit
set_option linter.unusedVariables false
set_option maxRecDepth 20000
namespace Wd
theorem range4 {w : World} {q : Nat} {a b c d : Value} (h0 : w.cell? ⟨q, 0, none⟩ = some a) (h1 : w.cell? ⟨q, 1, none⟩ = some b) (h2 : w.cell? ⟨q, 2, none⟩ = some c) (h3 : w.cell? ⟨q, 3, none⟩ = some d) : w.rangeAt q 0 [a, b, c, d] := by
  intro j v hj
  match j, hj with
  | 0, hj => simp at hj; subst hj; exact h0
  | 1, hj => simp at hj; subst hj; exact h1
  | 2, hj => simp at hj; subst hj; exact h2
  | 3, hj => simp at hj; subst hj; exact h3
  | j + 4, hj => simp at hj
theorem MeB.range {w : World} {q : Nat} {v : Value} {m : MethA} {la ca : Option Addr} {lc cc : Nat} (h : MeB w q v m la ca lc cc) : w.rangeAt q 0 [.int .i64 m.args, .int .i64 m.temps, .slice la m.lits.length lc, .slice ca m.code.length cc] := range4 h.c0 h.c1 h.c2 h.c3
/-- what same holds at its comparisons -/
structure SmS (w0 wr : World) (q q2 q7 : Nat) (v u : Value) (m : MethA) (U : UnitA) (la ca na ka ma oa : Option Addr) (lc cc nc kc mc oc : Nat) (x y : Int) : Prop where
  ms : MSt w0 wr q q2 v u m U la ca na ka ma oa lc cc nc kc mc oc
  x0 : wr.cell? ⟨q7, 0, none⟩ = some (.int .i64 x)
  x1 : wr.cell? ⟨q7, 1, none⟩ = some (.int .i64 y)
theorem SmS.up {w0 w w1 : World} {q q2 q7 : Nat} {v u : Value} {m : MethA} {U : UnitA} {la ca na ka ma oa : Option Addr} {lc cc nc kc mc oc : Nat} {x y : Int} (h : SmS w0 w q q2 q7 v u m U la ca na ka ma oa lc cc nc kc mc oc x y) (b : Below w.heap.size w w1) : SmS w0 w1 q q2 q7 v u m U la ca na ka ma oa lc cc nc kc mc oc x y :=
  ⟨h.ms.up b, cell_up b h.x0, cell_up b h.x1⟩
theorem SmS.born {w0 w : World} {q q2 : Nat} {v u : Value} {m : MethA} {U : UnitA} {la ca na ka ma oa : Option Addr} {lc cc nc kc mc oc : Nat} (h : MSt w0 w q q2 v u m U la ca na ka ma oa lc cc nc kc mc oc) (x y : Int) (T : TypeId) : SmS w0 (w.alloc (.cells #[.int .i64 x, .int .i64 y] T)) q q2 w.heap.size v u m U la ca na ka ma oa lc cc nc kc mc oc x y :=
  ⟨h.up ((Below.refl _ _).alloc (Nat.le_refl _) _), by simp, by simp⟩
end Wd
end Go.Proofs.Ytgfdgdbkifkehaa
