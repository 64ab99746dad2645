/- Texts joined: VField, VRead, EK0, VShade, VGrey, VSwap, VScan, VFlip, VPut, VWrite. -/
import Derived.Test.YtdaojohdmidemaaJ2
import Derived.Test.YtdaojohdmidemaaJ5
/- The landed memory: where a field stands. -/
namespace Go.Proofs.Ytdaojohdmidemaa
open Go.RowKit Go.Maps
set_option linter.unusedVariables false
set_option maxRecDepth 20000
namespace Wd
theorem len_fits {s : Nat} (hs : s < 5) {l : Nat} (h : fo (l : Int) = (s : Int)) : l + 2 ≤ wN s ∧ l ≤ 62 := by
  have e : wN 0 = 4 ∧ wN 1 = 8 ∧ wN 2 = 16 ∧ wN 3 = 32 ∧ wN 4 = 64 := by decide
  rcases fo_cases (l : Int) with ⟨h1, h2⟩ | ⟨h0, h1, h2⟩ | ⟨h0, h1, h2⟩ | ⟨h0, h1, h2⟩ | ⟨h0, h1, h2⟩ | ⟨h0, h1, h2⟩ <;> rw [h2] at h <;> (first | (exfalso; omega) | skip)
  · obtain rfl : s = 0 := by omega
    omega
  · obtain rfl : s = 1 := by omega
    omega
  · obtain rfl : s = 2 := by omega
    omega
  · obtain rfl : s = 3 := by omega
    omega
  · obtain rfl : s = 4 := by omega
    omega
theorem nil_is (w : World) : Sem.run Try.prog (binOp .eql 36 (.slice none 0 0) (.slice none 0 0)) w = .ok (.bool true) w := by kernel_rfl
theorem nil_not (g a m c : Nat) (w : World) : Sem.run Try.prog (binOp .eql 36 (.slice (some ⟨g, a, none⟩) m c) (.slice none 0 0)) w = .ok (.bool false) w := by kernel_rfl
/-- an object that is there: its cell, its class, its fields -/
structure Ob (n : Nat → Nat) (H : Hst) (X : Nat → Nat → Int) (i : Int) (s c : Nat) (cl : Int) (L : List Int) : Prop where
  hh : hasT H.T i = true
  ha : atP H.T i = ((s : Int), (c : Int))
  s5 : s < 5
  cn : c < n s
  few : n s ≤ 512
  hC : H.C ((s : Int), (c : Int)) = (cl, L)
  e1 : hc (X s (c * wN s)) = cl
  e2 : hs (X s (c * wN s)) = L.length
  fit : L.length + 2 ≤ wN s
  l62 : L.length ≤ 62
  fs : ∀ j v, L[j]? = some v → X s (c * wN s + 2 + j) = v
  cb : 0 ≤ cl ∧ cl ≤ 4095
  lb : ∀ x ∈ L, 0 < x ∧ x ≤ 4294967295
section
variable {w w' : World} {p : Nat} {n : Nat → Nat} {B : Nat → Nat → Prop} {mp gw : Nat → Nat} {tb mt : Nat} {T : Tst} {M : Nat → Mst} {X : Nat → Nat → Int} {H : Hst} {i : Int} {s c : Nat} {cl : Int} {L : List Int}
theorem HQ.ob (h : HQ w p n H B mp gw tb mt X) {i : Int} (hh : hasT H.T i = true) : ∃ s c cl L, Ob n H X i s c cl L := by
  obtain ⟨k, s, c, rfl, h4, hk, hT, ha, s5, cn, few⟩ := h.inv.lies hh
  obtain ⟨w1, w2, w3⟩ := h.wr k s c hT s5 cn
  obtain ⟨c1, c2, c3⟩ := h.inv.cel k _ hT
  obtain ⟨f1, f2⟩ := len_fits s5 c1
  exact ⟨s, c, _, _, hh, ha, s5, cn, few, rfl, w1, w2, f1, f2, w3, c2, c3⟩
theorem Ob.cls (o : Ob n H X i s c cl L) : clsI H i = cl := by unfold clsI; rw [if_pos o.hh, o.ha, o.hC]
theorem Ob.fld (o : Ob n H X i s c cl L) : fldI H i = L.length := by unfold fldI; rw [if_pos o.hh, o.ha, o.hC]
theorem Ob.fsi (o : Ob n H X i s c cl L) : fsI H i = L := by unfold fsI; rw [if_pos o.hh, o.ha, o.hC]
theorem Ob.col (o : Ob n H X i s c cl L) : colI H i = colorR (H.M s) c := by unfold colI colP szP; rw [if_pos o.hh, o.ha]; simp
theorem HP.word (h : HP w p n B mp gw tb mt T M X) {s c k : Nat} (hs : s < 5) (hc : c < n s) (few : n s ≤ 512) (hk : k < wN s) : w.cell? ⟨gw s, c * wN s + k, none⟩ = some (.int .u32 (X s (c * wN s + k))) :=
  h.row s hs _ (by have := (cell_in hs hc few).1; omega)
set_option maxHeartbeats 4000000 in
theorem field_none (h : HQ w p n H B mp gw tb mt X) (i j : Int) (i0 : -9223372036854775808 ≤ i) (i1 : i ≤ 9223372036854775807) (j0 : -9223372036854775808 ≤ j) (j1 : j ≤ 9223372036854775807) (hh : hasT H.T i = false) :
    Calls Try.prog 30 #[.pointer (some ⟨p, 0, none⟩), .int .i64 i, .int .i64 j] w fun e w' => e = .returned (.pointer none) ∧ Below w.heap.size w w' := by
  have P := Lib.hid (object_no h i i0 i1 hh)
  clear h hh
  have hnil := nil_is
  go_enter Try.func30, Try.ntmps30
  go_wp2_with (first | (go_at_call 42; ((with_reducible refine (P.out).mono ?_); rintro e w1 ⟨rfl, hb⟩; replace hb := Lib.hid hb)))
  go_ret
  exact ⟨rfl, hb.out⟩
set_option maxHeartbeats 4000000 in
theorem field_out (h : HQ w p n H B mp gw tb mt X) (i j : Int) (i0 : -9223372036854775808 ≤ i) (i1 : i ≤ 9223372036854775807) (j0 : -9223372036854775808 ≤ j) (j1 : j ≤ 9223372036854775807) (o : Ob n H X i s c cl L) (hj : j < 0 ∨ (L.length : Int) ≤ j) :
    Calls Try.prog 30 #[.pointer (some ⟨p, 0, none⟩), .int .i64 i, .int .i64 j] w fun e w' => e = .returned (.pointer none) ∧ Below w.heap.size w w' := by
  have P := Lib.hid (object_yes h i0 i1 o.hh o.ha o.s5 o.cn)
  have c0 := h.hp.word o.s5 o.cn o.few (k := 0) (by have := o.fit; omega)
  have hx := h.hp.xb s (c * wN s)
  have hgs : gw s < w.heap.size := h.hp.lt _ _ (h.hp.bg s o.s5 (by have := o.cn; omega))
  rw [Nat.add_zero] at c0
  have PS := Lib.hid (Size_c (X s (c * wN s)) hx.1 hx.2)
  rw [o.e2] at PS
  have hW : 0 < wN s := by have := o.fit; omega
  have hl := o.l62
  clear h o
  unfold cellV at P
  generalize X s (c * wN s) = x at *
  generalize n s * wN s - c * wN s = cap at *
  generalize c * wN s = a at *
  generalize wN s = W at *
  generalize gw s = g at *
  generalize L.length = l at *
  have hnil := nil_not g a W cap
  rcases hj with hj | hj
  · have d1 : decide (j < 0) = true := by simpa using hj
    go_enter Try.func30, Try.ntmps30
    go_wp2_with (first | (go_at_call 42; ((with_reducible refine (P.out).mono ?_); rintro e w1 ⟨rfl, hb⟩; replace hb := Lib.hid hb)))
    go_ret
    exact ⟨rfl, hb.out⟩
  · have d1 : decide (j < 0) = false := by simp; omega
    have d2 : decide ((l : Int) ≤ j) = true := by simpa using hj
    have d3 : decide (j ≥ (l : Int)) = true := by simpa using hj
    go_enter Try.func30, Try.ntmps30
    go_wp2_with (first | (go_at_call 42; ((with_reducible refine (P.out).mono ?_); rintro e w1 ⟨rfl, hb⟩; have c1 := (hb.cell hgs).trans c0; replace hb := Lib.hid hb)) | (go_at_call 44; ((with_reducible refine (PS.out _).mono ?_); rintro e w2 ⟨rfl, hw2⟩; subst w2)))
    go_ret
    exact ⟨rfl, hb.out.drew⟩
set_option maxHeartbeats 4000000 in
theorem field_in (h : HQ w p n H B mp gw tb mt X) (i : Int) (j : Nat) (i0 : -9223372036854775808 ≤ i) (i1 : i ≤ 9223372036854775807) (o : Ob n H X i s c cl L) (hj : j < L.length) :
    Calls Try.prog 30 #[.pointer (some ⟨p, 0, none⟩), .int .i64 i, .int .i64 j] w fun e w' => e = .returned (.pointer (some ⟨gw s, c * wN s + (2 + j), none⟩)) ∧ Below w.heap.size w w' := by
  have P := Lib.hid (object_yes h i0 i1 o.hh o.ha o.s5 o.cn)
  have c0 := h.hp.word o.s5 o.cn o.few (k := 0) (by have := o.fit; omega)
  have hx := h.hp.xb s (c * wN s)
  have hgs : gw s < w.heap.size := h.hp.lt _ _ (h.hp.bg s o.s5 (by have := o.cn; omega))
  rw [Nat.add_zero] at c0
  have PS := Lib.hid (Size_c (X s (c * wN s)) hx.1 hx.2)
  rw [o.e2] at PS
  have hW : L.length + 2 ≤ wN s := o.fit
  have hl := o.l62
  clear h o
  unfold cellV at P
  generalize X s (c * wN s) = x at *
  generalize n s * wN s - c * wN s = cap at *
  generalize c * wN s = a at *
  generalize wN s = W at *
  generalize gw s = g at *
  generalize L.length = l at *
  have hnil := nil_not g a W cap
  have d1 : decide ((j : Int) < 0) = false := by simp
  have d2 : decide ((l : Int) ≤ (j : Int)) = false := by simp; omega
  have d3 : decide ((j : Int) ≥ (l : Int)) = false := by simp; omega
  have hw : IntKind.i64.wrap (2 + (j : Int)) = ((2 + j : Nat) : Int) := by rw [IntKind.wrap_i64]; omega
  have hW0 : 0 < W := by omega
  have hi : ((2 + j : Nat) : Int) < (W : Int) := by omega
  have hi2 : 2 + j < W := by omega
  go_enter Try.func30, Try.ntmps30
  go_wp2_with (first | (go_at_call 42; ((with_reducible refine (P.out).mono ?_); rintro e w1 ⟨rfl, hb⟩; have c1 := (hb.cell hgs).trans c0; replace hb := Lib.hid hb)) | (go_at_call 44; ((with_reducible refine (PS.out _).mono ?_); rintro e w2 ⟨rfl, hw2⟩; subst w2)))
  go_ret
  exact ⟨rfl, hb.out.drew⟩
end
end Wd
end Go.Proofs.Ytdaojohdmidemaa

/- The landed memory: Get, Class, Fields, Color, IDs, Cost. -/
namespace Go.Proofs.Ytdaojohdmidemaa
open Go.RowKit Go.Maps
set_option linter.unusedVariables false
set_option maxRecDepth 20000
namespace Wd
section
variable {w w' : World} {p : Nat} {n : Nat → Nat} {B : Nat → Nat → Prop} {mp gw : Nat → Nat} {tb mt : Nat} {T : Tst} {M : Nat → Mst} {X : Nat → Nat → Int} {H : Hst} {i : Int} {s c : Nat} {cl : Int} {L : List Int}
theorem HQ.count (h : HQ w p n H B mp gw tb mt X) (hm : Mt w' mt) (hc : Ch (fun k => k = mt) w w') : HQ w' p n H B mp gw tb mt X ∧ Ch (un B) w w' :=
  ⟨⟨(h.hp.cstep hm hc).1, h.wr, h.inv⟩, (h.hp.cstep hm hc).2⟩
theorem below_un {F : Nat → Prop} {w w' : World} (b : Below w.heap.size w w') : Ch F w w' := below_toCh F b
theorem fsI_no {H : Hst} {i : Int} (h : hasT H.T i = false) : fsI H i = [] := by unfold fsI; rw [h]; rfl
/-- what a call leaves that turns nothing but the meter -/
abbrev Kept (w w' : World) (p : Nat) (n : Nat → Nat) (H : Hst) (B : Nat → Nat → Prop) (mp gw : Nat → Nat) (tb mt : Nat) (X : Nat → Nat → Int) : Prop := HQ w' p n H B mp gw tb mt X ∧ Ch (un B) w w'
set_option maxHeartbeats 4000000 in
theorem vget_no (h : HQ w p n H B mp gw tb mt X) (i j : Int) (hF : Calls Try.prog 30 #[.pointer (some ⟨p, 0, none⟩), .int .i64 i, .int .i64 j] w fun e w' => e = .returned (.pointer none) ∧ Below w.heap.size w w') :
    Calls Try.prog 14 #[.pointer (some ⟨p, 0, none⟩), .int .i64 i, .int .i64 j] w fun e w' => e = .returned (.tuple #[.int .u32 0, .bool false]) ∧ Kept w w' p n H B mp gw tb mt X := by
  have P := Lib.hid hF
  replace h := Lib.hid h
  clear hF
  go_enter Try.func14, Try.ntmps14
  go_wp2_with (first | (go_at_call 30; ((with_reducible refine (P.out).mono ?_); rintro e w1 ⟨rfl, hb⟩; replace hb := Lib.hid hb)))
  go_returns
  exact ⟨rfl, h.out.keep hb.out, below_un hb.out⟩
set_option maxHeartbeats 4000000 in
theorem vget_c (h : HQ w p n H B mp gw tb mt X) (i j : Int) (i0 : -9223372036854775808 ≤ i) (i1 : i ≤ 9223372036854775807) (j0 : -9223372036854775808 ≤ j) (j1 : j ≤ 9223372036854775807) :
    Calls Try.prog 14 #[.pointer (some ⟨p, 0, none⟩), .int .i64 i, .int .i64 j] w fun e w' => e = .returned (.tuple #[.int .u32 (getV H i j), .bool (getB H i j)]) ∧ Kept w w' p n H B mp gw tb mt X := by
  cases hh : hasT H.T i with
  | false =>
    have e1 : getV H i j = 0 := by unfold getV; rw [fsI_no hh, if_neg (by simp <;> omega)]
    have e2 : getB H i j = false := by unfold getB; rw [fsI_no hh]; simp <;> omega
    rw [e1, e2]
    exact vget_no h i j (field_none h i j i0 i1 j0 j1 hh)
  | true =>
    obtain ⟨s, c, cl, L, o⟩ := h.ob hh
    by_cases hj : 0 ≤ j ∧ j < L.length
    · obtain ⟨k, rfl⟩ : ∃ k : Nat, j = k := ⟨j.toNat, by omega⟩
      have hk : k < L.length := by omega
      have e1 : getV H i k = X s (c * wN s + (2 + k)) := by
        unfold getV
        rw [o.fsi, if_pos (by simp; omega)]
        rw [← Nat.add_assoc, o.fs k L[k] (by simp [hk])]
        simp [List.getD, hk]
      have e2 : getB H i k = true := by unfold getB; rw [o.fsi]; simp; omega
      rw [e1, e2]
      have P := Lib.hid (field_in h i k i0 i1 o hk)
      have PA := Lib.hid (fun (w1 : World) (hb : Below w.heap.size w w1) => add_c (h.keep hb).hp.met 2 (by omega) (by omega))
      have hcc := Lib.hid (fun (w1 : World) (hb : Below w.heap.size w w1) => (h.keep hb).hp.cc)
      have hwd := Lib.hid (fun (w2 : World) (h2 : HQ w2 p n H B mp gw tb mt X) => h2.hp.word o.s5 o.cn o.few (k := 2 + k) (by have := o.fit; omega))
      replace h := Lib.hid h
      clear o e1 e2 hh hj
      generalize X s (c * wN s + (2 + k)) = x at *
      generalize c * wN s + (2 + k) = off at *
      generalize hg : gw s = g at *
      replace hg := Lib.hid hg
      go_enter Try.func14, Try.ntmps14
      go_wp2_with (first | (go_at_call 30; ((with_reducible refine (P.out).mono ?_); rintro e w1 ⟨rfl, hb⟩; have cc := hcc.out _ hb; have P2 := Lib.hid (PA.out _ hb); replace hb := Lib.hid hb)) | (go_at_call 31; ((with_reducible refine (P2.out).mono ?_); rintro e w2 ⟨rfl, d1, d2⟩; have h2 := (h.out.keep hb.out).count d1 d2; have cf := hwd.out _ h2.1; replace h2 := Lib.hid h2; clear d1 d2)))
      go_returns
      exact ⟨rfl, h2.out.1, (below_un hb.out).trans h2.out.2⟩
    · have e1 : getV H i j = 0 := by unfold getV; rw [o.fsi, if_neg hj]
      have e2 : getB H i j = false := by unfold getB; rw [o.fsi]; simp; omega
      rw [e1, e2]
      exact vget_no h i j (field_out h i j i0 i1 j0 j1 o (by omega))
set_option maxHeartbeats 4000000 in
theorem vclass_c (h : HQ w p n H B mp gw tb mt X) (i : Int) (i0 : -9223372036854775808 ≤ i) (i1 : i ≤ 9223372036854775807) :
    Calls Try.prog 15 #[.pointer (some ⟨p, 0, none⟩), .int .i64 i] w fun e w' => e = .returned (.int .i64 (clsI H i)) ∧ Kept w w' p n H B mp gw tb mt X := by
  cases hh : hasT H.T i with
  | false =>
    have e1 : clsI H i = -1 := by unfold clsI; rw [hh]; rfl
    rw [e1]
    have P := Lib.hid (object_no h i i0 i1 hh)
    have hnil := nil_is
    replace h := Lib.hid h
    clear e1 hh
    go_enter Try.func15, Try.ntmps15
    go_wp2_with (first | (go_at_call 42; ((with_reducible refine (P.out).mono ?_); rintro e w1 ⟨rfl, hb⟩; replace hb := Lib.hid hb)))
    go_ret
    exact ⟨rfl, h.out.keep hb.out, below_un hb.out⟩
  | true =>
    obtain ⟨s, c, cl, L, o⟩ := h.ob hh
    rw [o.cls]
    have P := Lib.hid (object_yes h i0 i1 o.hh o.ha o.s5 o.cn)
    have hx := h.hp.xb s (c * wN s)
    have PS := Lib.hid (Class_c (X s (c * wN s)) hx.1 hx.2)
    rw [o.e1] at PS
    have hW : 0 < wN s := by have := o.fit; omega
    have PA := Lib.hid (fun (w1 : World) (hb : Below w.heap.size w w1) => add_c (h.keep hb).hp.met 1 (by omega) (by omega))
    have hcc := Lib.hid (fun (w1 : World) (hb : Below w.heap.size w w1) => (h.keep hb).hp.cc)
    have hwd := Lib.hid (fun (w2 : World) (h2 : HQ w2 p n H B mp gw tb mt X) => h2.hp.word o.s5 o.cn o.few (k := 0) (by have := o.fit; omega))
    simp only [Nat.add_zero] at hwd
    replace h := Lib.hid h
    clear o hh
    unfold cellV at P
    generalize X s (c * wN s) = x at *
    generalize n s * wN s - c * wN s = cap at *
    generalize c * wN s = a at *
    generalize wN s = W at *
    generalize hg : gw s = g at *
    replace hg := Lib.hid hg
    have hnil := nil_not g a W cap
    go_enter Try.func15, Try.ntmps15
    go_wp2_with (first | (go_at_call 42; ((with_reducible refine (P.out).mono ?_); rintro e w1 ⟨rfl, hb⟩; have cc := hcc.out _ hb; have P2 := Lib.hid (PA.out _ hb); replace hb := Lib.hid hb)) | (go_at_call 31; ((with_reducible refine (P2.out).mono ?_); rintro e w2 ⟨rfl, d1, d2⟩; have h2 := (h.out.keep hb.out).count d1 d2; have cf := hwd.out _ h2.1; replace h2 := Lib.hid h2; clear d1 d2)) | (go_at_call 43; ((with_reducible refine (PS.out _).mono ?_); rintro e w3 ⟨rfl, hw3⟩; subst w3)))
    go_ret
    exact ⟨rfl, h2.out.1.keep (Below.refl _ _).drew, ((below_un hb.out).trans h2.out.2).trans (below_un (Below.refl _ _).drew)⟩
set_option maxHeartbeats 4000000 in
theorem vfields_c (h : HQ w p n H B mp gw tb mt X) (i : Int) (i0 : -9223372036854775808 ≤ i) (i1 : i ≤ 9223372036854775807) :
    Calls Try.prog 16 #[.pointer (some ⟨p, 0, none⟩), .int .i64 i] w fun e w' => e = .returned (.int .i64 (fldI H i)) ∧ Kept w w' p n H B mp gw tb mt X := by
  cases hh : hasT H.T i with
  | false =>
    have e1 : fldI H i = -1 := by unfold fldI; rw [hh]; rfl
    rw [e1]
    have P := Lib.hid (object_no h i i0 i1 hh)
    have hnil := nil_is
    replace h := Lib.hid h
    clear e1 hh
    go_enter Try.func16, Try.ntmps16
    go_wp2_with (first | (go_at_call 42; ((with_reducible refine (P.out).mono ?_); rintro e w1 ⟨rfl, hb⟩; replace hb := Lib.hid hb)))
    go_ret
    exact ⟨rfl, h.out.keep hb.out, below_un hb.out⟩
  | true =>
    obtain ⟨s, c, cl, L, o⟩ := h.ob hh
    rw [o.fld]
    have P := Lib.hid (object_yes h i0 i1 o.hh o.ha o.s5 o.cn)
    have hx := h.hp.xb s (c * wN s)
    have PS := Lib.hid (Size_c (X s (c * wN s)) hx.1 hx.2)
    rw [o.e2] at PS
    have hW : 0 < wN s := by have := o.fit; omega
    have PA := Lib.hid (fun (w1 : World) (hb : Below w.heap.size w w1) => add_c (h.keep hb).hp.met 1 (by omega) (by omega))
    have hcc := Lib.hid (fun (w1 : World) (hb : Below w.heap.size w w1) => (h.keep hb).hp.cc)
    have hwd := Lib.hid (fun (w2 : World) (h2 : HQ w2 p n H B mp gw tb mt X) => h2.hp.word o.s5 o.cn o.few (k := 0) (by have := o.fit; omega))
    simp only [Nat.add_zero] at hwd
    replace h := Lib.hid h
    clear o hh
    unfold cellV at P
    generalize X s (c * wN s) = x at *
    generalize n s * wN s - c * wN s = cap at *
    generalize c * wN s = a at *
    generalize wN s = W at *
    generalize hg : gw s = g at *
    generalize L.length = l at *
    replace hg := Lib.hid hg
    have hnil := nil_not g a W cap
    go_enter Try.func16, Try.ntmps16
    go_wp2_with (first | (go_at_call 42; ((with_reducible refine (P.out).mono ?_); rintro e w1 ⟨rfl, hb⟩; have cc := hcc.out _ hb; have P2 := Lib.hid (PA.out _ hb); replace hb := Lib.hid hb)) | (go_at_call 31; ((with_reducible refine (P2.out).mono ?_); rintro e w2 ⟨rfl, d1, d2⟩; have h2 := (h.out.keep hb.out).count d1 d2; have cf := hwd.out _ h2.1; replace h2 := Lib.hid h2; clear d1 d2)) | (go_at_call 44; ((with_reducible refine (PS.out _).mono ?_); rintro e w3 ⟨rfl, hw3⟩; subst w3)))
    go_ret
    exact ⟨rfl, h2.out.1.keep (Below.refl _ _).drew, ((below_un hb.out).trans h2.out.2).trans (below_un (Below.refl _ _).drew)⟩
set_option maxHeartbeats 4000000 in
theorem vcolor_c (h : HQ w p n H B mp gw tb mt X) (i : Int) (i0 : -9223372036854775808 ≤ i) (i1 : i ≤ 9223372036854775807) :
    Calls Try.prog 32 #[.pointer (some ⟨p, 0, none⟩), .int .i64 i] w fun e w' => e = .returned (.int .i64 (colI H i)) ∧ Below w.heap.size w w' := by
  have ct := h.hp.ct
  have P := Lib.hid (KT.at' i h.hp.tbl i0 i1)
  cases hh : hasT H.T i with
  | false =>
    have e1 : colI H i = -1 := by unfold colI; rw [hh]; rfl
    rw [e1]
    rw [hh, atP_no hh] at P
    unfold plV at P
    simp only at P
    clear h hh e1
    go_enter Try.func32, Try.ntmps32
    go_wp2_with (first | (go_at_call 55; ((with_reducible refine (P.out).mono ?_); rintro e w1 ⟨rfl, hb⟩; replace hb := Lib.hid hb)))
    go_ret
    exact ⟨rfl, hb.out.trans (((Below.refl _ _).alloc (Nat.le_refl _) _).mono hb.out.size)⟩
  | true =>
    obtain ⟨s, c, cl, L, o⟩ := h.ob hh
    rw [o.col]
    rw [hh, o.ha] at P
    have hs5 : (s : Int) < 5 := by have := o.s5; omega
    have cn := o.cn
    have few := o.few
    have hn0 : ¬ (n s = 0) := by omega
    have cm := Lib.hid (fun (w1 : World) (hb : Below w.heap.size w w1) => (h.hp.keep hb).cm s o.s5)
    simp only [if_neg hn0] at cm
    have PM := Lib.hid (fun (w1 : World) (hb : Below w.heap.size w w1) => KM.color (c : Int) ((h.hp.keep hb).mill s o.s5 (by omega)) (by omega) (by omega))
    have hss : s < 5 := o.s5
    unfold plV at P
    simp only at P
    clear h hh o hn0
    generalize colorR (H.M s) c = col at *
    go_enter Try.func32, Try.ntmps32
    go_wp2_with (first | (go_at_call 55; ((with_reducible refine (P.out).mono ?_); rintro e w1 ⟨rfl, hb⟩; replace hb := Lib.hid hb)))
    have hb3 := hb.out.trans (((Below.refl _ _).alloc (Nat.le_refl _) (.cells #[.int .i64 s, .int .i64 c] 63)).mono hb.out.size)
    have q0 : (w1.alloc (.cells #[.int .i64 s, .int .i64 c] 63)).cell? ⟨w1.heap.size, 0, none⟩ = some (.int .i64 s) := by simp
    have q1 : (w1.alloc (.cells #[.int .i64 s, .int .i64 c] 63)).cell? ⟨w1.heap.size, 1, none⟩ = some (.int .i64 c) := by simp
    have cm1 := cm.out _ hb3
    generalize (w1.alloc (.cells #[.int .i64 s, .int .i64 c] 63)) = w2 at *
    replace hb3 := Lib.hid hb3
    go_still_tail 9, (by kernel_rfl)
    go_wp2_with (first | (go_at_call 56; ((with_reducible refine (PM.out _ hb3.out.drew).mono ?_); rintro e w4 ⟨rfl, hb4⟩; replace hb4 := Lib.hid hb4)))
    go_ret
    exact ⟨rfl, hb3.out.drew.trans (hb4.out.mono hb3.out.drew.size)⟩
set_option maxHeartbeats 4000000 in
theorem vids_c (h : HQ w p n H B mp gw tb mt X) :
    Calls Try.prog 19 #[.pointer (some ⟨p, 0, none⟩)] w fun e w' => ∃ u, e = .returned u ∧ SL w' 3 u (idsT H.T) ∧ Below w.heap.size w w' ∧ (∀ g, u.ownBlock = some g → w.heap.size ≤ g) := by
  have ct := h.hp.ct
  have P := Lib.hid (KT.ids h.hp.tbl)
  clear h
  go_enter Try.func19, Try.ntmps19
  go_wp2_with (first | (go_at_call 47; ((with_reducible refine (P.out).mono ?_); rintro e w1 ⟨u, rfl, hu, hb, hf⟩; replace hu := Lib.hid hu; replace hb := Lib.hid hb; replace hf := Lib.hid hf)))
  go_ret
  exact ⟨_, rfl, hu.out, hb.out, hf.out⟩
theorem vcost_c (h : HQ w p n H B mp gw tb mt X) :
    Calls Try.prog 46 #[.pointer (some ⟨p, 0, none⟩)] w fun e w' => e = .returned (.pointer (some ⟨mt, 0, none⟩)) ∧ w' = w := by
  have cc := h.hp.cc
  clear h
  go_enter Try.func46, Try.ntmps46
  go_wp2
  go_ret
  exact ⟨rfl, rfl⟩
end
end Wd
end Go.Proofs.Ytdaojohdmidemaa

/- The colours of cells: what is shaded, what stays. -/
namespace Go.Proofs.Ytdaojohdmidemaa
open Go.RowKit Go.Maps
set_option linter.unusedVariables false
namespace Wd
theorem color_shade (A : Mst) (i j : Int) : colorR (shadeA A i) j = if j = i ∧ colorR A i = 3 then 2 else colorR A j := by
  unfold shadeA
  by_cases h : colorR A i = 3
  · rw [if_pos h]
    have n0 : i ∉ A 0 := fun m => by unfold colorR at h; rw [if_pos m] at h; omega
    have n1 : i ∉ A 1 := fun m => by unfold colorR at h; rw [if_neg n0, if_pos m] at h; omega
    by_cases c : j = i
    · subst c
      rw [if_pos ⟨rfl, h⟩]
      unfold colorR
      rw [if_neg (by simpa [upA] using n0), if_neg (by simpa [upA] using n1), if_pos (by simp [upA])]
    · rw [if_neg (fun e => c e.1)]
      unfold colorR
      simp [upA, c]
  · rw [if_neg h, if_neg (fun e => h e.2)]
/-- a place that is one: its row is its size -/
def okP (p : Pl) : Prop := ∃ s : Nat, s < 5 ∧ p.1 = s
theorem okP.eq {p q : Pl} (hp : okP p) (hq : okP q) (h1 : szP p = szP q) (h2 : p.2 = q.2) : p = q := by
  obtain ⟨s, _, e⟩ := hp
  obtain ⟨t, _, f⟩ := hq
  unfold szP at h1
  rw [e, f] at h1
  have : s = t := by simpa using h1
  subst this
  exact Prod.ext (by rw [e, f]) h2
theorem colP_sh (H : Hst) {p q : Pl} (hp : okP p) (hq : okP q) : colP (sh H p) q = if q = p ∧ colP H p = 3 then 2 else colP H q := by
  unfold colP
  show colorR (upM H.M (szP p) (shadeA (H.M (szP p)) p.2) (szP q)) q.2 = _
  unfold upM
  by_cases c : szP q = szP p
  · rw [if_pos c, color_shade]
    by_cases d : q.2 = p.2 ∧ colorR (H.M (szP p)) p.2 = 3
    · rw [if_pos d, if_pos ⟨hq.eq hp c d.1, d.2⟩]
    · rw [if_neg d, if_neg (fun e => d ⟨by rw [e.1], e.2⟩), c]
  · rw [if_neg c, if_neg (fun e => c (by rw [e.1]))]
/-- the same memory, a little darker -/
structure Dk (H H' : Hst) : Prop where
  t : H'.T = H.T
  c : H'.C = H.C
  col : ∀ q, okP q → colP H' q = colP H q ∨ (colP H q = 3 ∧ colP H' q = 2)
theorem Dk.refl (H : Hst) : Dk H H := ⟨rfl, rfl, fun _ _ => .inl rfl⟩
theorem Dk.trans {H H1 H2 : Hst} (a : Dk H H1) (b : Dk H1 H2) : Dk H H2 :=
  ⟨b.t.trans a.t, b.c.trans a.c, fun q hq => by rcases a.col q hq with h | h <;> rcases b.col q hq with g | g <;> omega⟩
theorem Dk.sh (H : Hst) {p : Pl} (hp : okP p) : Dk H (Wd.sh H p) := ⟨rfl, rfl, fun q hq => by
  rw [colP_sh H hp hq]
  split
  · rename_i e; rw [e.1]; exact .inr ⟨e.2, rfl⟩
  · exact .inl rfl⟩
theorem HInv.okP {n : Nat → Nat} {H : Hst} (h : HInv n H) {k : Nat} {p : Pl} (ht : H.T k = some p) : Wd.okP p := by
  obtain ⟨s, hs, e, _⟩ := h.pl k p ht
  exact ⟨s, hs, e⟩
theorem Dk.shI {n : Nat → Nat} {H : Hst} (h : HInv n H) (i : Int) : Dk H (Wd.shI H i) := by
  unfold Wd.shI
  split
  · rename_i hh
    obtain ⟨k, p, rfl, _, _, hp, e⟩ := h.has hh
    rw [e]
    exact Dk.sh H (h.okP hp)
  · exact Dk.refl H
theorem Dk.shW {n : Nat → Nat} {H : Hst} (h : HInv n H) (x : Int) : Dk H (Wd.shW H x) := by
  unfold Wd.shW
  split
  · exact Dk.shI h _
  · exact Dk.refl H
theorem Dk.hold {n : Nat → Nat} {H : Hst} (h : HInv n H) : ∀ l : List Int, Dk H (holdH H l) := by
  intro l
  unfold holdH
  induction l generalizing H with
  | nil => exact Dk.refl H
  | cons x l ih => exact (Dk.shW h x).trans (ih (h.shW x))
/-- no Ecru one is what the word names -/
def okW (H : Hst) (x : Int) : Prop := isOp x = true → ∀ k q, x / 2 = ((k : Nat) : Int) → H.T k = some q → colP H q ≠ 3
theorem okW.dark {H H' : Hst} {n : Nat → Nat} {x : Int} (hi : HInv n H) (h : okW H x) (d : Dk H H') : okW H' x := fun ho k q e ht => by
  rw [d.t] at ht
  have := h ho k q e ht
  rcases d.col q (hi.okP ht) with g | g <;> omega
theorem okW.shW {H : Hst} {n : Nat → Nat} (h : HInv n H) (x : Int) : okW (Wd.shW H x) x := fun ho k q e ht => by
  have hT : (Wd.shW H x).T = H.T := (Dk.shW h x).t
  rw [hT] at ht
  have bk := h.inv.bd k q ht
  unfold Wd.shW
  rw [if_pos ho, e]
  obtain ⟨h1, h2⟩ := atP_at ht (by omega : k < 1024)
  have e2 : Wd.shI H (k : Nat) = Wd.sh H q := by unfold Wd.shI; rw [if_pos h2, h1]
  rw [e2, colP_sh H (h.okP ht) (h.okP ht)]
  by_cases c : colP H q = 3
  · rw [if_pos ⟨rfl, c⟩]; omega
  · rw [if_neg (fun e => c e.2)]; exact c
theorem okW.hold {n : Nat → Nat} : ∀ (l : List Int) {H : Hst}, HInv n H → ∀ x, x ∈ l → okW (holdH H l) x
  | [], _, _, _, hx => by cases hx
  | y :: l, H, h, x, hx => by
    rcases List.mem_cons.1 hx with rfl | hx
    · exact (okW.shW h x).dark (h.shW x) (Dk.hold (h.shW x) l)
    · exact okW.hold l (h.shW y) x hx
/-- no Black cell names an Ecru one -/
def Tri (H : Hst) : Prop := ∀ p, okP p → colP H p = 1 → ∀ x, x ∈ (H.C p).2 → okW H x
theorem Tri.dark {n : Nat → Nat} {H H' : Hst} (h : Tri H) (hi : HInv n H) (d : Dk H H') : Tri H' := fun p hp hc x hx => by
  rw [d.c] at hx
  have : colP H p = 1 := by rcases d.col p hp with g | g <;> omega
  exact (h p hp this x hx).dark hi d
theorem Tri.hold {n : Nat → Nat} {H : Hst} (h : Tri H) (hi : HInv n H) (l : List Int) : Tri (holdH H l) := h.dark hi (Dk.hold hi l)
theorem color_first {A : Mst} {i j : Int} {R : List Int} {n : Nat} (h : Good n A) (hA : A 2 = i :: R) : colorR (firstA A 2 1) j = if j = i then 1 else colorR A j := by
  have n0 : i ∉ A 0 := fun m => by have := good_color h (x := 0) (by omega) m; have := good_color h (x := 2) (by omega) (show i ∈ A 2 by rw [hA]; simp); omega
  unfold firstA
  rw [hA]
  by_cases c : j = i
  · subst c
    rw [if_pos rfl]
    unfold colorR
    simp [upA, n0]
  · rw [if_neg c]
    unfold colorR
    simp [upA, c, hA]
end Wd
end Go.Proofs.Ytdaojohdmidemaa

/- The landed memory: what makes cells Grey: shade, shadeWord, Hold, Swap. -/
namespace Go.Proofs.Ytdaojohdmidemaa
open Go.RowKit Go.Maps
set_option linter.unusedVariables false
set_option maxRecDepth 20000
namespace Wd
/-- what a call leaves: the memory H', the same words -/
def Tn (w w' : World) (p : Nat) (n : Nat → Nat) (H' : Hst) (B : Nat → Nat → Prop) (mp gw : Nat → Nat) (tb mt : Nat) (X : Nat → Nat → Int) : Prop :=
  ∃ B', HQ w' p n H' B' mp gw tb mt X ∧ Ch (un B) w w' ∧ Newer (un B) (un B') w.heap.size
section
variable {w w' w1 w2 : World} {p : Nat} {n : Nat → Nat} {B B1 : Nat → Nat → Prop} {mp gw : Nat → Nat} {tb mt : Nat} {T T' : Tst} {M : Nat → Mst} {X : Nat → Nat → Int} {H H1 H2 : Hst} {i : Int} {s c : Nat} {cl : Int} {L : List Int}
theorem Tn.refl (h : HQ w p n H B mp gw tb mt X) : Tn w w p n H B mp gw tb mt X := ⟨B, h, Ch.refl _ _, newer_refl9 _ _⟩
theorem Tn.keep (h : Tn w w1 p n H B mp gw tb mt X) (g : Below w1.heap.size w1 w2) : Tn w w2 p n H B mp gw tb mt X := by
  obtain ⟨B', h1, h2, h3⟩ := h
  exact ⟨B', h1.keep g, h2.trans (below_un g), h3⟩
theorem Tn.pre (hb : Below w.heap.size w w1) (h : Tn w1 w2 p n H B mp gw tb mt X) : Tn w w2 p n H B mp gw tb mt X := by
  obtain ⟨B', h1, h2, h3⟩ := h
  exact ⟨B', h1, (below_un hb).trans h2, fun k hk => by
    rcases h3 k hk with h | h
    · exact Or.inl h
    · exact Or.inr (Nat.le_trans hb.size h)⟩
theorem tn_then (c1 : Ch (un B) w w1) (n1 : Newer (un B) (un B1) w.heap.size) (h : Tn w1 w2 p n H B1 mp gw tb mt X) : Tn w w2 p n H B mp gw tb mt X := by
  obtain ⟨B', h1, h2, h3⟩ := h
  exact ⟨B', h1, c1.then_ h2 n1, Newer.trans n1 h3 c1.size⟩
theorem HQ.mstep (h : HQ w p n H B mp gw tb mt X) (s5 : s < 5) (hn : 1 ≤ n s) {A' : Mst} {F' : Nat → Prop} (hm : MA w' (mp s) (n s) A' F') (hc : Ch (B (3 + s)) w w') (hN : Newer (B (3 + s)) F' w.heap.size) (hi : HInv n { H with M := upM H.M s A' }) :
    Tn w w' p n { H with M := upM H.M s A' } B mp gw tb mt X := by
  obtain ⟨a1, a2, a3⟩ := h.hp.mstep s5 hn hm hc hN
  exact ⟨_, ⟨a1, h.wr, hi⟩, a2, a3⟩
theorem WR.ids {C : Pl → Int × List Int} (h : WR n T C X) (hT : ∀ k q, T' k = some q → ∃ j, T j = some q) : WR n T' C X := fun k s c hk => by
  obtain ⟨j, hj⟩ := hT k _ hk
  exact h j s c hj
set_option maxHeartbeats 4000000 in
theorem vshade_c (h : HQ w p n H B mp gw tb mt X) (i : Int) (i0 : -9223372036854775808 ≤ i) (i1 : i ≤ 9223372036854775807) :
    Calls Try.prog 35 #[.pointer (some ⟨p, 0, none⟩), .int .i64 i] w fun e w' => e = .returned (.tuple #[]) ∧ Tn w w' p n (shI H i) B mp gw tb mt X := by
  have ct := h.hp.ct
  have P := Lib.hid (KT.at' i h.hp.tbl i0 i1)
  cases hh : hasT H.T i with
  | false =>
    have e1 : shI H i = H := by unfold shI; rw [hh]; rfl
    rw [e1]
    rw [hh, atP_no hh] at P
    unfold plV at P
    simp only at P
    replace h := Lib.hid h
    clear hh e1
    go_enter Try.func35, Try.ntmps35
    go_wp2_with (first | (go_at_call 55; ((with_reducible refine (P.out).mono ?_); rintro e w1 ⟨rfl, hb⟩; replace hb := Lib.hid hb)))
    go_end0
    exact ⟨rfl, (Tn.refl h.out).keep (hb.out.trans (((Below.refl _ _).alloc (Nat.le_refl _) _).mono hb.out.size))⟩
  | true =>
    obtain ⟨s, c, cl, L, o⟩ := h.ob hh
    have e1 : shI H i = { H with M := upM H.M s (shadeA (H.M s) c) } := by
      unfold shI sh szP
      rw [if_pos hh, o.ha]
      simp
    have hi : HInv n { H with M := upM H.M s (shadeA (H.M s) c) } := by rw [← e1]; exact h.inv.shI i
    rw [e1]
    rw [hh, o.ha] at P
    have hs5 : (s : Int) < 5 := by have := o.s5; omega
    have cn := o.cn
    have few := o.few
    have hn0 : ¬ (n s = 0) := by omega
    have cm := Lib.hid (fun (w1 : World) (hb : Below w.heap.size w w1) => (h.hp.keep hb).cm s o.s5)
    simp only [if_neg hn0] at cm
    have PM := Lib.hid (fun (w1 : World) (hb : Below w.heap.size w w1) => KM.shade (c : Int) ((h.hp.keep hb).mill s o.s5 (by omega)) (by omega) (by omega))
    have hss : s < 5 := o.s5
    unfold plV at P
    simp only at P
    replace h := Lib.hid h
    replace hi := Lib.hid hi
    clear hh o hn0 e1
    go_enter Try.func35, Try.ntmps35
    go_wp2_with (first | (go_at_call 55; ((with_reducible refine (P.out).mono ?_); rintro e w1 ⟨rfl, hb⟩; replace hb := Lib.hid hb)))
    have hb3 := hb.out.trans (((Below.refl _ _).alloc (Nat.le_refl _) (.cells #[.int .i64 s, .int .i64 c] 63)).mono hb.out.size)
    have q0 : (w1.alloc (.cells #[.int .i64 s, .int .i64 c] 63)).cell? ⟨w1.heap.size, 0, none⟩ = some (.int .i64 s) := by simp
    have q1 : (w1.alloc (.cells #[.int .i64 s, .int .i64 c] 63)).cell? ⟨w1.heap.size, 1, none⟩ = some (.int .i64 c) := by simp
    have cm1 := cm.out _ hb3
    generalize (w1.alloc (.cells #[.int .i64 s, .int .i64 c] 63)) = w2 at *
    replace hb3 := Lib.hid hb3
    go_still_tail 9, (by kernel_rfl)
    go_wp2_with (first | (go_at_call 59; ((with_reducible refine (PM.out _ hb3.out.drew).mono ?_); rintro e w4 ⟨F', he, d1, d2, d3⟩; subst he)))
    go_end0
    exact ⟨rfl, Tn.pre hb3.out.drew ((h.out.keep hb3.out.drew).mstep hss (by omega) d1 d2 d3 hi.out)⟩
set_option maxHeartbeats 4000000 in
theorem vshw_c (h : HQ w p n H B mp gw tb mt X) (x : Int) (x0 : 0 ≤ x) (x1 : x ≤ 4294967295) :
    Calls Try.prog 33 #[.pointer (some ⟨p, 0, none⟩), .int .u32 x] w fun e w' => e = .returned (.tuple #[]) ∧ Tn w w' p n (shW H x) B mp gw tb mt X := by
  have P := Lib.hid (id9_c x x0 x1)
  cases hx : isOp x with
  | false =>
    have e : shW H x = H := by unfold shW; rw [hx]; rfl
    have e2 : idW x = 0 := by unfold idW; rw [hx]; rfl
    rw [e]
    rw [hx, e2] at P
    replace h := Lib.hid h
    clear e e2
    go_enter Try.func33, Try.ntmps33
    go_wp2_with (first | (go_at_call 57; ((with_reducible refine (P.out _).mono ?_); rintro e w1 ⟨rfl, hw1⟩; subst w1)))
    go_end0
    exact ⟨rfl, Tn.refl h.out⟩
  | true =>
    have e : shW H x = shI H (x / 2) := by unfold shW; rw [hx]; rfl
    have e2 : idW x = x / 2 := by unfold idW; rw [hx]; rfl
    rw [e]
    rw [hx, e2] at P
    have P2 := Lib.hid (vshade_c h (x / 2) (by omega) (by omega))
    clear e e2 h
    generalize x / 2 = y at *
    go_enter Try.func33, Try.ntmps33
    go_wp2_with (first | (go_at_call 57; ((with_reducible refine (P.out _).mono ?_); rintro e w1 ⟨rfl, hw1⟩; subst w1)) | (go_at_call 35; ((with_reducible refine (P2.out).mono ?_); rintro e w1 ⟨rfl, hd⟩; replace hd := Lib.hid hd)))
    go_end0
    exact ⟨rfl, hd.out⟩
theorem hold_succ {l : List Int} {k : Nat} {x : Int} (hx : l[k]? = some x) : holdH H (l.take (k + 1)) = shW (holdH H (l.take k)) x := by
  unfold holdH
  rw [List.take_add_one, hx, Option.toList_some, List.foldl_append]; rfl
set_option maxHeartbeats 4000000 in
theorem vhold_c {u : Value} {l : List Int} (h : HQ w p n H B mp gw tb mt X) (hu : SW w u l) (hl : ∀ x ∈ l, 0 ≤ x ∧ x ≤ 4294967295) (hlen : l.length ≤ 1000) (hfar : ∀ g, u.ownBlock = some g → ¬ un B g) :
    Calls Try.prog 10 #[.pointer (some ⟨p, 0, none⟩), u] w fun e w' => e = .returned (.tuple #[]) ∧ Tn w w' p n (holdH H l) B mp gw tb mt X := by
  rcases hu.cases with ⟨rfl, rfl⟩ | ⟨g, cap, rfl, g1, g2, g3, g4⟩
  · replace h := Lib.hid h
    clear hu
    go_enter Try.func10, Try.ntmps10
    go_wp2
    refine wp_loop_rounds 1 ?_
    rw [rounds_succ]
    go_wp2
    go_end0
    exact ⟨rfl, Tn.refl h.out⟩
  · have S0 := Lib.hid (Tn.refl h)
    have hgf := hfar g rfl
    have hcell : Hid (∀ (wX : World) (k : Nat) (y : Int), Ch (un B) w wX → l[k]? = some y → wX.cell? ⟨g, k, none⟩ = some (.int .u32 y)) := Lib.hid (fun wX k y hc hq => (World.cell?_of_block (a := ⟨g, k, none⟩) (hc.block g g3 hgf)).trans (wrow_cell g4 hq))
    replace hl := Lib.hid hl
    clear hu g4 hfar h
    go_enter Try.func10, Try.ntmps10
    go_wp2
    go_loopw [8] (fun i' wr => ∃ k : Nat, k ≤ l.length ∧ i' = .int .i64 k ∧ Tn w wr p n (holdH H (l.take k)) B mp gw tb mt X) (fun i' _ => l.length - (intOf i').toNat)
    case atStart => exact ⟨0, by omega, rfl, S0.out⟩
    case round =>
      obtain ⟨k, hk, rfl, hR⟩ := hrel
      by_cases hlt : k < l.length
      · have hd : decide ((k : Int) < (l.length : Int)) = true := by simp; omega
        have hw1 : IntKind.i64.wrap ((k : Int) + 1) = (k : Int) + 1 := by rw [IntKind.wrap_i64]; omega
        have hx : l[k]? = some l[k] := by simp [hlt]
        have hc := hcell.out wr k _ hR.choose_spec.2.1 hx
        have hxb := hl.out l[k] (List.getElem_mem hlt)
        have eN := hold_succ (H := H) hx
        obtain ⟨B1, h1, h2, h3⟩ := hR
        have P := Lib.hid (vshw_c h1 l[k] hxb.1 hxb.2)
        rw [← eN] at P
        replace h2 := Lib.hid h2
        replace h3 := Lib.hid h3
        clear h1 eN hx
        generalize l[k] = x at *
        go_wp2_with (first | (go_at_call 33; ((with_reducible refine (P.out).mono ?_); rintro e w1 ⟨rfl, hd1⟩; replace hd1 := Lib.hid hd1)))
        have hN := Lib.hid (tn_then h2.out h3.out hd1.out)
        clear hd1 P h2 h3 hc
        go_roundw
        case rel => exact ⟨k + 1, by omega, by go_num, hN.out⟩
        case measure => simp [intOf]; omega
      · have e : k = l.length := by omega
        subst e
        have hd : decide ((l.length : Int) < (l.length : Int)) = false := by simp
        rw [List.take_length] at hR
        replace hR := Lib.hid hR
        go_wp2
        go_end0
        exact ⟨rfl, hR.out⟩
end
end Wd
end Go.Proofs.Ytdaojohdmidemaa

/- The landed memory: the least size that has a Grey cell; Done. -/
namespace Go.Proofs.Ytdaojohdmidemaa
open Go.RowKit Go.Maps
set_option linter.unusedVariables false
set_option maxRecDepth 20000
namespace Wd
/-- a mill's pointer -/
def mv (n mp : Nat → Nat) (s : Nat) : Option Addr := if n s = 0 then none else some ⟨mp s, 0, none⟩
def millsV (v : Nat → Option Addr) : Value := .agg #[.pointer (v 0), .pointer (v 1), .pointer (v 2), .pointer (v 3), .pointer (v 4)]
theorem index_mv (v : Nat → Option Addr) {s : Nat} (hs : s < 5) (w : World) : (Instr.index 54 (millsV v) (.int .i64 (s : Int))).run Try.prog w = .ok (.pointer (v s)) w := by
  unfold millsV
  rcases (show s = 0 ∨ s = 1 ∨ s = 2 ∨ s = 3 ∨ s = 4 by omega) with rfl | rfl | rfl | rfl | rfl <;> kernel_rfl
/-- the least size that has a Grey cell, or -1 -/
def gryI (H : Hst) : Int := match gry H with | some s => (s : Int) | none => -1
theorem gryI_some {H : Hst} {s : Nat} (h : gry H = some s) : gryI H = s := by unfold gryI; rw [h]
theorem gryI_none {H : Hst} (h : gry H = none) : gryI H = -1 := by unfold gryI; rw [h]
theorem gry_at {H : Hst} {k : Nat} (hk : k < 5) (hne : H.M k 2 ≠ []) (hem : ∀ j, j < k → H.M j 2 = []) : gry H = some k := by
  unfold gry
  rw [List.find?_range_eq_some]
  exact ⟨by simpa using hne, List.mem_range.2 hk, fun j hj => by rw [hem j hj]; rfl⟩
theorem gry_no {H : Hst} (hem : ∀ j, j < 5 → H.M j 2 = []) : gry H = none := by
  unfold gry
  rw [List.find?_eq_none]
  intro s hs
  rw [hem s (List.mem_range.1 hs)]
  simp
theorem gry_done {H : Hst} : doneB H = decide (gryI H < 0) := by
  cases hd : doneB H with
  | true => rw [gryI_none (gry_none hd)]; rfl
  | false =>
    obtain ⟨s, hg, hs5, _⟩ := gry_some hd
    rw [gryI_some hg]; simp
theorem good_nil {A : Mst} (h : Good 0 A) : A 0 = [] ∧ A 1 = [] ∧ A 2 = [] ∧ A 3 = [] := by
  have := good_len h
  refine ⟨?_, ?_, ?_, ?_⟩ <;> exact List.length_eq_zero_iff.1 (by omega)
section
variable {w w' w1 w2 : World} {p : Nat} {n : Nat → Nat} {B B1 : Nat → Nat → Prop} {mp gw : Nat → Nat} {tb mt : Nat} {T T' : Tst} {M : Nat → Mst} {X : Nat → Nat → Int} {H H1 H2 : Hst} {i : Int} {s c : Nat} {cl : Int} {L : List Int}
theorem HP.cm5 (h : HP w p n B mp gw tb mt T M X) : ∀ s, s < 5 → w.cell? ⟨p, s, none⟩ = some (.pointer (mv n mp s)) := h.cm
set_option maxHeartbeats 4000000 in
theorem vgrey_c (h : HQ w p n H B mp gw tb mt X) :
    Calls Try.prog 36 #[.pointer (some ⟨p, 0, none⟩)] w fun e w' => e = .returned (.int .i64 (gryI H)) ∧ Below w.heap.size w w' := by
  have m0 := h.hp.cm5 0 (by omega)
  have m1 := h.hp.cm5 1 (by omega)
  have m2 := h.hp.cm5 2 (by omega)
  have m3 := h.hp.cm5 3 (by omega)
  have m4 := h.hp.cm5 4 (by omega)
  have hmv : Hid (∀ s, s < 5 → n s = 0 → mv n mp s = none ∧ H.M s 2 = []) := Lib.hid (fun s h5 h0 => ⟨by unfold mv; rw [if_pos h0], by
    have := h.inv.good s h5
    rw [h0] at this
    exact (good_nil this).2.2.1⟩)
  have hmq : Hid (∀ s, n s ≠ 0 → mv n mp s = some ⟨mp s, 0, none⟩) := Lib.hid (fun s h0 => by unfold mv; rw [if_neg h0])
  have hix := Lib.hid (fun (s : Nat) (hs : s < 5) (w : World) => index_mv (mv n mp) hs w)
  have PC := Lib.hid (fun (s : Nat) (h5 : s < 5) (h1 : n s ≠ 0) (w1 : World) (hb : Below w.heap.size w w1) => KM.count 2 ((h.hp.keep hb).mill s h5 (by omega)) (by omega) (by omega))
  clear h
  generalize mv n mp = v at *
  unfold millsV at hix
  generalize v 0 = v0 at *
  generalize v 1 = v1 at *
  generalize v 2 = v2 at *
  generalize v 3 = v3 at *
  generalize v 4 = v4 at *
  go_enter Try.func36, Try.ntmps36
  go_wp2
  clear m0 m1 m2 m3 m4
  go_loopw [9] (fun i' wr => ∃ k : Nat, k ≤ 5 ∧ i' = .int .i64 k ∧ Below w.heap.size w wr ∧ ∀ j, j < k → H.M j 2 = []) (fun i' _ => 5 - (intOf i').toNat)
  case atStart => exact ⟨0, by omega, rfl, Below.refl _ _, fun j hj => by omega⟩
  case round =>
    obtain ⟨k, hk, rfl, hb, hem⟩ := hrel
    replace hb := Lib.hid hb
    replace hem := Lib.hid hem
    by_cases hlt : k < 5
    · have hd : decide ((k : Int) < 5) = true := by simp; omega
      have hw1 : IntKind.i64.wrap ((k : Int) + 1) = (k : Int) + 1 := by rw [IntKind.wrap_i64]; omega
      have hx := hix.out k hlt wr
      by_cases h0 : n k = 0
      · obtain ⟨e1, e2⟩ := hmv.out k hlt h0
        rw [e1] at hx
        have hN : Hid (∀ j, j < k + 1 → H.M j 2 = []) := Lib.hid (fun j hj => by
          by_cases e : j = k
          · subst e; exact e2
          · exact hem.out j (by omega))
        clear e1 e2 hem
        go_wp2
        go_roundw
        case rel => exact ⟨k + 1, by omega, by go_num, hb.out, hN.out⟩
        case measure => simp [intOf]; omega
      · have e1 := hmq.out k h0
        rw [e1] at hx
        have P := Lib.hid (PC.out k hlt h0 wr hb.out)
        have er : rowA (H.M k) 2 = H.M k 2 := rfl
        rw [er] at P
        by_cases hz : H.M k 2 = []
        · have hN : Hid (∀ j, j < k + 1 → H.M j 2 = []) := Lib.hid (fun j hj => by
            by_cases e : j = k
            · subst e; exact hz
            · exact hem.out j (by omega))
          rw [hz] at P
          have P' : Hid (Calls Try.prog 60 #[.pointer (some ⟨mp k, 0, none⟩), .int .i64 2] wr fun e w' => e = .returned (.int .i64 0) ∧ Below wr.heap.size wr w') := P
          clear P e1 hem hz er
          go_wp2_with (first | (go_at_call 60; ((with_reducible refine (P'.out).mono ?_); rintro e w3 ⟨rfl, hb3⟩; replace hb3 := Lib.hid hb3)))
          have hbN := Lib.hid (hb.out.trans (hb3.out.mono hb.out.size))
          clear hb hb3
          go_roundw
          case rel => exact ⟨k + 1, by omega, by go_num, hbN.out, hN.out⟩
          case measure => simp [intOf]; omega
        · have hl : 0 < (H.M k 2).length := List.length_pos_iff.2 hz
          have d1 : decide (((H.M k 2).length : Int) > 0) = true := by simp; omega
          have d2 : decide (0 < ((H.M k 2).length : Int)) = true := by simp; omega
          have eg := Lib.hid (gryI_some (gry_at hlt hz hem.out))
          clear e1 hem hz er
          generalize (H.M k 2).length = l at *
          go_wp2_with (first | (go_at_call 60; ((with_reducible refine (P.out).mono ?_); rintro e w3 ⟨rfl, hb3⟩; replace hb3 := Lib.hid hb3)))
          go_ret
          rw [eg.out]
          exact ⟨rfl, hb.out.trans (hb3.out.mono hb.out.size)⟩
    · have e : k = 5 := by omega
      subst e
      have eg := Lib.hid (gryI_none (gry_no hem.out))
      go_wp2
      go_ret
      rw [eg.out]
      exact ⟨rfl, hb.out⟩
theorem vdone_c (h : HQ w p n H B mp gw tb mt X) :
    Calls Try.prog 12 #[.pointer (some ⟨p, 0, none⟩)] w fun e w' => e = .returned (.bool (doneB H)) ∧ Below w.heap.size w w' := by
  have P := Lib.hid (vgrey_c h)
  rw [gry_done]
  clear h
  generalize gryI H = g at *
  go_enter Try.func12, Try.ntmps12
  go_wp2_with (first | (go_at_call 36; ((with_reducible refine (P.out).mono ?_); rintro e w1 ⟨rfl, hb⟩; replace hb := Lib.hid hb)))
  go_ret
  exact ⟨rfl, hb.out⟩
end
end Wd
end Go.Proofs.Ytdaojohdmidemaa

/- The landed memory: Swap. -/
namespace Go.Proofs.Ytdaojohdmidemaa
open Go.RowKit Go.Maps
set_option linter.unusedVariables false
set_option maxRecDepth 20000
namespace Wd
theorem upM_self {M : Nat → Mst} {s : Nat} : upM M s (M s) = M := by
  funext t
  unfold upM
  split
  · rename_i e; rw [e]
  · rfl
theorem shI_idle {H : Hst} {i : Int} (hc : colI H i ≠ 3) : shI H i = H := by
  unfold shI
  split
  · rename_i hh
    unfold colI at hc
    rw [if_pos hh] at hc
    unfold sh shadeA
    unfold colP at hc
    rw [if_neg hc, upM_self]
  · rfl
theorem swT_col {H : Hst} {a b : Int} (hb : swapB H.T a b = true) : colI (swT H a b) a = colI H b ∧ colI (swT H a b) b = colI H a := by
  obtain ⟨x, y, p, q, rfl, rfl, hx, hy, hp, hq, e⟩ := swap_of hb
  have e1 : (swT H x y).T x = some q := by unfold swT; rw [e]; exact swap_x hp hq
  have e2 : (swT H x y).T y = some p := by unfold swT; rw [e]; exact swap_y
  obtain ⟨f1, f2⟩ := atP_at e1 hx
  obtain ⟨f3, f4⟩ := atP_at e2 hy
  obtain ⟨f5, f6⟩ := atP_at hp hx
  obtain ⟨f7, f8⟩ := atP_at hq hy
  constructor
  · unfold colI; rw [if_pos f2, if_pos f8, f1, f7]; rfl
  · unfold colI; rw [if_pos f4, if_pos f6, f3, f5]; rfl
section
variable {w w' w1 w2 : World} {p : Nat} {n : Nat → Nat} {B B1 : Nat → Nat → Prop} {mp gw : Nat → Nat} {tb mt : Nat} {T T' : Tst} {M : Nat → Mst} {X : Nat → Nat → Int} {H H1 H2 : Hst} {i : Int} {s c : Nat} {cl : Int} {L : List Int}
theorem Tn.shade (t : Tn w w1 p n H1 B mp gw tb mt X) (i : Int) (i0 : -9223372036854775808 ≤ i) (i1 : i ≤ 9223372036854775807) :
    Calls Try.prog 35 #[.pointer (some ⟨p, 0, none⟩), .int .i64 i] w1 fun e w' => e = .returned (.tuple #[]) ∧ Tn w w' p n (shI H1 i) B mp gw tb mt X := by
  obtain ⟨B', h1, h2, h3⟩ := t
  refine (vshade_c h1 i i0 i1).mono ?_
  rintro e w' ⟨rfl, t2⟩
  exact ⟨rfl, tn_then h2 h3 t2⟩
theorem Tn.shw (t : Tn w w1 p n H1 B mp gw tb mt X) (x : Int) (x0 : 0 ≤ x) (x1 : x ≤ 4294967295) :
    Calls Try.prog 33 #[.pointer (some ⟨p, 0, none⟩), .int .u32 x] w1 fun e w' => e = .returned (.tuple #[]) ∧ Tn w w' p n (shW H1 x) B mp gw tb mt X := by
  obtain ⟨B', h1, h2, h3⟩ := t
  refine (vshw_c h1 x x0 x1).mono ?_
  rintro e w' ⟨rfl, t2⟩
  exact ⟨rfl, tn_then h2 h3 t2⟩
theorem HQ.tswap (h : HQ w p n H B mp gw tb mt X) {a b : Int} (hsw : swapB H.T a b = true) {F' : Nat → Prop} (hm : TA w' tb (swapT H.T a b) F') (hc : Ch (B 2) w w') (hN : Newer (B 2) F' w.heap.size) :
    Tn w w' p n (swT H a b) B mp gw tb mt X := by
  obtain ⟨a1, a2, a3⟩ := h.hp.tstep hm hc hN
  refine ⟨_, ⟨a1, h.wr.ids (fun k q hk => ?_), h.inv.swT hsw⟩, a2, a3⟩
  obtain ⟨x, y, p, q', rfl, rfl, hx, hy, hp, hq, e⟩ := swap_of hsw
  have hk' : swapT H.T x y k = some q := hk
  rw [e, swap_val hp hq] at hk'
  split at hk'
  · exact ⟨x, by rw [hp]; exact hk'⟩
  · split at hk'
    · exact ⟨y, by rw [hq]; exact hk'⟩
    · exact ⟨k, hk'⟩
set_option maxHeartbeats 4000000 in
theorem vswap_c (h : HQ w p n H B mp gw tb mt X) (a b : Int) (a0 : -9223372036854775808 ≤ a) (a1 : a ≤ 9223372036854775807) (b0 : -9223372036854775808 ≤ b) (b1 : b ≤ 9223372036854775807) :
    Calls Try.prog 9 #[.pointer (some ⟨p, 0, none⟩), .int .i64 a, .int .i64 b] w fun e w' => e = .returned (.bool (swapB H.T a b)) ∧ Tn w w' p n (swapH H a b) B mp gw tb mt X := by
  have P1 := Lib.hid (vcolor_c h a a0 a1)
  have P2 := Lib.hid (fun (w1 : World) (hb : Below w.heap.size w w1) => vcolor_c (h.keep hb) b b0 b1)
  have P3 := Lib.hid (fun (w1 : World) (hb : Below w.heap.size w w1) => KT.swap a b (h.keep hb).hp.tbl a0 a1 b0 b1)
  have hct := Lib.hid (fun (w1 : World) (hb : Below w.heap.size w w1) => (h.keep hb).hp.ct)
  cases hsw : swapB H.T a b with
  | false =>
    have e : swapH H a b = H := by unfold swapH; rw [hsw]; rfl
    have eT : swapT H.T a b = H.T := by unfold swapT; rw [hsw]; rfl
    rw [e]
    rw [hsw, eT] at P3
    have hfin : Hid (∀ w1 w2 F', Below w.heap.size w w1 → TA w2 tb H.T F' → Ch (B 2) w1 w2 → Newer (B 2) F' w1.heap.size → Tn w w2 p n H B mp gw tb mt X) := Lib.hid (fun w1 w2 F' hb d1 d2 d3 => by
      obtain ⟨a1, a2, a3⟩ := (h.keep hb).hp.tstep d1 d2 d3
      exact Tn.pre hb ⟨_, ⟨a1, h.wr, h.inv⟩, a2, a3⟩)
    clear e eT hsw h
    generalize colI H a = ca at *
    generalize colI H b = cb at *
    go_enter Try.func9, Try.ntmps9
    go_wp2_with (first | (go_at_call 32; ((with_reducible refine (P1.out).mono ?_); rintro e w1 ⟨rfl, hb1⟩; replace hb1 := Lib.hid hb1)) | (go_at_call 32; ((with_reducible refine (P2.out _ hb1.out).mono ?_); rintro e w2 ⟨rfl, hb2⟩; have hb12 := Lib.hid (hb1.out.trans (hb2.mono hb1.out.size)); have ct := hct.out _ hb12.out; clear hb2)) | (go_at_call 34; ((with_reducible refine (P3.out _ hb12.out).mono ?_); rintro e w3 ⟨F', he, d1, d2, d3⟩; subst he; have hT := Lib.hid (hfin.out _ _ _ hb12.out d1 d2 d3); clear d1 d2 d3)))
    go_ret
    exact ⟨rfl, hT.out⟩
  | true =>
    rw [hsw] at P3
    obtain ⟨e1, e2⟩ := swT_col hsw
    have hfin : Hid (∀ w1 w2 F', Below w.heap.size w w1 → TA w2 tb (swapT H.T a b) F' → Ch (B 2) w1 w2 → Newer (B 2) F' w1.heap.size → Tn w w2 p n (swT H a b) B mp gw tb mt X) := Lib.hid (fun w1 w2 F' hb d1 d2 d3 => Tn.pre hb ((h.keep hb).tswap hsw d1 d2 d3))
    have hdk := Dk.shI (h.inv.swT hsw) a
    have hcolb : colI H a ≠ 3 → colI (shI (swT H a b) a) b ≠ 3 := fun hne => by
      obtain ⟨x, y, p, q, rfl, rfl, hx, hy, hp, hq, e⟩ := swap_of hsw
      have f2 : (swT H x y).T y = some p := by unfold swT; rw [e]; exact swap_y
      have g2 : (shI (swT H x y) x).T y = some p := by rw [hdk.t]; exact f2
      obtain ⟨c1, c2⟩ := atP_at f2 hy
      obtain ⟨c3, c4⟩ := atP_at g2 hy
      have hne' : colP (swT H x y) p ≠ 3 := by
        rw [← e2] at hne
        unfold colI at hne
        rw [if_pos c2, c1] at hne
        exact hne
      have okp := (h.inv.swT hsw).okP f2
      unfold colI
      rw [if_pos c4, c3]
      rcases hdk.col p okp with d | d
      · rw [d]; exact hne'
      · exact absurd d.1 hne'
    have key : swapH H a b = (if colI H a = 3 then (if colI H b = 3 then swT H a b else shI (swT H a b) b) else (if colI H b = 3 then shI (swT H a b) a else shI (shI (swT H a b) a) b)) := by
      unfold swapH
      rw [if_pos hsw]
      by_cases ha : colI H a = 3
      · by_cases hb : colI H b = 3
        · have : swN H a b = false := by unfold swN; rw [ha, hb]; rfl
          rw [this, if_pos ha, if_pos hb]; rfl
        · have : swN H a b = true := by unfold swN; simp [ha, hb]
          rw [this, if_pos ha, if_neg hb, if_pos rfl, shI_idle (i := a) (by rw [e1]; exact hb)]
      · by_cases hb : colI H b = 3
        · have : swN H a b = true := by unfold swN; simp [ha, hb]
          rw [this, if_neg ha, if_pos hb, if_pos rfl, shI_idle (i := b) (hcolb ha)]
        · have : swN H a b = false := by unfold swN; simp [ha, hb]
          rw [this, if_neg ha, if_neg hb, shI_idle (i := b) (hcolb ha), shI_idle (i := a) (by rw [e1]; exact hb)]; rfl
    rw [key]
    clear key hcolb hdk e1 e2 hsw h
    generalize swT H a b = S at *
    generalize swapT H.T a b = TS at *
    generalize colI H a = ca at *
    generalize colI H b = cb at *
    by_cases ha : ca = 3 <;> by_cases hb : cb = 3
    · rw [if_pos ha, if_pos hb]
      have q1 : (ca != 3) = false := by simp [ha]
      have q2 : (cb != 3) = false := by simp [hb]
      clear ha hb
      go_enter Try.func9, Try.ntmps9
      go_wp2_with (first | (go_at_call 32; ((with_reducible refine (P1.out).mono ?_); rintro e w1 ⟨rfl, hb1⟩; replace hb1 := Lib.hid hb1)) | (go_at_call 32; ((with_reducible refine (P2.out _ hb1.out).mono ?_); rintro e w2 ⟨rfl, hb2⟩; have hb12 := Lib.hid (hb1.out.trans (hb2.mono hb1.out.size)); have ct := hct.out _ hb12.out; clear hb2)) | (go_at_call 34; ((with_reducible refine (P3.out _ hb12.out).mono ?_); rintro e w3 ⟨F', he, d1, d2, d3⟩; subst he; have hT := Lib.hid (hfin.out _ _ _ hb12.out d1 d2 d3); clear d1 d2 d3)))
      go_ret
      exact ⟨rfl, hT.out⟩
    · rw [if_pos ha, if_neg hb]
      have q1 : (ca != 3) = false := by simp [ha]
      have q2 : (cb != 3) = true := by simp [hb]
      clear ha hb
      go_enter Try.func9, Try.ntmps9
      go_wp2_with (first | (go_at_call 32; ((with_reducible refine (P1.out).mono ?_); rintro e w1 ⟨rfl, hb1⟩; replace hb1 := Lib.hid hb1)) | (go_at_call 32; ((with_reducible refine (P2.out _ hb1.out).mono ?_); rintro e w2 ⟨rfl, hb2⟩; have hb12 := Lib.hid (hb1.out.trans (hb2.mono hb1.out.size)); have ct := hct.out _ hb12.out; clear hb2)) | (go_at_call 34; ((with_reducible refine (P3.out _ hb12.out).mono ?_); rintro e w3 ⟨F', he, d1, d2, d3⟩; subst he; have hT := Lib.hid (hfin.out _ _ _ hb12.out d1 d2 d3); clear d1 d2 d3)) | (go_at_call 35; ((with_reducible refine (hT.out.shade _ ?_ ?_).mono ?_); (with_reducible assumption); (with_reducible assumption); rintro e w4 ⟨rfl, hT4⟩; replace hT4 := Lib.hid hT4)))
      go_ret
      exact ⟨rfl, hT4.out⟩
    · rw [if_neg ha, if_pos hb]
      have q1 : (ca != 3) = true := by simp [ha]
      have q2 : (cb != 3) = false := by simp [hb]
      clear ha hb
      go_enter Try.func9, Try.ntmps9
      go_wp2_with (first | (go_at_call 32; ((with_reducible refine (P1.out).mono ?_); rintro e w1 ⟨rfl, hb1⟩; replace hb1 := Lib.hid hb1)) | (go_at_call 32; ((with_reducible refine (P2.out _ hb1.out).mono ?_); rintro e w2 ⟨rfl, hb2⟩; have hb12 := Lib.hid (hb1.out.trans (hb2.mono hb1.out.size)); have ct := hct.out _ hb12.out; clear hb2)) | (go_at_call 34; ((with_reducible refine (P3.out _ hb12.out).mono ?_); rintro e w3 ⟨F', he, d1, d2, d3⟩; subst he; have hT := Lib.hid (hfin.out _ _ _ hb12.out d1 d2 d3); clear d1 d2 d3)) | (go_at_call 35; ((with_reducible refine (hT.out.shade _ ?_ ?_).mono ?_); (with_reducible assumption); (with_reducible assumption); rintro e w4 ⟨rfl, hT4⟩; replace hT4 := Lib.hid hT4)))
      go_ret
      exact ⟨rfl, hT4.out⟩
    · rw [if_neg ha, if_neg hb]
      have q1 : (ca != 3) = true := by simp [ha]
      have q2 : (cb != 3) = true := by simp [hb]
      clear ha hb
      go_enter Try.func9, Try.ntmps9
      go_wp2_with (first | (go_at_call 32; ((with_reducible refine (P1.out).mono ?_); rintro e w1 ⟨rfl, hb1⟩; replace hb1 := Lib.hid hb1)) | (go_at_call 32; ((with_reducible refine (P2.out _ hb1.out).mono ?_); rintro e w2 ⟨rfl, hb2⟩; have hb12 := Lib.hid (hb1.out.trans (hb2.mono hb1.out.size)); have ct := hct.out _ hb12.out; clear hb2)) | (go_at_call 34; ((with_reducible refine (P3.out _ hb12.out).mono ?_); rintro e w3 ⟨F', he, d1, d2, d3⟩; subst he; have hT := Lib.hid (hfin.out _ _ _ hb12.out d1 d2 d3); clear d1 d2 d3)) | (go_at_call 35; ((with_reducible refine (hT4.out.shade _ ?_ ?_).mono ?_); (with_reducible assumption); (with_reducible assumption); rintro e w5 ⟨rfl, hT5⟩; replace hT5 := Lib.hid hT5)) | (go_at_call 35; ((with_reducible refine (hT.out.shade _ ?_ ?_).mono ?_); (with_reducible assumption); (with_reducible assumption); rintro e w4 ⟨rfl, hT4⟩; replace hT4 := Lib.hid hT4)))
      go_ret
      exact ⟨rfl, hT5.out⟩
end
end Wd
end Go.Proofs.Ytdaojohdmidemaa

/- The landed memory: look, Scan. -/
namespace Go.Proofs.Ytdaojohdmidemaa
open Go.RowKit Go.Maps
set_option linter.unusedVariables false
set_option maxRecDepth 20000
namespace Wd
section
variable {w w' w1 w2 : World} {p : Nat} {n : Nat → Nat} {B B1 : Nat → Nat → Prop} {mp gw : Nat → Nat} {tb mt : Nat} {T T' : Tst} {M : Nat → Mst} {X : Nat → Nat → Int} {H H1 H2 : Hst} {i : Int} {s c : Nat} {cl : Int} {L : List Int}
theorem HQ.obT (h : HQ w p n H B mp gw tb mt X) {k s c : Nat} (hT : H.T k = some ((s : Int), (c : Int))) : ∃ cl L, Ob n H X k s c cl L := by
  have hk := (h.inv.inv.bd k _ hT).2.1
  obtain ⟨e1, e2⟩ := atP_at hT hk
  obtain ⟨s', c', cl, L, o⟩ := h.ob e2
  have e := o.ha
  rw [e1] at e
  simp only [Prod.mk.injEq] at e
  obtain rfl : s = s' := by omega
  obtain rfl : c = c' := by omega
  exact ⟨cl, L, o⟩
set_option maxHeartbeats 8000000 in
theorem vlook_c (h : HQ w p n H B mp gw tb mt X) {k s c : Nat} (hT : H.T k = some ((s : Int), (c : Int))) :
    Calls Try.prog 37 #[.pointer (some ⟨p, 0, none⟩), plV ((s : Int), (c : Int))] w fun e w' => e = .returned (.tuple #[]) ∧ Tn w w' p n (holdH H (H.C ((s : Int), (c : Int))).2) B mp gw tb mt X := by
  obtain ⟨cl, L, o⟩ := h.obT hT
  have eC : (H.C ((s : Int), (c : Int))).2 = L := by rw [o.hC]
  rw [eC]
  obtain ⟨l1, l2⟩ := cell_in o.s5 o.cn o.few
  have hx := h.hp.xb s (c * wN s)
  have PS := Lib.hid (Size_c (X s (c * wN s)) hx.1 hx.2)
  rw [o.e2] at PS
  have fit := o.fit
  have l62 := o.l62
  have hW4 := (wN_bd o.s5).1
  have hlb := Lib.hid o.lb
  have hB : Below w.heap.size w (w.alloc (.cells #[.int .i64 s, .int .i64 c] 63)) := (Below.refl _ _).alloc (Nat.le_refl _) _
  have PC := Lib.hid (fun (w1 : World) (hb : Below w.heap.size w w1) => cell_c (h.hp.keep hb) o.s5 o.cn (h.inv.few s o.s5))
  have PA := Lib.hid (fun (w1 : World) (hb : Below w.heap.size w w1) => add_c (h.keep hb).hp.met (2 + (L.length : Int)) (by omega) (by omega))
  have hcc := Lib.hid (fun (w1 : World) (hb : Below w.heap.size w w1) => (h.keep hb).hp.cc)
  have hw0 := Lib.hid (fun (w2 : World) (hb : Below w.heap.size w w2) => (h.keep hb).hp.word o.s5 o.cn o.few (k := 0) (by omega))
  simp only [Nat.add_zero] at hw0
  have hfin := Lib.hid (fun (w1 w2 : World) (hb : Below w.heap.size w w1) (d1 : Mt w2 mt) (d2 : Ch (fun k => k = mt) w1 w2) => Tn.pre hb ⟨B, ((h.keep hb).count d1 d2).1, ((h.keep hb).count d1 d2).2, newer_refl9 _ _⟩)
  have hfs : Hid (∀ (wX : World) (l : List Int) (q : Nat) (y : Int), Tn w wX p n (holdH H l) B mp gw tb mt X → L[q]? = some y → wX.cell? ⟨gw s, c * wN s + 2 + q, none⟩ = some (.int .u32 y)) := Lib.hid (fun wX l q y t hy => by
    have hq := (List.getElem?_eq_some_iff.1 hy).1
    obtain ⟨B', h1, _, _⟩ := t
    have := h1.hp.word o.s5 o.cn o.few (k := 2 + q) (by omega)
    rw [← Nat.add_assoc, o.fs q y hy] at this
    exact this)
  unfold cellV plV at *
  simp only at PC ⊢
  clear h o eC hT
  generalize X s (c * wN s) = x at *
  generalize n s * wN s = N at *
  generalize c * wN s = a at *
  generalize wN s = W at *
  generalize gw s = g at *
  have hwl : IntKind.i64.wrap (2 + (L.length : Int)) = 2 + (L.length : Int) := by rw [IntKind.wrap_i64]; omega
  have hsl : (2 : Int) + (L.length : Int) = ((2 + L.length : Nat) : Int) := by omega
  obtain ⟨lh, hlh⟩ : ∃ lh, lh = 2 + L.length := ⟨_, rfl⟩
  have e1 : (2 : Int) ≤ (lh : Int) := by omega
  have e2 : (lh : Int) ≤ ((N - a : Nat) : Int) := by omega
  have e3 : lh ≤ N - a := by omega
  have e4 : 2 ≤ lh := by omega
  have e6 : ¬ (N - a = 2) := by omega
  have hW0 : 0 < W := by omega
  rw [hsl, ← hlh] at hwl PA
  have hwl' : IntKind.i64.wrap (2 + (L.length : Int)) = (lh : Int) := by rw [hsl, ← hlh]; exact hwl
  replace hlh := Lib.hid hlh
  clear hwl hsl hx
  generalize hw2 : w.alloc (.cells #[.int .i64 s, .int .i64 c] 63) = w2 at *
  have q0 : w2.cell? ⟨w.heap.size, 0, none⟩ = some (.int .i64 s) := by rw [← hw2]; simp
  have q1 : w2.cell? ⟨w.heap.size, 1, none⟩ = some (.int .i64 c) := by rw [← hw2]; simp
  replace hB := Lib.hid hB
  go_enter Try.func37, Try.ntmps37
  go_wp2_with fail
  clear hw2
  go_wp2_with (first | (go_at_call 51; ((with_reducible refine (PC.out _ hB.out).mono ?_); rintro e w1 ⟨rfl, hb1⟩; have hb2 := Lib.hid (hB.out.trans (hb1.mono hB.out.size)); have c0 := hw0.out _ hb2.out; have hb3 := Lib.hid hb2.out.drew; have cc := hcc.out _ hb3.out; have PA2 := Lib.hid (PA.out _ hb3.out); clear hb1)) | (go_at_call 44; ((with_reducible refine (PS.out _).mono ?_); rintro e w3 ⟨rfl, hw3⟩; subst w3)) | (go_at_call 31; ((with_reducible refine (PA2.out).mono ?_); rintro e w4 ⟨rfl, d1, d2⟩; have hT := Lib.hid (hfin.out _ _ hb3.out d1 d2); clear d1 d2)))
  have hc2 : Hid (∀ (wX : World) (q : Nat) (y : Int), Tn w wX p n (holdH H (L.take q)) B mp gw tb mt X → L[q]? = some y → wX.cell? ⟨g, a + 2 + q, none⟩ = some (.int .u32 y)) := Lib.hid (fun wX q y t hy => hfs.out wX _ q y t hy)
  have eL : lh - 2 = L.length := by have := hlh.out; omega
  rw [eL]
  replace eL := Lib.hid eL
  clear PA2 cc c0 hb3 hb2 hfs hfin hw0 hcc PA PC PS
  have S0 : Tn w w4 p n (holdH H (L.take 0)) B mp gw tb mt X := hT.out
  replace S0 := Lib.hid S0
  go_loopw [27] (fun i' wr => ∃ q : Nat, q ≤ L.length ∧ i' = .int .i64 q ∧ Tn w wr p n (holdH H (L.take q)) B mp gw tb mt X) (fun i' _ => L.length - (intOf i').toNat)
  case atStart => exact ⟨0, by omega, rfl, S0.out⟩
  case round =>
    obtain ⟨q, hq, rfl, hR⟩ := hrel
    by_cases hlt : q < L.length
    · have hd : decide ((q : Int) < (L.length : Int)) = true := by simp; omega
      have hw1 : IntKind.i64.wrap ((q : Int) + 1) = (q : Int) + 1 := by rw [IntKind.wrap_i64]; omega
      have hxq : L[q]? = some L[q] := by simp [hlt]
      have hc := hc2.out wr q _ hR hxq
      have hxb := hlb.out L[q] (List.getElem_mem hlt)
      have eN := hold_succ (H := H) hxq
      have P := Lib.hid (hR.shw L[q] (by omega) (by omega))
      rw [← eN] at P
      replace hR := Lib.hid hR
      clear eN hxq
      generalize L[q] = y at *
      go_wp2_with (first | (go_at_call 33; ((with_reducible refine (P.out).mono ?_); rintro e w5 ⟨rfl, hd1⟩; replace hd1 := Lib.hid hd1)))
      clear hR P hc
      go_roundw
      case rel => exact ⟨q + 1, by omega, by go_num, hd1.out⟩
      case measure => simp [intOf]; omega
    · have e : q = L.length := by omega
      subst e
      have hd : decide ((L.length : Int) < (L.length : Int)) = false := by simp
      rw [List.take_length] at hR
      replace hR := Lib.hid hR
      go_wp2
      go_end0
      exact ⟨rfl, hR.out⟩
theorem Tn.look (t : Tn w w1 p n H1 B mp gw tb mt X) {k s c : Nat} (hT : H1.T k = some ((s : Int), (c : Int))) :
    Calls Try.prog 37 #[.pointer (some ⟨p, 0, none⟩), plV ((s : Int), (c : Int))] w1 fun e w' => e = .returned (.tuple #[]) ∧ Tn w w' p n (holdH H1 (H1.C ((s : Int), (c : Int))).2) B mp gw tb mt X := by
  obtain ⟨B', h1, h2, h3⟩ := t
  refine (vlook_c h1 hT).mono ?_
  rintro e w' ⟨rfl, t2⟩
  exact ⟨rfl, tn_then h2 h3 t2⟩
theorem first_row {A : Mst} {x : Nat} (h : A x ≠ []) : firstR A x ∈ A x := by
  unfold firstR
  cases hA : A x with
  | nil => exact absurd hA h
  | cons y t => simp
theorem Tn.pos (t : Tn w w1 p n H1 B mp gw tb mt X) {s : Nat} (s5 : s < 5) {x : Nat} (hx : x < 4) (hne : H1.M s x ≠ []) : 1 ≤ n s := by
  obtain ⟨B', h1, h2, h3⟩ := t
  rcases Nat.eq_zero_or_pos (n s) with h0 | h0
  · exfalso
    have hg := h1.inv.good s s5
    rw [h0] at hg
    obtain ⟨e0, e1, e2, e3⟩ := good_nil hg
    rcases (show x = 0 ∨ x = 1 ∨ x = 2 ∨ x = 3 by omega) with rfl | rfl | rfl | rfl
    · exact hne e0
    · exact hne e1
    · exact hne e2
    · exact hne e3
  · exact h0
theorem Tn.mscan (t : Tn w w1 p n H1 B mp gw tb mt X) {s : Nat} (s5 : s < 5) (hne : H1.M s 2 ≠ []) :
    Calls Try.prog 38 #[.pointer (some ⟨mp s, 0, none⟩)] w1 fun e w' => e = .returned (.int .i64 (firstR (H1.M s) 2)) ∧ Tn w w' p n (scA H1 s) B mp gw tb mt X := by
  have hn := t.pos s5 (by omega) hne
  obtain ⟨B', h1, h2, h3⟩ := t
  refine (KM.scan (h1.hp.mill s s5 hn)).mono ?_
  rintro e w' ⟨F', rfl, d1, d2, d3⟩
  exact ⟨rfl, tn_then h2 h3 (h1.mstep s5 hn d1 d2 d3 (h1.inv.scA s))⟩
/-- whose cell the first Grey one is -/
theorem Tn.whose (t : Tn w w1 p n H1 B mp gw tb mt X) {s : Nat} (s5 : s < 5) (hne : H1.M s 2 ≠ []) : ∃ k c : Nat, firstR (H1.M s) 2 = (c : Int) ∧ H1.T k = some ((s : Int), (c : Int)) := by
  obtain ⟨B', h1, h2, h3⟩ := t
  have hm := first_row hne
  have hib := (good_mem (h1.inv.good s s5)).1 (show firstR (H1.M s) 2 ∈ LL (H1.M s) by unfold LL; simp [hm])
  obtain ⟨k, hk⟩ := h1.inv.full s _ s5 hib.1 hib.2 (fun h0 => by have := good_apart (h1.inv.good s s5) (x := 0) (y := 2) (by omega) (by omega) h0 hm; omega)
  refine ⟨k, (firstR (H1.M s) 2).toNat, by omega, ?_⟩
  rw [show (((firstR (H1.M s) 2).toNat : Nat) : Int) = firstR (H1.M s) 2 by omega]
  exact hk
theorem Tn.grey (t : Tn w w1 p n H1 B mp gw tb mt X) : Calls Try.prog 36 #[.pointer (some ⟨p, 0, none⟩)] w1 fun e w' => e = .returned (.int .i64 (gryI H1)) ∧ Tn w w' p n H1 B mp gw tb mt X := by
  have t0 := t
  obtain ⟨B', h1, h2, h3⟩ := t
  refine (vgrey_c h1).mono ?_
  rintro e w' ⟨rfl, hb⟩
  exact ⟨rfl, t0.keep hb⟩
/-- so far: j steps, d words -/
structure VS (w : World) (p : Nat) (n : Nat → Nat) (H : Hst) (B : Nat → Nat → Prop) (mp gw : Nat → Nat) (tb mt : Nat) (X : Nat → Nat → Int) (W : Int) (j : Nat) (d : Int) (wr : World) (H' : Hst) : Prop where
  t : Tn w wr p n H' B mp gw tb mt X
  d0 : 4 * (j : Int) ≤ d
  d1 : d ≤ W + 64
  e : scanN (262145 - j) W d H' = scanN 262145 W 0 H
theorem clamp_bd (x : Int) : 0 ≤ clampW x ∧ clampW x ≤ 1048576 := by unfold clampW; omega
set_option maxHeartbeats 8000000 in
theorem vscan_c (h : HQ w p n H B mp gw tb mt X) (x : Int) :
    Calls Try.prog 11 #[.pointer (some ⟨p, 0, none⟩), .int .i64 x] w fun e w' => e = .returned (.int .i64 (scanR H x).1) ∧ Tn w w' p n (scanR H x).2 B mp gw tb mt X := by
  unfold scanR
  have hcl := clamp_bd x
  obtain ⟨W, hW⟩ : ∃ W, W = clampW x := ⟨_, rfl⟩
  rw [← hW] at hcl ⊢
  have S0 : VS w p n H B mp gw tb mt X W 0 0 w H := ⟨Tn.refl h, by simp, by omega, rfl⟩
  replace S0 := Lib.hid S0
  have hcut : Hid (∀ d : Int, 0 ≤ d → (d < W ↔ (d < x ∧ d < 1048576))) := Lib.hid (fun d d0 => by rw [hW]; unfold clampW; omega)
  clear h hW
  go_enter Try.func11, Try.ntmps11
  go_wp2
  go_loopw [5] (fun d' wr => ∃ (j : Nat) (d : Int) (H' : Hst), d' = .int .i64 d ∧ VS w p n H B mp gw tb mt X W j d wr H') (fun d' _ => (W + 64 - intOf d').toNat)
  case atStart => exact ⟨0, 0, H, rfl, S0.out⟩
  case round =>
    obtain ⟨j, d, H', rfl, hR⟩ := hrel
    have hd0 := hR.d0
    have hd1 := hR.d1
    have hct := hcut.out d (by omega)
    by_cases hlt : d < W
    · obtain ⟨u1, u2⟩ := hct.1 hlt
      have v1 : decide (d < x) = true := by simpa using u1
      have v2 : decide (d < 1048576) = true := by simpa using u2
      have PG := Lib.hid hR.t.grey
      cases hdn : doneB H' with
      | true =>
        rw [gryI_none (gry_none hdn)] at PG
        have eS := hR.e
        rw [scanN_stop (Or.inr hdn)] at eS
        replace eS := Lib.hid eS
        clear hR hdn hct u1 u2 hd0 hd1
        go_wp2_with (first | (go_at_call 36; ((with_reducible refine (PG.out).mono ?_); rintro e w1 ⟨rfl, ht⟩; replace ht := Lib.hid ht)))
        go_ret
        rw [← eS.out]
        exact ⟨rfl, ht.out⟩
      | false =>
        obtain ⟨s, hg, hs5, hne, hem⟩ := gry_some hdn
        rw [gryI_some hg] at PG
        obtain ⟨m, hm⟩ : ∃ m, 262145 - j = m + 1 := ⟨262145 - j - 1, by omega⟩
        have eS := hR.e
        rw [hm, scanN_go hlt hg] at eS
        have hm' : m = 262145 - (j + 1) := by omega
        rw [hm'] at eS
        have hn1 := hR.t.pos hs5 (by omega) hne
        have hcm : Hid (∀ wX, Tn w wX p n H' B mp gw tb mt X → wX.cell? ⟨p, s, none⟩ = some (.pointer (some ⟨mp s, 0, none⟩))) := Lib.hid (fun wX t => by
          obtain ⟨B', h1, _, _⟩ := t
          have := h1.hp.cm s hs5
          rw [if_neg (by omega)] at this
          exact this)
        have PM := Lib.hid (fun (wX : World) (t : Tn w wX p n H' B mp gw tb mt X) => t.mscan hs5 hne)
        obtain ⟨k, c, hc, hT⟩ := hR.t.whose hs5 hne
        rw [hc] at PM
        have PL := Lib.hid (fun (wX : World) (t : Tn w wX p n (scA H' s) B mp gw tb mt X) => t.look (k := k) (s := s) (c := c) hT)
        have e1 : holdH (scA H' s) ((scA H' s).C ((s : Int), (c : Int))).2 = scan1 H' s := by unfold scan1; rw [hc]; rfl
        rw [e1] at PL
        have w4 := wd_four hs5
        have PW := Lib.hid (words_c (s : Int) (by omega) (by omega))
        have hwd : IntKind.i64.wrap (d + wd s) = d + wd s := by rw [IntKind.wrap_i64]; omega
        have hs5' : (s : Int) < 5 := by omega
        unfold plV at PL
        simp only at PL
        have hsn : decide ((s : Int) < 0) = false := by simp
        replace eS := Lib.hid eS
        clear hR hdn hct u1 u2 hg hne hem hc hT e1 hm hm'
        generalize wd (s : Int) = ws at *
        generalize mp s = ms at *
        go_wp2_with (first | (go_at_call 36; ((with_reducible refine (PG.out).mono ?_); rintro e w1 ⟨rfl, ht⟩; have cm := hcm.out _ ht; have PM2 := Lib.hid (PM.out _ ht); replace ht := Lib.hid ht)) | (go_at_call 38; ((with_reducible refine (PM2.out).mono ?_); rintro e w2 ⟨rfl, ht2⟩; have PL2 := Lib.hid (PL.out _ ht2); replace ht2 := Lib.hid ht2)) | (go_at_call 37; ((with_reducible refine (PL2.out).mono ?_); rintro e w3 ⟨rfl, ht3⟩; replace ht3 := Lib.hid ht3)) | (go_at_call 24; ((with_reducible refine (PW.out _).mono ?_); rintro e w4 ⟨rfl, hw4⟩; subst w4)))
        have hN : VS w p n H B mp gw tb mt X W (j + 1) (d + ws) w3 (scan1 H' s) := ⟨ht3.out, by omega, by omega, eS.out⟩
        replace hN := Lib.hid hN
        clear ht ht2 ht3 PL PL2 PM PM2 hcm cm PG PW S0 eS
        go_roundw
        case rel => exact ⟨j + 1, d + ws, _, by go_num, hN.out⟩
        case measure => simp only [intOf]; omega
    · have eS := hR.e
      rw [scanN_stop (Or.inl (by omega))] at eS
      have ht := Lib.hid hR.t
      replace eS := Lib.hid eS
      clear hR
      by_cases u1 : d < x
      · have v1 : decide (d < x) = true := by simpa using u1
        have v2 : decide (d < 1048576) = false := by simp; omega
        clear hct
        go_wp2
        go_ret
        rw [← eS.out]
        exact ⟨rfl, ht.out⟩
      · have v1 : decide (d < x) = false := by simpa using u1
        clear hct
        go_wp2
        go_ret
        rw [← eS.out]
        exact ⟨rfl, ht.out⟩
end
end Wd
end Go.Proofs.Ytdaojohdmidemaa

/- The landed memory: Flip. -/
namespace Go.Proofs.Ytdaojohdmidemaa
open Go.RowKit Go.Maps
set_option linter.unusedVariables false
set_option maxRecDepth 20000
namespace Wd
theorem flipA_nil {A : Mst} (h0 : A 0 = []) (h1 : A 1 = []) (h2 : A 2 = []) (h3 : A 3 = []) : flipA A = A := by
  unfold flipA
  rw [if_pos h2]
  funext j
  unfold upA
  split
  · rename_i e; subst e; exact h1.symm
  · split
    · rename_i e; subst e; rw [h1, h3]
    · split
      · rename_i e; subst e; rw [h0, h3]; rfl
      · rfl
section
variable {w w' w1 w2 : World} {p : Nat} {n : Nat → Nat} {B B1 : Nat → Nat → Prop} {mp gw : Nat → Nat} {tb mt : Nat} {T T' : Tst} {M M' : Nat → Mst} {X : Nat → Nat → Int} {H H1 H2 : Hst} {i : Int} {s c : Nat} {cl : Int} {L : List Int}
/-- the place that is given back next is somebody's -/
theorem flip_here (h : HInv n H) (hd : doneB H = true) {k q : Nat} (hk : k < 5) {y : Int} (hq : (flipR (H.M k))[q]? = some y) :
    ∃ id : Nat, id < 1024 ∧ ofR (flQ H k q).1 ((k : Int), y) = some id ∧ (flQ H k q).1 id = some ((k : Int), y) := by
  have e3 : flipR (H.M k) = H.M k 3 := by unfold flipR; rw [if_pos (done_of hd k hk)]
  have hS : flipS H k = (H.M k 3).map (fun c => ((k : Int), c)) := by unfold flipS; rw [e3]
  rw [e3] at hq
  have hm : y ∈ H.M k 3 := List.mem_of_getElem? hq
  have hib := (good_mem (h.good k hk)).1 (show y ∈ LL (H.M k) by unfold LL; simp [hm])
  obtain ⟨id, hid⟩ := h.full k y hk hib.1 hib.2 (fun h0 => by have := good_apart (h.good k hk) (x := 0) (y := 3) (by omega) (by omega) h0 hm; omega)
  have hid4 := (h.inv.bd id _ hid)
  have hfold : flQ H k q = (flipL H k ++ (flipS H k).take q).foldl giveP (H.T, 0) := by unfold flQ flX; rw [List.foldl_append]
  obtain ⟨f1, f2⟩ := fold_give h.inv 0 (flipL H k ++ (flipS H k).take q)
  rw [← hfold] at f1 f2
  have hT : (flQ H k q).1 id = some ((k : Int), y) := by
    rw [f2 id, if_neg, hid]
    rintro ⟨r, hr, hre⟩
    rw [hid] at hre
    cases hre
    rcases List.mem_append.1 hr with hr | hr
    · unfold flipL at hr
      obtain ⟨s, hs, hr⟩ := List.mem_flatMap.1 hr
      unfold flipS at hr
      obtain ⟨c, _, hc⟩ := List.mem_map.1 hr
      have := List.mem_range.1 hs
      have e := congrArg Prod.fst hc
      simp only at e
      omega
    · rw [hS, ← List.map_take] at hr
      obtain ⟨c, hc, he⟩ := List.mem_map.1 hr
      have e := congrArg Prod.snd he
      simp only at e
      subst e
      obtain ⟨j, hj, hje⟩ := List.mem_take_iff_getElem.1 hc
      obtain ⟨hq1, hq2⟩ := List.getElem?_eq_some_iff.1 hq
      have hne : j ≠ q := by omega
      exact hne ((List.getElem_inj (nd3 (h.good k hk))).1 (hje.trans hq2.symm))
  exact ⟨id, hid4.2.1, ofR_at f1 hT, hT⟩
theorem HP.congrM (h : HP w p n B mp gw tb mt T M X) (hM : ∀ s, s < 5 → 1 ≤ n s → M s = M' s) : HP w p n B mp gw tb mt T M' X :=
  ⟨h.cm, h.cw, h.ct, h.cc, h.bp, h.bm, h.bg, fun s h1 h2 => by rw [← hM s h1 h2]; exact h.mill s h1 h2, h.tbl, h.met, h.row, h.zg, h.xb, h.ap, h.lt⟩
/-- the memory as it lies, in the midst of a call -/
def FV (w w' : World) (p : Nat) (n : Nat → Nat) (T : Tst) (M : Nat → Mst) (B : Nat → Nat → Prop) (mp gw : Nat → Nat) (tb mt : Nat) (X : Nat → Nat → Int) : Prop :=
  ∃ B', HP w' p n B' mp gw tb mt T M X ∧ Ch (un B) w w' ∧ Newer (un B) (un B') w.heap.size
theorem fv_then (c1 : Ch (un B) w w1) (n1 : Newer (un B) (un B1) w.heap.size) (h : FV w1 w2 p n T M B1 mp gw tb mt X) : FV w w2 p n T M B mp gw tb mt X := by
  obtain ⟨B', h1, h2, h3⟩ := h
  exact ⟨B', h1, c1.then_ h2 n1, Newer.trans n1 h3 c1.size⟩
theorem FV.keep (h : FV w w1 p n T M B mp gw tb mt X) (g : Below w1.heap.size w1 w2) : FV w w2 p n T M B mp gw tb mt X := by
  obtain ⟨B', h1, h2, h3⟩ := h
  exact ⟨B', h1.keep g, h2.trans (below_un g), h3⟩
theorem FV.of (h : FV w w1 p n T M B mp gw tb mt X) {pl : Pl} {id : Nat} (ho : ofR T pl = some id) (hp : plOk pl) :
    Calls Try.prog 40 #[.pointer (some ⟨tb, 0, none⟩), plV pl] w1 fun e w' => e = .returned (.tuple #[.int .i64 id, .bool true]) ∧ FV w w' p n T M B mp gw tb mt X := by
  have h0 := h
  obtain ⟨B', h1, h2, h3⟩ := h
  refine (KT.of pl h1.tbl hp).mono ?_
  rintro e w' ⟨rfl, hb⟩
  refine ⟨?_, h0.keep hb⟩
  have : ofI T pl = (id : Int) := by unfold ofI; rw [ho]; rfl
  rw [this, ho]; rfl
theorem FV.give (h : FV w w1 p n T M B mp gw tb mt X) {id : Nat} (hi : id < 1024) {pl : Pl} (hT : T id = some pl) :
    Calls Try.prog 41 #[.pointer (some ⟨tb, 0, none⟩), .int .i64 id] w1 fun e w' => e = .returned (.bool true) ∧ FV w w' p n (updT T id none) M B mp gw tb mt X := by
  have hh : hasT T (id : Int) = true := by rw [hasT_in hi]; unfold inR; rw [hT]; rfl
  have eG : giveT T (id : Int) = updT T id none := by unfold giveT; rw [if_pos hh]; simp
  obtain ⟨B', h1, h2, h3⟩ := h
  refine (KT.give (id : Int) h1.tbl (by omega) (by omega)).mono ?_
  rintro e w' ⟨F', rfl, d1, d2, d3⟩
  rw [eG] at d1
  obtain ⟨a1, a2, a3⟩ := h1.tstep d1 d2 d3
  exact ⟨by rw [hh], fv_then h2 h3 ⟨_, a1, a2, a3⟩⟩
theorem FV.ct (h : FV w w1 p n T M B mp gw tb mt X) : w1.cell? ⟨p, 10, none⟩ = some (.pointer (some ⟨tb, 0, none⟩)) := by
  obtain ⟨B', h1, h2, h3⟩ := h
  exact h1.ct
/-- behind the first k sizes -/
structure VF (w : World) (p : Nat) (n : Nat → Nat) (H : Hst) (B : Nat → Nat → Prop) (mp gw : Nat → Nat) (tb mt : Nat) (X : Nat → Nat → Int) (k : Nat) (m : Int) (wr : World) : Prop where
  v : FV w wr p n (flX H k).1 (flpM H k) B mp gw tb mt X
  e : m = (flX H k).2
  m0 : 0 ≤ m
  m1 : m ≤ 512 * (k : Int)
/-- behind the first q of size k -/
structure VG (w1 : World) (p : Nat) (n : Nat → Nat) (H : Hst) (B : Nat → Nat → Prop) (mp gw : Nat → Nat) (tb mt : Nat) (X : Nat → Nat → Int) (k q : Nat) (m : Int) (wr : World) : Prop where
  v : FV w1 wr p n (flQ H k q).1 (flpM H (k + 1)) B mp gw tb mt X
  e : m = (flQ H k q).2
  m0 : 0 ≤ m
  m1 : m ≤ 512 * (k : Int) + q
set_option maxHeartbeats 16000000 in
theorem vflip_c (h : HQ w p n H B mp gw tb mt X) :
    Calls Try.prog 13 #[.pointer (some ⟨p, 0, none⟩)] w fun e w' => e = .returned (.int .i64 (flpI H)) ∧ Tn w w' p n (flpH H) B mp gw tb mt X := by
  have PD := Lib.hid (vdone_c h)
  cases hd : doneB H with
  | false =>
    have e1 : flpI H = -1 := by unfold flpI; rw [hd]; rfl
    have e2 : flpH H = H := by unfold flpH; rw [hd]; rfl
    rw [e1, e2]
    rw [hd] at PD
    replace h := Lib.hid h
    clear e1 e2 hd
    go_enter Try.func13, Try.ntmps13
    go_wp2_with (first | (go_at_call 12; ((with_reducible refine (PD.out).mono ?_); rintro e w1 ⟨rfl, hb⟩; replace hb := Lib.hid hb)))
    go_ret
    exact ⟨rfl, (Tn.refl h.out).keep hb.out⟩
  | true =>
    have e1 : flpI H = (flX H 5).2 := by unfold flpI flX flpX; rw [if_pos hd]
    have e2 : flpH H = flH H 5 := by unfold flpH flH flX flpX; rw [if_pos hd]
    have hi9 := h.inv.flp
    rw [e2] at hi9
    rw [e1, e2]
    rw [hd] at PD
    have hhere : Hid (∀ (k q : Nat) (y : Int), k < 5 → (flipR (H.M k))[q]? = some y → ∃ id : Nat, id < 1024 ∧ ofR (flQ H k q).1 ((k : Int), y) = some id ∧ (flQ H k q).1 id = some ((k : Int), y)) := Lib.hid (fun k q y hk hq => flip_here h.inv hd hk hq)
    have hlen : Hid (∀ k, k < 5 → (flipS H k).length = (flipR (H.M k)).length ∧ (flipR (H.M k)).length ≤ 512) := Lib.hid (fun k hk => flipS_len h.inv hk)
    have hemp : Hid (∀ k, k < 5 → n k = 0 → flipA (H.M k) = H.M k ∧ flipS H k = []) := Lib.hid (fun k hk h0 => by
      have hg := h.inv.good k hk
      rw [h0] at hg
      obtain ⟨e0, e1, e2, e3⟩ := good_nil hg
      exact ⟨flipA_nil e0 e1 e2 e3, by unfold flipS flipR; rw [if_pos e2, e3]; rfl⟩)
    have hplk : Hid (∀ k q y, k < 5 → (flipR (H.M k))[q]? = some y → plOk ((k : Int), y)) := Lib.hid (fun k q y hk hq => by
      obtain ⟨id, i1, i2, i3⟩ := hhere.out k q y hk hq
      have hm : y ∈ H.M k 3 := by
        have := List.mem_of_getElem? hq
        unfold flipR at this
        rw [if_pos (done_of hd k hk)] at this
        exact this
      have hib := (good_mem (h.inv.good k hk)).1 (show y ∈ LL (H.M k) by unfold LL; simp [hm])
      have := h.inv.few k hk
      exact ⟨⟨by simp only; omega, by simp only; omega⟩, ⟨by simp only; omega, by simp only; omega⟩⟩)
    have hfin : Hid (∀ wX, FV w wX p n (flX H 5).1 (flpM H 5) B mp gw tb mt X → Tn w wX p n (flH H 5) B mp gw tb mt X) := Lib.hid (fun wX t => by
      obtain ⟨B', h1, h2, h3⟩ := t
      refine ⟨B', ⟨h1, h.wr.ids (fun k q hk => ⟨k, ?_⟩), hi9⟩, h2, h3⟩
      have hk' : (flX H 5).1 k = some q := hk
      unfold flX at hk'
      rw [(fold_give h.inv.inv 0 (flipL H 5)).2 k] at hk'
      split at hk'
      · cases hk'
      · exact hk')
    have m0 := Lib.hid (fun (wX : World) (hb : Below w.heap.size w wX) => (h.keep hb).hp.cm5 0 (by omega))
    have m1 := Lib.hid (fun (wX : World) (hb : Below w.heap.size w wX) => (h.keep hb).hp.cm5 1 (by omega))
    have m2 := Lib.hid (fun (wX : World) (hb : Below w.heap.size w wX) => (h.keep hb).hp.cm5 2 (by omega))
    have m3 := Lib.hid (fun (wX : World) (hb : Below w.heap.size w wX) => (h.keep hb).hp.cm5 3 (by omega))
    have m4 := Lib.hid (fun (wX : World) (hb : Below w.heap.size w wX) => (h.keep hb).hp.cm5 4 (by omega))
    have hmv : Hid (∀ s, n s = 0 → mv n mp s = none) := Lib.hid (fun s h0 => by unfold mv; rw [if_pos h0])
    have hmq : Hid (∀ s, n s ≠ 0 → mv n mp s = some ⟨mp s, 0, none⟩) := Lib.hid (fun s h0 => by unfold mv; rw [if_neg h0])
    have hix := Lib.hid (fun (s : Nat) (hs : s < 5) (w : World) => index_mv (mv n mp) hs w)
    have S0 : Hid (∀ wX, Below w.heap.size w wX → VF w p n H B mp gw tb mt X 0 0 wX) := Lib.hid (fun wX hb => ⟨by
      rw [flpM_zero]
      exact ⟨B, (h.keep hb).hp, below_un hb, newer_refl9 _ _⟩, rfl, by omega, by omega⟩)
    clear e1 e2 hd hi9 h
    generalize mv n mp = v at *
    unfold millsV at hix
    generalize v 0 = v0 at *
    generalize v 1 = v1 at *
    generalize v 2 = v2 at *
    generalize v 3 = v3 at *
    generalize v 4 = v4 at *
    go_enter Try.func13, Try.ntmps13
    go_wp2_with (first | (go_at_call 12; ((with_reducible refine (PD.out).mono ?_); rintro e w1 ⟨rfl, hb⟩; have c0 := m0.out _ hb; have c1 := m1.out _ hb; have c2 := m2.out _ hb; have c3 := m3.out _ hb; have c4 := m4.out _ hb; have S1 := Lib.hid (S0.out _ hb); clear hb)))
    clear c0 c1 c2 c3 c4 m0 m1 m2 m3 m4 PD S0
    go_loopw [3, 17] (fun m' i' wr => ∃ (k : Nat) (m : Int), k ≤ 5 ∧ m' = .int .i64 m ∧ i' = .int .i64 k ∧ VF w p n H B mp gw tb mt X k m wr) (fun _ i' _ => 5 - (intOf i').toNat)
    case atStart => exact ⟨0, 0, by omega, rfl, rfl, S1.out⟩
    case round =>
      clear S1
      obtain ⟨k, m, hk, rfl, rfl, hR⟩ := hrel
      by_cases hlt : k < 5
      · have hlt5 : decide ((k : Int) < 5) = true := by simp; omega
        have hw1 : IntKind.i64.wrap ((k : Int) + 1) = (k : Int) + 1 := by rw [IntKind.wrap_i64]; omega
        have hx := hix.out k hlt wr
        by_cases h0 : n k = 0
        · rw [hmv.out k h0] at hx
          obtain ⟨e1, e2⟩ := hemp.out k hlt h0
          have hN : VF w p n H B mp gw tb mt X (k + 1) m wr := by
            have eX : flX H (k + 1) = flX H k := by rw [flX_succ, e2, ← flQ_zero]; rfl
            have eM : flpM H (k + 1) = flpM H k := by rw [← upM_flip, e1, ← flpM_self H k, upM_self]
            exact ⟨by rw [eX, eM]; exact hR.v, by rw [eX]; exact hR.e, hR.m0, by have := hR.m1; omega⟩
          replace hN := Lib.hid hN
          clear hR e1 e2
          go_wp2
          go_roundw
          case rel => exact ⟨k + 1, m, by omega, by go_num, by go_num, hN.out⟩
          case measure => simp [intOf]; omega
        · rw [hmq.out k h0] at hx
          have em0 := hR.m0
          have em1 := hR.m1
          have hme := Lib.hid hR.e
          obtain ⟨B', h1, h2, h3⟩ := hR.v
          have hmil := h1.mill k hlt (by omega)
          rw [flpM_self] at hmil
          have Q := Lib.hid (KM.flip hmil)
          obtain ⟨hfs, hf5⟩ := hlen.out k hlt
          have hmst : Hid (∀ (w2 : World) (F' : Nat → Prop), MA w2 (mp k) (n k) (flipA (H.M k)) F' → Ch (B' (3 + k)) wr w2 → Newer (B' (3 + k)) F' wr.heap.size → HP w2 p n (upB B' (3 + k) F') mp gw tb mt (flX H k).1 (flpM H (k + 1)) X ∧ Ch (un B') wr w2 ∧ Newer (un B') (un (upB B' (3 + k) F')) wr.heap.size) := Lib.hid (fun w2 F' d1 d2 d3 => by
            have := h1.mstep hlt (by omega) d1 d2 d3
            rw [upM_flip] at this
            exact this)
          have hltB := Lib.hid (fun k hk => h1.ltu k hk)
          replace h2 := Lib.hid h2
          replace h3 := Lib.hid h3
          clear hR h1 hmil
          go_wp2_with (first | (go_at_call 39; ((with_reducible refine (Q.out).mono ?_); rintro e w2 ⟨u, F', he, d1, d2, d3, hsl, hfar⟩; obtain ⟨ua, uc, rfl⟩ := hsl.form; subst he)))
          obtain ⟨P1, C1, N1⟩ := hmst.out _ _ d1 d2 d3
          have hlt2 := P1.ltu
          have hfarB : ∀ g, (Value.slice ua (flipR (H.M k)).length uc).ownBlock = some g → ¬ un (upB B' (3 + k) F') g := fun g hg hun => by
            obtain ⟨f1, f2⟩ := hfar g hg
            obtain ⟨j, hj⟩ := hun
            unfold upB at hj
            split at hj
            · exact f2 hj
            · have := hltB.out g ⟨j, hj⟩; omega
          have G0 : VG w2 p n H (upB B' (3 + k) F') mp gw tb mt X k 0 m w2 := ⟨by rw [flQ_zero]; exact ⟨_, P1, Ch.refl _ _, newer_refl9 _ _⟩, by rw [flQ_zero]; exact hme.out, em0, by omega⟩
          replace G0 := Lib.hid G0
          have cA := Lib.hid (h2.out.then_ C1 h3.out)
          have nA := Lib.hid (Newer.trans h3.out N1 h2.out.size)
          have hend : Hid (∀ q m2 wX, q = (flipR (H.M k)).length → VG w2 p n H (upB B' (3 + k) F') mp gw tb mt X k q m2 wX → VF w p n H B mp gw tb mt X (k + 1) m2 wX) := Lib.hid (fun q m2 wX hq g => by
            have eX : flQ H k q = flX H (k + 1) := by rw [flX_succ, hfs, hq]
            exact ⟨by rw [← eX]; exact fv_then cA.out nA.out g.v, by rw [← eX]; exact g.e, g.m0, by have := g.m1; omega⟩)
          have hcur : Hid (∀ q y, (flipR (H.M k))[q]? = some y → ∃ id : Nat, id < 1024 ∧ ofR (flQ H k q).1 ((k : Int), y) = some id ∧ (flQ H k q).1 id = some ((k : Int), y) ∧ plOk ((k : Int), y) ∧ flQ H k (q + 1) = (updT (flQ H k q).1 id none, (flQ H k q).2 + 1)) := Lib.hid (fun q y hq => by
            obtain ⟨id, i1, i2, i3⟩ := hhere.out k q y hlt hq
            have hp : (flipS H k)[q]? = some ((k : Int), y) := by unfold flipS; rw [List.getElem?_map, hq]; rfl
            exact ⟨id, i1, i2, i3, hplk.out k q y hlt hq, by rw [flQ_succ hp]; exact giveP_some i2⟩)
          clear P1 C1 N1 d1 d2 d3 Q hmst hfar h2 h3 hltB hlen hhere hplk hx hfs hme em0 em1
          generalize upB B' (3 + k) F' = BB at *
          generalize flipR (H.M k) = R at *
          rcases hsl.cases with ⟨hnil, e0⟩ | ⟨g, cap, hgc, _, _, hgs, hrow⟩
          · subst e0
            cases hnil
            clear hsl hfarB hcur
            have hN := Lib.hid (hend.out 0 m w2 rfl G0.out)
            clear G0 hend
            go_wp2
            refine wp_loop_rounds 1 ?_
            rw [rounds_succ]
            go_wp2
            go_roundw
            case rel => exact ⟨k + 1, m, by omega, by go_num, by go_num, hN.out⟩
            case measure => simp [intOf]; omega
          · cases hgc
            have hgB := hfarB g rfl
            have hcell : Hid (∀ (wX : World) (q : Nat) (y : Int), Ch (un BB) w2 wX → R[q]? = some y → wX.cell? ⟨g, q, none⟩ = some (.int .i64 y)) := Lib.hid (fun wX q y hc hq => (World.cell?_of_block (a := ⟨g, q, none⟩) (hc.block g hgs hgB)).trans (row_cell hrow hq))
            clear hsl hrow hfarB hlt2
            go_wp2
            go_loopw [3, 26] (fun m' q' wq => ∃ (q : Nat) (m2 : Int), q ≤ R.length ∧ m' = .int .i64 m2 ∧ q' = .int .i64 q ∧ VG w2 p n H BB mp gw tb mt X k q m2 wq) (fun _ q' _ => R.length - (intOf q').toNat)
            case atStart => exact ⟨0, m, by omega, by go_num, rfl, G0.out⟩
            case round =>
              clear G0
              obtain ⟨q, m2, hq, rfl, rfl, hG⟩ := hrel
              by_cases hql : q < R.length
              · have hqd : decide ((q : Int) < (R.length : Int)) = true := by simp; omega
                have hwq : IntKind.i64.wrap ((q : Int) + 1) = (q : Int) + 1 := by rw [IntKind.wrap_i64]; omega
                have hy : R[q]? = some R[q] := by simp [hql]
                have hcy := hcell.out wr q _ hG.v.choose_spec.2.1 hy
                obtain ⟨id, i1, i2, i3, i4, i5⟩ := hcur.out q _ hy
                have em0 := hG.m0
                have em1 := hG.m1
                have hwm : IntKind.i64.wrap (m2 + 1) = m2 + 1 := by rw [IntKind.wrap_i64]; omega
                have PO := Lib.hid (hG.v.of i2 i4)
                have PG := Lib.hid (fun (wX : World) (t : FV w2 wX p n (flQ H k q).1 (flpM H (k + 1)) BB mp gw tb mt X) => t.give i1 i3)
                have hct := Lib.hid (fun (wX : World) (t : FV w2 wX p n (flQ H k q).1 (flpM H (k + 1)) BB mp gw tb mt X) => t.ct)
                have ct0 := hG.v.ct
                have hnx : Hid (∀ wX, FV w2 wX p n (updT (flQ H k q).1 id none) (flpM H (k + 1)) BB mp gw tb mt X → VG w2 p n H BB mp gw tb mt X k (q + 1) (m2 + 1) wX) := Lib.hid (fun wX t => ⟨by rw [i5]; exact t, by rw [i5, hG.e], by omega, by omega⟩)
                unfold plV at PO
                simp only at PO
                clear hG i2 i3 i4 i5 hy hcell hcur
                generalize R[q] = y at *
                go_wp2_with (first | (go_at_call 40; ((with_reducible refine (PO.out).mono ?_); rintro e w5 ⟨rfl, ht⟩; have ct1 := hct.out _ ht; have PG2 := Lib.hid (PG.out _ ht); clear ht)) | (go_at_call 41; ((with_reducible refine (PG2.out).mono ?_); rintro e w6 ⟨rfl, ht6⟩; have hN := Lib.hid (hnx.out _ ht6); clear ht6)))
                clear PO PG PG2 hct ct0 ct1 hnx hcy
                go_roundw
                case rel => exact ⟨q + 1, m2 + 1, by omega, by go_num, by go_num, hN.out⟩
                case measure => simp [intOf]; omega
              · have e : q = R.length := by omega
                subst e
                have hqd : decide ((R.length : Int) < (R.length : Int)) = false := by simp
                have hN := Lib.hid (hend.out _ _ _ rfl hG)
                clear hG hcell hcur hend
                go_wp2
                go_roundw
                case rel => exact ⟨k + 1, m2, by omega, by go_num, by go_num, hN.out⟩
                case measure => simp [intOf]; omega
      · have e : k = 5 := by omega
        subst e
        have em := Lib.hid hR.e
        have hF := Lib.hid (hfin.out _ hR.v)
        clear hR
        go_wp2
        go_ret
        rw [← em.out]
        exact ⟨rfl, hF.out⟩
end
end Wd
end Go.Proofs.Ytdaojohdmidemaa

/- The landed memory: Put. -/
namespace Go.Proofs.Ytdaojohdmidemaa
open Go.RowKit Go.Maps
set_option linter.unusedVariables false
set_option maxRecDepth 20000
namespace Wd
theorem cell_apart {W c c' a b : Nat} (ha : a < W) (hb : b < W) (h : c' * W + a = c * W + b) : c' = c ∧ a = b := by
  have hW : 0 < W := by omega
  have e1 : (c' * W + a) / W = c' := by rw [Nat.mul_comm, Nat.mul_add_div hW, Nat.div_eq_of_lt ha]; rfl
  have e2 : (c * W + b) / W = c := by rw [Nat.mul_comm, Nat.mul_add_div hW, Nat.div_eq_of_lt hb]; rfl
  have e : c' = c := by rw [← e1, h, e2]
  subst e
  exact ⟨rfl, by omega⟩
section
variable {w w' w1 w2 : World} {p : Nat} {n : Nat → Nat} {B B1 : Nat → Nat → Prop} {mp gw : Nat → Nat} {tb mt : Nat} {T T' : Tst} {M M' : Nat → Mst} {X : Nat → Nat → Int} {H H1 H2 : Hst} {i : Int} {s c : Nat} {cl : Int} {L : List Int}
theorem Ob.putC (o : Ob n H X i s c cl L) {j : Nat} {x : Int} : putC H i j x = { H with C := upC H.C ((s : Int), (c : Int)) (cl, L.set j x) } := by
  unfold Wd.putC
  rw [o.fsi, o.ha, o.hC]
  simp
theorem HQ.wput (h : HQ w p n H B mp gw tb mt X) (o : Ob n H X i s c cl L) {j : Nat} (hj : j < L.length) {x : Int} (x0 : 0 < x) (x1 : x ≤ 4294967295) :
    HQ (w.setCell ⟨gw s, c * wN s + (2 + j), none⟩ (.int .u32 x)) p n (putC H i j x) B mp gw tb mt (upX X s (c * wN s + (2 + j)) x) ∧ Ch (un B) w (w.setCell ⟨gw s, c * wN s + (2 + j), none⟩ (.int .u32 x)) := by
  have fit := o.fit
  obtain ⟨l1, l2⟩ := cell_in o.s5 o.cn o.few
  obtain ⟨a1, a2⟩ := h.hp.wstep o.s5 (k := c * wN s + (2 + j)) (by omega) (v := x) (by omega) x1
  refine ⟨⟨?_, ?_, h.inv.putC i j x ⟨x0, x1⟩ o.hh⟩, a2⟩
  · rw [o.putC]; exact a1
  · rw [o.putC]
    intro k s' c' hT s5 cn
    show hc (upX X s (c * wN s + (2 + j)) x s' (c' * wN s')) = (upC H.C ((s : Int), (c : Int)) (cl, L.set j x) ((s' : Int), (c' : Int))).1 ∧ _
    obtain ⟨r1, r2, r3⟩ := h.wr k s' c' hT s5 cn
    obtain ⟨q1, q2, q3⟩ := h.inv.cel k _ hT
    obtain ⟨f1, f2⟩ := len_fits s5 q1
    have w4 := (wN_bd s5).1
    by_cases es : s' = s
    · subst es
      by_cases ec : c' = c
      · subst ec
        have e1 : upC H.C ((s' : Int), (c' : Int)) (cl, L.set j x) ((s' : Int), (c' : Int)) = (cl, L.set j x) := by unfold upC; rw [if_pos rfl]
        have e0 : upX X s' (c' * wN s' + (2 + j)) x s' (c' * wN s') = X s' (c' * wN s') := upX_ne (by omega)
        show hc _ = _ ∧ hs (upX X s' (c' * wN s' + (2 + j)) x s' (c' * wN s')) = ((upC H.C ((s' : Int), (c' : Int)) (cl, L.set j x) ((s' : Int), (c' : Int))).2.length : Int) ∧ ∀ m v, (upC H.C ((s' : Int), (c' : Int)) (cl, L.set j x) ((s' : Int), (c' : Int))).2[m]? = some v → upX X s' (c' * wN s' + (2 + j)) x s' (c' * wN s' + 2 + m) = v
        rw [e1, e0]
        refine ⟨o.e1, by simpa using o.e2, fun m v hv => ?_⟩
        simp only at hv
        by_cases em : m = j
        · subst em
          rw [List.getElem?_set_self hj] at hv
          cases hv
          rw [Nat.add_assoc]
          exact upX_same
        · rw [List.getElem?_set_ne (fun e => em e.symm)] at hv
          rw [upX_ne (by omega)]
          exact o.fs m v hv
      · have e1 : upC H.C ((s' : Int), (c : Int)) (cl, L.set j x) ((s' : Int), (c' : Int)) = H.C ((s' : Int), (c' : Int)) := by unfold upC; rw [if_neg]; intro e; simp only [Prod.mk.injEq] at e; omega
        have e0 : ∀ a, a < wN s' → upX X s' (c * wN s' + (2 + j)) x s' (c' * wN s' + a) = X s' (c' * wN s' + a) := fun a ha => upX_ne (fun e => ec (cell_apart ha (by omega) e.2).1)
        show hc _ = _ ∧ hs (upX X s' (c * wN s' + (2 + j)) x s' (c' * wN s')) = ((upC H.C ((s' : Int), (c : Int)) (cl, L.set j x) ((s' : Int), (c' : Int))).2.length : Int) ∧ ∀ m v, (upC H.C ((s' : Int), (c : Int)) (cl, L.set j x) ((s' : Int), (c' : Int))).2[m]? = some v → upX X s' (c * wN s' + (2 + j)) x s' (c' * wN s' + 2 + m) = v
        have e00 := e0 0 (by omega)
        rw [Nat.add_zero] at e00
        rw [e1, e00]
        refine ⟨r1, r2, fun m v hv => ?_⟩
        have hm := (List.getElem?_eq_some_iff.1 hv).1
        rw [Nat.add_assoc, e0 (2 + m) (by omega), ← Nat.add_assoc]
        exact r3 m v hv
    · have e1 : upC H.C ((s : Int), (c : Int)) (cl, L.set j x) ((s' : Int), (c' : Int)) = H.C ((s' : Int), (c' : Int)) := by unfold upC; rw [if_neg]; intro e; simp only [Prod.mk.injEq] at e; omega
      have e0 : ∀ a, upX X s (c * wN s + (2 + j)) x s' a = X s' a := fun a => upX_ne (fun e => es e.1)
      show hc _ = _ ∧ hs (upX X s (c * wN s + (2 + j)) x s' (c' * wN s')) = ((upC H.C ((s : Int), (c : Int)) (cl, L.set j x) ((s' : Int), (c' : Int))).2.length : Int) ∧ ∀ m v, (upC H.C ((s : Int), (c : Int)) (cl, L.set j x) ((s' : Int), (c' : Int))).2[m]? = some v → upX X s (c * wN s + (2 + j)) x s' (c' * wN s' + 2 + m) = v
      rw [e1, e0]
      exact ⟨r1, r2, fun m v hv => by rw [e0]; exact r3 m v hv⟩
set_option maxHeartbeats 4000000 in
theorem vput_no (h : HQ w p n H B mp gw tb mt X) (i j x : Int) (x0 : (x == 0) = false) (hF : Calls Try.prog 30 #[.pointer (some ⟨p, 0, none⟩), .int .i64 i, .int .i64 j] w fun e w' => e = .returned (.pointer none) ∧ Below w.heap.size w w') :
    Calls Try.prog 8 #[.pointer (some ⟨p, 0, none⟩), .int .i64 i, .int .i64 j, .int .u32 x] w fun e w' => e = .returned (.bool false) ∧ ∃ X', Tn w w' p n H B mp gw tb mt X' := by
  have P := Lib.hid hF
  replace h := Lib.hid h
  clear hF
  go_enter Try.func8, Try.ntmps8
  go_wp2_with (first | (go_at_call 30; ((with_reducible refine (P.out).mono ?_); rintro e w1 ⟨rfl, hb⟩; replace hb := Lib.hid hb)))
  go_ret
  exact ⟨rfl, X, (Tn.refl h.out).keep hb.out⟩
set_option maxHeartbeats 4000000 in
theorem vput_c (h : HQ w p n H B mp gw tb mt X) (i j x : Int) (i0 : -9223372036854775808 ≤ i) (i1 : i ≤ 9223372036854775807) (j0 : -9223372036854775808 ≤ j) (j1 : j ≤ 9223372036854775807) (x0 : 0 ≤ x) (x1 : x ≤ 4294967295) :
    Calls Try.prog 8 #[.pointer (some ⟨p, 0, none⟩), .int .i64 i, .int .i64 j, .int .u32 x] w fun e w' => e = .returned (.bool (putB H i j x)) ∧ ∃ X', Tn w w' p n (putH H i j x) B mp gw tb mt X' := by
  by_cases hx : x = 0
  · subst hx
    have e1 : putB H i j 0 = false := by unfold putB; simp
    have e2 : putH H i j 0 = H := by unfold putH; rw [e1]; rfl
    rw [e1, e2]
    replace h := Lib.hid h
    clear e1 e2
    go_enter Try.func8, Try.ntmps8
    go_wp2
    go_ret
    exact ⟨rfl, X, Tn.refl h.out⟩
  · have dx : (x == 0) = false := by simpa using hx
    cases hh : hasT H.T i with
    | false =>
      have e1 : putB H i j x = false := by unfold putB; rw [fsI_no hh]; simp <;> omega
      have e2 : putH H i j x = H := by unfold putH; rw [e1]; rfl
      rw [e1, e2]
      exact vput_no h i j x dx (field_none h i j i0 i1 j0 j1 hh)
    | true =>
      obtain ⟨s, c, cl, L, o⟩ := h.ob hh
      by_cases hj : 0 ≤ j ∧ j < L.length
      · obtain ⟨k, rfl⟩ : ∃ k : Nat, j = k := ⟨j.toNat, by omega⟩
        have hk : k < L.length := by omega
        have e1 : putB H i k x = true := by unfold putB; rw [o.fsi]; simp; omega
        have P := Lib.hid (field_in h i k i0 i1 o hk)
        have PA := Lib.hid (fun (w1 : World) (hb : Below w.heap.size w w1) => add_c (h.keep hb).hp.met 2 (by omega) (by omega))
        have hcc := Lib.hid (fun (w1 : World) (hb : Below w.heap.size w w1) => (h.keep hb).hp.cc)
        have hwd := Lib.hid (fun (w2 : World) (h2 : HQ w2 p n H B mp gw tb mt X) => h2.hp.word o.s5 o.cn o.few (k := 2 + k) (by have := o.fit; omega))
        have hzg := Lib.hid (fun (w2 : World) (h2 : HQ w2 p n H B mp gw tb mt X) => h2.hp.zg s o.s5 (by have := o.cn; omega) (c * wN s + (2 + k)))
        have hst := Lib.hid (fun (w2 : World) (h2 : HQ w2 p n H B mp gw tb mt X) => h2.wput o hk (x := x) (by omega) x1)
        have ecol : colI (putC H i k x) i = colI H i := rfl
        have PC := Lib.hid (fun (w3 : World) (h3 : HQ w3 p n (putC H i k x) B mp gw tb mt (upX X s (c * wN s + (2 + k)) x)) => vcolor_c h3 i i0 i1)
        rw [ecol] at PC
        have e2 : putH H i k x = if colI H i = 1 then shW (putC H i k x) x else putC H i k x := by unfold putH; rw [if_pos e1]
        rw [e1, e2]
        replace h := Lib.hid h
        clear e1 e2 o hh hj ecol
        generalize putC H i k x = PCH at *
        generalize upX X s (c * wN s + (2 + k)) x = X' at *
        generalize c * wN s + (2 + k) = off at *
        generalize X s off = xo at *
        generalize hg : gw s = g at *
        replace hg := Lib.hid hg
        generalize colI H i = col at *
        by_cases hc1 : col = 1
        · rw [if_pos hc1]
          have dc : (col == 1) = true := by simp [hc1]
          clear hc1
          go_enter Try.func8, Try.ntmps8
          go_wp2_with (first | (go_at_call 30; ((with_reducible refine (P.out).mono ?_); rintro e w1 ⟨rfl, hb⟩; have cc := hcc.out _ hb; have P2 := Lib.hid (PA.out _ hb); replace hb := Lib.hid hb)) | (go_at_call 31; ((with_reducible refine (P2.out).mono ?_); rintro e w2 ⟨rfl, d1, d2⟩; have h2 := (h.out.keep hb.out).count d1 d2; have cf := hwd.out _ h2.1; have zf := hzg.out _ h2.1; have h3 := Lib.hid (hst.out _ h2.1); replace h2 := Lib.hid h2; clear d1 d2)) | (go_at_call 32; ((with_reducible refine (PC.out _ h3.out.1).mono ?_); rintro e w4 ⟨rfl, hb4⟩; have T4 := Lib.hid ((Tn.refl h3.out.1).keep hb4); clear hb4)) | (go_at_call 33; ((with_reducible refine (T4.out.shw x x0 x1).mono ?_); rintro e w5 ⟨rfl, T5⟩; replace T5 := Lib.hid T5)))
          go_ret
          exact ⟨rfl, X', Tn.pre hb.out (tn_then h2.out.2 (newer_refl9 _ _) (tn_then h3.out.2 (newer_refl9 _ _) T5.out))⟩
        · rw [if_neg hc1]
          have dc : (col == 1) = false := by simp [hc1]
          clear hc1
          go_enter Try.func8, Try.ntmps8
          go_wp2_with (first | (go_at_call 30; ((with_reducible refine (P.out).mono ?_); rintro e w1 ⟨rfl, hb⟩; have cc := hcc.out _ hb; have P2 := Lib.hid (PA.out _ hb); replace hb := Lib.hid hb)) | (go_at_call 31; ((with_reducible refine (P2.out).mono ?_); rintro e w2 ⟨rfl, d1, d2⟩; have h2 := (h.out.keep hb.out).count d1 d2; have cf := hwd.out _ h2.1; have zf := hzg.out _ h2.1; have h3 := Lib.hid (hst.out _ h2.1); replace h2 := Lib.hid h2; clear d1 d2)) | (go_at_call 32; ((with_reducible refine (PC.out _ h3.out.1).mono ?_); rintro e w4 ⟨rfl, hb4⟩; have T4 := Lib.hid ((Tn.refl h3.out.1).keep hb4); clear hb4)))
          go_ret
          exact ⟨rfl, X', Tn.pre hb.out (tn_then h2.out.2 (newer_refl9 _ _) (tn_then h3.out.2 (newer_refl9 _ _) T4.out))⟩
      · have e1 : putB H i j x = false := by unfold putB; rw [o.fsi]; simp <;> omega
        have e2 : putH H i j x = H := by unfold putH; rw [e1]; rfl
        rw [e1, e2]
        exact vput_no h i j x dx (field_out h i j i0 i1 j0 j1 o (by omega))
end
end Wd
end Go.Proofs.Ytdaojohdmidemaa

/- The landed memory: a new object is written. -/
namespace Go.Proofs.Ytdaojohdmidemaa
open Go.RowKit Go.Maps
set_option linter.unusedVariables false
set_option maxRecDepth 20000
namespace Wd
/-- the head and j fields are written -/
def Wr (w w' : World) (p : Nat) (n : Nat → Nat) (T : Tst) (M : Nat → Mst) (B : Nat → Nat → Prop) (mp gw : Nat → Nat) (tb mt : Nat) (X : Nat → Nat → Int) (s c j : Nat) (x0 : Int) : Prop :=
  ∃ X', HP w' p n B mp gw tb mt T M X' ∧ Ch (un B) w w' ∧ X' s (c * wN s) = x0 ∧ (∀ m, m < j → X' s (c * wN s + 2 + m) = 2) ∧ ∀ s' k', ¬ (s' = s ∧ c * wN s ≤ k' ∧ k' < c * wN s + wN s) → X' s' k' = X s' k'
section
variable {w w' w1 w2 : World} {p : Nat} {n : Nat → Nat} {B B1 : Nat → Nat → Prop} {mp gw : Nat → Nat} {tb mt : Nat} {T T' : Tst} {M M' : Nat → Mst} {X : Nat → Nat → Int} {H H1 H2 : Hst} {i : Int} {s c j : Nat} {cl x0 : Int} {L : List Int}
theorem Wr.begin (h : HP w1 p n B mp gw tb mt T M X) (hc : Ch (un B) w w1) (hs : s < 5) (hcn : c < n s) (few : n s ≤ 512) (h0 : 0 ≤ x0 ∧ x0 ≤ 4294967295) :
    Wr w (w1.setCell ⟨gw s, c * wN s, none⟩ (.int .u32 x0)) p n T M B mp gw tb mt X s c 0 x0 := by
  obtain ⟨l1, l2⟩ := cell_in hs hcn few
  have w4 := (wN_bd hs).1
  obtain ⟨a1, a2⟩ := h.wstep hs (k := c * wN s) (by omega) h0.1 h0.2
  exact ⟨_, a1, hc.trans a2, upX_same, fun m hm => absurd hm (by omega), fun s' k' hn => upX_ne (fun e => hn ⟨e.1, by omega⟩)⟩
theorem Wr.next (h : Wr w w1 p n T M B mp gw tb mt X s c j x0) (hs : s < 5) (hcn : c < n s) (few : n s ≤ 512) (hj : j + 2 < wN s) :
    Wr w (w1.setCell ⟨gw s, c * wN s + (2 + j), none⟩ (.int .u32 2)) p n T M B mp gw tb mt X s c (j + 1) x0 := by
  obtain ⟨l1, l2⟩ := cell_in hs hcn few
  obtain ⟨X', h1, h2, h3, h4, h5⟩ := h
  obtain ⟨a1, a2⟩ := h1.wstep hs (k := c * wN s + (2 + j)) (by omega) (v := 2) (by omega) (by omega)
  refine ⟨_, a1, h2.trans a2, ?_, fun m hm => ?_, fun s' k' hn => ?_⟩
  · rw [upX_ne (by omega)]; exact h3
  · by_cases e : m = j
    · subst e; rw [Nat.add_assoc]; exact upX_same
    · rw [upX_ne (by omega)]; exact h4 m (by omega)
  · rw [upX_ne (fun e => hn ⟨e.1, by omega⟩)]; exact h5 s' k' hn
set_option maxHeartbeats 8000000 in
theorem vwrite_c (h : HP w p n B mp gw tb mt T M X) {s c f : Nat} (s5 : s < 5) (hcn : c < n s) (few : n s ≤ 512) (x0 : Int) (x00 : 0 ≤ x0) (x01 : x0 ≤ 4294967295) (hf : hs x0 = (f : Int)) (fit : f + 2 ≤ wN s) :
    Calls Try.prog 28 #[.pointer (some ⟨p, 0, none⟩), plV ((s : Int), (c : Int)), .int .u32 x0] w fun e w' => e = .returned (.tuple #[]) ∧ Wr w w' p n T M B mp gw tb mt X s c f x0 := by
  obtain ⟨l1, l2⟩ := cell_in s5 hcn few
  have PS := Lib.hid (Size_c x0 x00 x01)
  rw [hf] at PS
  have w64 := (wN_bd s5).2
  have hB : Below w.heap.size w (w.alloc (.cells #[.int .i64 s, .int .i64 c] 63)) := (Below.refl _ _).alloc (Nat.le_refl _) _
  have PC := Lib.hid (fun (w1 : World) (hb : Below w.heap.size w w1) => cell_c (h.keep hb) s5 hcn few)
  have hw0 := Lib.hid (fun (w2 : World) (hb : Below w.heap.size w w2) => (h.keep hb).word s5 hcn few (k := 0) (by omega))
  simp only [Nat.add_zero] at hw0
  have hz0 := Lib.hid (fun (w2 : World) (hb : Below w.heap.size w w2) => (h.keep hb).zg s s5 (by omega) (c * wN s))
  have hbeg := Lib.hid (fun (w2 : World) (hb : Below w.heap.size w w2) => Wr.begin (w := w) (x0 := x0) (h.keep hb) (below_un hb) s5 hcn few ⟨x00, x01⟩)
  have hnx := Lib.hid (fun (j : Nat) (wX : World) (hW : Wr w wX p n T M B mp gw tb mt X s c j x0) (hj : j < f) => hW.next s5 hcn few (by omega))
  have hcell : Hid (∀ (j : Nat) (wX : World), Wr w wX p n T M B mp gw tb mt X s c j x0 → j < f → ∃ y, wX.cell? ⟨gw s, c * wN s + (2 + j), none⟩ = some (.int .u32 y) ∧ wX.frozen? ⟨gw s, c * wN s + (2 + j), none⟩ = false) := Lib.hid (fun j wX hW hj => by
    obtain ⟨X', h1, _⟩ := hW
    exact ⟨_, h1.word s5 hcn few (k := 2 + j) (by omega), h1.zg s s5 (by omega) _⟩)
  have hcc : Hid (∀ (wX : World), Wr w wX p n T M B mp gw tb mt X s c f x0 → wX.cell? ⟨p, 11, none⟩ = some (.pointer (some ⟨mt, 0, none⟩)) ∧ Mt wX mt) := Lib.hid (fun wX hW => by
    obtain ⟨X', h1, _⟩ := hW
    exact ⟨h1.cc, h1.met⟩)
  have hend : Hid (∀ (wX wY : World), Wr w wX p n T M B mp gw tb mt X s c f x0 → Mt wY mt → Ch (fun k => k = mt) wX wY → Wr w wY p n T M B mp gw tb mt X s c f x0) := Lib.hid (fun wX wY hW d1 d2 => by
    obtain ⟨X', h1, h2, h3⟩ := hW
    obtain ⟨e1, e2⟩ := h1.cstep d1 d2
    exact ⟨X', e1, h2.trans e2, h3⟩)
  unfold cellV plV at *
  simp only at PC ⊢
  generalize hXX : X s (c * wN s) = xo at *
  clear h hXX
  have hWf : ∀ j wX, Wr w wX p n T M B mp gw tb mt X s c j x0 = Wr w wX p n T M B mp gw tb mt X s c j x0 := fun _ _ => rfl
  generalize hWr : (fun (wX : World) (j : Nat) => Wr w wX p n T M B mp gw tb mt X s c j x0) = WW at *
  have hWW : ∀ wX j, Wr w wX p n T M B mp gw tb mt X s c j x0 = WW wX j := fun wX j => by rw [← hWr]
  simp only [hWW] at hbeg hnx hcell hcc hend ⊢
  clear hWr hWW hWf
  generalize n s * wN s = N at *
  generalize c * wN s = a at *
  generalize wN s = W at *
  generalize gw s = g at *
  have hW0 : 0 < W := by omega
  generalize hw2 : w.alloc (.cells #[.int .i64 s, .int .i64 c] 63) = w2 at *
  have q0 : w2.cell? ⟨w.heap.size, 0, none⟩ = some (.int .i64 s) := by rw [← hw2]; simp
  have q1 : w2.cell? ⟨w.heap.size, 1, none⟩ = some (.int .i64 c) := by rw [← hw2]; simp
  replace hB := Lib.hid hB
  go_enter Try.func28, Try.ntmps28
  go_wp2_with fail
  clear hw2
  go_wp2_with (first | (go_at_call 51; ((with_reducible refine (PC.out _ hB.out).mono ?_); rintro e w1 ⟨rfl, hb1⟩; have hb2 := Lib.hid (hB.out.trans (hb1.mono hB.out.size)); have hb3 := Lib.hid hb2.out.drew; have c0 := hw0.out _ hb3.out; have z0 := hz0.out _ hb3.out; have S0 := Lib.hid (hbeg.out _ hb3.out); clear hb1)) | (go_at_call 44; ((with_reducible refine (PS.out _).mono ?_); rintro e w3 ⟨rfl, hw3⟩; subst w3)))
  have S1 : Hid (WW (w1.setCell ⟨g, a, none⟩ (.int .u32 x0)).drew 0) := S0
  clear S0
  have S0 := S1
  clear S1
  generalize (w1.setCell ⟨g, a, none⟩ (.int .u32 x0)).drew = w5 at *
  clear c0 z0 hb2 hb3 PC PS hw0 hz0 hbeg q0 q1 hB
  go_loopw [18] (fun i' wr => ∃ j : Nat, j ≤ f ∧ i' = .int .i64 j ∧ WW wr j) (fun i' _ => f - (intOf i').toNat)
  case atStart => exact ⟨0, by omega, rfl, S0.out⟩
  case round =>
    clear S0
    obtain ⟨j, hj, rfl, hR⟩ := hrel
    by_cases hlt : j < f
    · have hd : decide ((j : Int) < (f : Int)) = true := by simp; omega
      have hw1 : IntKind.i64.wrap ((j : Int) + 1) = (j : Int) + 1 := by rw [IntKind.wrap_i64]; omega
      have hw3 : IntKind.i64.wrap (2 + (j : Int)) = ((2 + j : Nat) : Int) := by rw [IntKind.wrap_i64]; omega
      have hi : ((2 + j : Nat) : Int) < (W : Int) := by omega
      have hi2 : 2 + j < W := by omega
      obtain ⟨y, cy, zy⟩ := hcell.out j wr hR hlt
      have hN := Lib.hid (hnx.out j wr hR hlt)
      clear hR
      go_wp2
      go_roundw
      case rel => exact ⟨j + 1, by omega, by go_num, hN.out⟩
      case measure => simp [intOf]; omega
    · have e : j = f := by omega
      subst e
      have hd : decide ((j : Int) < (j : Int)) = false := by simp
      obtain ⟨cc, hm⟩ := hcc.out wr hR
      have hwf : IntKind.i64.wrap (1 + (j : Int)) = 1 + (j : Int) := by rw [IntKind.wrap_i64]; omega
      have PA := Lib.hid (add_c hm (1 + (j : Int)) (by omega) (by omega))
      replace hR := Lib.hid hR
      clear hm
      go_wp2_with (first | (go_at_call 31; ((with_reducible refine (PA.out).mono ?_); rintro e w6 ⟨rfl, d1, d2⟩; have hT := Lib.hid (hend.out _ _ hR.out d1 d2); clear d1 d2)))
      go_end0
      exact ⟨rfl, hT.out⟩
end
end Wd
end Go.Proofs.Ytdaojohdmidemaa
