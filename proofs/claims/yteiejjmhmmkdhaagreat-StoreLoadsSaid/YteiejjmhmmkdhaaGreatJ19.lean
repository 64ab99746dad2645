/- Texts joined: VPut, VWrite, VAlloc, VAllocY, VNew, VKK, HE, HF. -/
import Derived.Test.YteiejjmhmmkdhaaGreatJ1
import Derived.Test.YteiejjmhmmkdhaaGreatJ9
import Derived.Test.YteiejjmhmmkdhaaGreatJ18
/- The landed memory: Put. -/
namespace Go.Proofs.YteiejjmhmmkdhaaGreat
open Go.RowKit Go.Maps
set_option linter.unusedVariables false
set_option maxRecDepth 20000
namespace Wd
theorem cell_apart {W c c' a b : Nat} (ha : a < W) (hb : b < W) (h : c' * W + a = c * W + b) : c' = c ∧ a = b := by
  have hW : 0 < W := by omega
  have e1 : (c' * W + a) / W = c' := by rw [Nat.mul_comm, Nat.mul_add_div hW, Nat.div_eq_of_lt ha]; rfl
  have e2 : (c * W + b) / W = c := by rw [Nat.mul_comm, Nat.mul_add_div hW, Nat.div_eq_of_lt hb]; rfl
  have e : c' = c := by rw [← e1, h, e2]
  subst e
  exact ⟨rfl, by omega⟩
section
variable {w w' w1 w2 : World} {p : Nat} {n : Nat → Nat} {B B1 : Nat → Nat → Prop} {mp gw : Nat → Nat} {tb mt : Nat} {T T' : Tst} {M M' : Nat → Mst} {X : Nat → Nat → Int} {H H1 H2 : Hst} {i : Int} {s c : Nat} {cl : Int} {L : List Int}
theorem Ob.putC (o : Ob n H X i s c cl L) {j : Nat} {x : Int} : putC H i j x = { H with C := upC H.C ((s : Int), (c : Int)) (cl, L.set j x) } := by
  unfold Wd.putC
  rw [o.fsi, o.ha, o.hC]
  simp
theorem HQ.wput (h : HQ w p n H B mp gw tb mt X) (o : Ob n H X i s c cl L) {j : Nat} (hj : j < L.length) {x : Int} (x0 : 0 < x) (x1 : x ≤ 4294967295) :
    HQ (w.setCell ⟨gw s, c * wN s + (2 + j), none⟩ (.int .u32 x)) p n (putC H i j x) B mp gw tb mt (upX X s (c * wN s + (2 + j)) x) ∧ Ch9 (un B) w (w.setCell ⟨gw s, c * wN s + (2 + j), none⟩ (.int .u32 x)) := by
  have fit := o.fit
  obtain ⟨l1, l2⟩ := cell_in9 o.s5 o.cn o.few
  obtain ⟨a1, a2⟩ := h.hp.wstep o.s5 (k := c * wN s + (2 + j)) (by omega) (v := x) (by omega) x1
  refine ⟨⟨?_, ?_, h.inv.putC i j x ⟨x0, x1⟩ o.hh⟩, a2⟩
  · rw [o.putC]; exact a1
  · rw [o.putC]
    intro k s' c' hT s5 cn
    show hc (upX X s (c * wN s + (2 + j)) x s' (c' * wN s')) = (upC H.C ((s : Int), (c : Int)) (cl, L.set j x) ((s' : Int), (c' : Int))).1 ∧ _
    obtain ⟨r1, r2, r3⟩ := h.wr k s' c' hT s5 cn
    obtain ⟨q1, q2, q3⟩ := h.inv.cel k _ hT
    obtain ⟨f1, f2⟩ := len_fits s5 q1
    have w4 := (wN_bd s5).1
    by_cases es : s' = s
    · subst es
      by_cases ec : c' = c
      · subst ec
        have e1 : upC H.C ((s' : Int), (c' : Int)) (cl, L.set j x) ((s' : Int), (c' : Int)) = (cl, L.set j x) := by unfold upC; rw [if_pos rfl]
        have e0 : upX X s' (c' * wN s' + (2 + j)) x s' (c' * wN s') = X s' (c' * wN s') := upX_ne (by omega)
        show hc _ = _ ∧ hs (upX X s' (c' * wN s' + (2 + j)) x s' (c' * wN s')) = ((upC H.C ((s' : Int), (c' : Int)) (cl, L.set j x) ((s' : Int), (c' : Int))).2.length : Int) ∧ ∀ m v, (upC H.C ((s' : Int), (c' : Int)) (cl, L.set j x) ((s' : Int), (c' : Int))).2[m]? = some v → upX X s' (c' * wN s' + (2 + j)) x s' (c' * wN s' + 2 + m) = v
        rw [e1, e0]
        refine ⟨o.e1, by simpa using o.e2, fun m v hv => ?_⟩
        simp only at hv
        by_cases em : m = j
        · subst em
          rw [List.getElem?_set_self hj] at hv
          cases hv
          rw [Nat.add_assoc]
          exact upX_same
        · rw [List.getElem?_set_ne (fun e => em e.symm)] at hv
          rw [upX_ne (by omega)]
          exact o.fs m v hv
      · have e1 : upC H.C ((s' : Int), (c : Int)) (cl, L.set j x) ((s' : Int), (c' : Int)) = H.C ((s' : Int), (c' : Int)) := by unfold upC; rw [if_neg]; intro e; simp only [Prod.mk.injEq] at e; omega
        have e0 : ∀ a, a < wN s' → upX X s' (c * wN s' + (2 + j)) x s' (c' * wN s' + a) = X s' (c' * wN s' + a) := fun a ha => upX_ne (fun e => ec (cell_apart ha (by omega) e.2).1)
        show hc _ = _ ∧ hs (upX X s' (c * wN s' + (2 + j)) x s' (c' * wN s')) = ((upC H.C ((s' : Int), (c : Int)) (cl, L.set j x) ((s' : Int), (c' : Int))).2.length : Int) ∧ ∀ m v, (upC H.C ((s' : Int), (c : Int)) (cl, L.set j x) ((s' : Int), (c' : Int))).2[m]? = some v → upX X s' (c * wN s' + (2 + j)) x s' (c' * wN s' + 2 + m) = v
        have e00 := e0 0 (by omega)
        rw [Nat.add_zero] at e00
        rw [e1, e00]
        refine ⟨r1, r2, fun m v hv => ?_⟩
        have hm := (List.getElem?_eq_some_iff.1 hv).1
        rw [Nat.add_assoc, e0 (2 + m) (by omega), ← Nat.add_assoc]
        exact r3 m v hv
    · have e1 : upC H.C ((s : Int), (c : Int)) (cl, L.set j x) ((s' : Int), (c' : Int)) = H.C ((s' : Int), (c' : Int)) := by unfold upC; rw [if_neg]; intro e; simp only [Prod.mk.injEq] at e; omega
      have e0 : ∀ a, upX X s (c * wN s + (2 + j)) x s' a = X s' a := fun a => upX_ne (fun e => es e.1)
      show hc _ = _ ∧ hs (upX X s (c * wN s + (2 + j)) x s' (c' * wN s')) = ((upC H.C ((s : Int), (c : Int)) (cl, L.set j x) ((s' : Int), (c' : Int))).2.length : Int) ∧ ∀ m v, (upC H.C ((s : Int), (c : Int)) (cl, L.set j x) ((s' : Int), (c' : Int))).2[m]? = some v → upX X s (c * wN s + (2 + j)) x s' (c' * wN s' + 2 + m) = v
      rw [e1, e0]
      exact ⟨r1, r2, fun m v hv => by rw [e0]; exact r3 m v hv⟩
set_option maxHeartbeats 4000000 in
theorem vput_no (h : HQ w p n H B mp gw tb mt X) (i j x : Int) (x0 : (x == 0) = false) (hF : Calls Tryz.prog 57 #[.pointer (some ⟨p, 0, none⟩), .int .i64 i, .int .i64 j] w fun e w' => e = .returned (.pointer none) ∧ Below w.heap.size w w') :
    Calls Tryz.prog 149 #[.pointer (some ⟨p, 0, none⟩), .int .i64 i, .int .i64 j, .int .u32 x] w fun e w' => e = .returned (.bool false) ∧ ∃ X', Tn w w' p n H B mp gw tb mt X' := by
  have P := Lib.hid hF
  replace h := Lib.hid h
  clear hF
  go_enter Tryz.func149, Tryz.ntmps149
  go_wp2_with (first | (go_at_call 57; ((with_reducible refine (P.out).mono ?_); rintro e w1 ⟨rfl, hb⟩; replace hb := Lib.hid hb)))
  go_ret
  exact ⟨rfl, X, (Tn.refl h.out).keep hb.out⟩
set_option maxHeartbeats 4000000 in
theorem vput_c (h : HQ w p n H B mp gw tb mt X) (i j x : Int) (i0 : -9223372036854775808 ≤ i) (i1 : i ≤ 9223372036854775807) (j0 : -9223372036854775808 ≤ j) (j1 : j ≤ 9223372036854775807) (x0 : 0 ≤ x) (x1 : x ≤ 4294967295) :
    Calls Tryz.prog 149 #[.pointer (some ⟨p, 0, none⟩), .int .i64 i, .int .i64 j, .int .u32 x] w fun e w' => e = .returned (.bool (putB9 H i j x)) ∧ ∃ X', Tn w w' p n (putH H i j x) B mp gw tb mt X' := by
  by_cases hx : x = 0
  · subst hx
    have e1 : putB9 H i j 0 = false := by unfold putB9; simp
    have e2 : putH H i j 0 = H := by unfold putH; rw [e1]; rfl
    rw [e1, e2]
    replace h := Lib.hid h
    clear e1 e2
    go_enter Tryz.func149, Tryz.ntmps149
    go_wp2
    go_ret
    exact ⟨rfl, X, Tn.refl h.out⟩
  · have dx : (x == 0) = false := by simpa using hx
    cases hh : hasT H.T i with
    | false =>
      have e1 : putB9 H i j x = false := by unfold putB9; rw [fsI_no hh]; simp <;> omega
      have e2 : putH H i j x = H := by unfold putH; rw [e1]; rfl
      rw [e1, e2]
      exact vput_no h i j x dx (field_none h i j i0 i1 j0 j1 hh)
    | true =>
      obtain ⟨s, c, cl, L, o⟩ := h.ob hh
      by_cases hj : 0 ≤ j ∧ j < L.length
      · obtain ⟨k, rfl⟩ : ∃ k : Nat, j = k := ⟨j.toNat, by omega⟩
        have hk : k < L.length := by omega
        have e1 : putB9 H i k x = true := by unfold putB9; rw [o.fsi]; simp; omega
        have P := Lib.hid (field_in h i k i0 i1 o hk)
        have PA := Lib.hid (fun (w1 : World) (hb : Below w.heap.size w w1) => add_c (h.keep hb).hp.met 2 (by omega) (by omega))
        have hcc := Lib.hid (fun (w1 : World) (hb : Below w.heap.size w w1) => (h.keep hb).hp.cc)
        have hwd := Lib.hid (fun (w2 : World) (h2 : HQ w2 p n H B mp gw tb mt X) => h2.hp.word o.s5 o.cn o.few (k := 2 + k) (by have := o.fit; omega))
        have hzg := Lib.hid (fun (w2 : World) (h2 : HQ w2 p n H B mp gw tb mt X) => h2.hp.zg s o.s5 (by have := o.cn; omega) (c * wN s + (2 + k)))
        have hst := Lib.hid (fun (w2 : World) (h2 : HQ w2 p n H B mp gw tb mt X) => h2.wput o hk (x := x) (by omega) x1)
        have ecol : colI (putC H i k x) i = colI H i := rfl
        have PC := Lib.hid (fun (w3 : World) (h3 : HQ w3 p n (putC H i k x) B mp gw tb mt (upX X s (c * wN s + (2 + k)) x)) => vcolor_c h3 i i0 i1)
        rw [ecol] at PC
        have e2 : putH H i k x = if colI H i = 1 then shW (putC H i k x) x else putC H i k x := by unfold putH; rw [if_pos e1]
        rw [e1, e2]
        replace h := Lib.hid h
        clear e1 e2 o hh hj ecol
        generalize putC H i k x = PCH at *
        generalize upX X s (c * wN s + (2 + k)) x = X' at *
        generalize c * wN s + (2 + k) = off at *
        generalize X s off = xo at *
        generalize hg : gw s = g at *
        replace hg := Lib.hid hg
        generalize colI H i = col at *
        by_cases hc1 : col = 1
        · rw [if_pos hc1]
          have dc : (col == 1) = true := by simp [hc1]
          clear hc1
          go_enter Tryz.func149, Tryz.ntmps149
          go_wp2_with (first | (go_at_call 57; ((with_reducible refine (P.out).mono ?_); rintro e w1 ⟨rfl, hb⟩; have cc := hcc.out _ hb; have P2 := Lib.hid (PA.out _ hb); replace hb := Lib.hid hb)) | (go_at_call 54; ((with_reducible refine (P2.out).mono ?_); rintro e w2 ⟨rfl, d1, d2⟩; have h2 := (h.out.keep hb.out).count d1 d2; have cf := hwd.out _ h2.1; have zf := hzg.out _ h2.1; have h3 := Lib.hid (hst.out _ h2.1); replace h2 := Lib.hid h2; clear d1 d2)) | (go_at_call 153; ((with_reducible refine (PC.out _ h3.out.1).mono ?_); rintro e w4 ⟨rfl, hb4⟩; have T4 := Lib.hid ((Tn.refl h3.out.1).keep hb4); clear hb4)) | (go_at_call 154; ((with_reducible refine (T4.out.shw x x0 x1).mono ?_); rintro e w5 ⟨rfl, T5⟩; replace T5 := Lib.hid T5)))
          go_ret
          exact ⟨rfl, X', Tn.pre hb.out (tn_then h2.out.2 (newer_refl9 _ _) (tn_then h3.out.2 (newer_refl9 _ _) T5.out))⟩
        · rw [if_neg hc1]
          have dc : (col == 1) = false := by simp [hc1]
          clear hc1
          go_enter Tryz.func149, Tryz.ntmps149
          go_wp2_with (first | (go_at_call 57; ((with_reducible refine (P.out).mono ?_); rintro e w1 ⟨rfl, hb⟩; have cc := hcc.out _ hb; have P2 := Lib.hid (PA.out _ hb); replace hb := Lib.hid hb)) | (go_at_call 54; ((with_reducible refine (P2.out).mono ?_); rintro e w2 ⟨rfl, d1, d2⟩; have h2 := (h.out.keep hb.out).count d1 d2; have cf := hwd.out _ h2.1; have zf := hzg.out _ h2.1; have h3 := Lib.hid (hst.out _ h2.1); replace h2 := Lib.hid h2; clear d1 d2)) | (go_at_call 153; ((with_reducible refine (PC.out _ h3.out.1).mono ?_); rintro e w4 ⟨rfl, hb4⟩; have T4 := Lib.hid ((Tn.refl h3.out.1).keep hb4); clear hb4)))
          go_ret
          exact ⟨rfl, X', Tn.pre hb.out (tn_then h2.out.2 (newer_refl9 _ _) (tn_then h3.out.2 (newer_refl9 _ _) T4.out))⟩
      · have e1 : putB9 H i j x = false := by unfold putB9; rw [o.fsi]; simp <;> omega
        have e2 : putH H i j x = H := by unfold putH; rw [e1]; rfl
        rw [e1, e2]
        exact vput_no h i j x dx (field_out h i j i0 i1 j0 j1 o (by omega))
end
end Wd
end Go.Proofs.YteiejjmhmmkdhaaGreat

/- The landed memory: a new object is written. -/
namespace Go.Proofs.YteiejjmhmmkdhaaGreat
open Go.RowKit Go.Maps
set_option linter.unusedVariables false
set_option maxRecDepth 20000
namespace Wd
/-- the head and j fields are written -/
def Wr (w w' : World) (p : Nat) (n : Nat → Nat) (T : Tst) (M : Nat → Mst) (B : Nat → Nat → Prop) (mp gw : Nat → Nat) (tb mt : Nat) (X : Nat → Nat → Int) (s c j : Nat) (x0 : Int) : Prop :=
  ∃ X', HP w' p n B mp gw tb mt T M X' ∧ Ch9 (un B) w w' ∧ X' s (c * wN s) = x0 ∧ (∀ m, m < j → X' s (c * wN s + 2 + m) = 2) ∧ ∀ s' k', ¬ (s' = s ∧ c * wN s ≤ k' ∧ k' < c * wN s + wN s) → X' s' k' = X s' k'
section
variable {w w' w1 w2 : World} {p : Nat} {n : Nat → Nat} {B B1 : Nat → Nat → Prop} {mp gw : Nat → Nat} {tb mt : Nat} {T T' : Tst} {M M' : Nat → Mst} {X : Nat → Nat → Int} {H H1 H2 : Hst} {i : Int} {s c j : Nat} {cl x0 : Int} {L : List Int}
theorem Wr.begin (h : HP w1 p n B mp gw tb mt T M X) (hc : Ch9 (un B) w w1) (hs : s < 5) (hcn : c < n s) (few : n s ≤ 512) (h0 : 0 ≤ x0 ∧ x0 ≤ 4294967295) :
    Wr w (w1.setCell ⟨gw s, c * wN s, none⟩ (.int .u32 x0)) p n T M B mp gw tb mt X s c 0 x0 := by
  obtain ⟨l1, l2⟩ := cell_in9 hs hcn few
  have w4 := (wN_bd hs).1
  obtain ⟨a1, a2⟩ := h.wstep hs (k := c * wN s) (by omega) h0.1 h0.2
  exact ⟨_, a1, hc.trans a2, upX_same, fun m hm => absurd hm (by omega), fun s' k' hn => upX_ne (fun e => hn ⟨e.1, by omega⟩)⟩
theorem Wr.next (h : Wr w w1 p n T M B mp gw tb mt X s c j x0) (hs : s < 5) (hcn : c < n s) (few : n s ≤ 512) (hj : j + 2 < wN s) :
    Wr w (w1.setCell ⟨gw s, c * wN s + (2 + j), none⟩ (.int .u32 2)) p n T M B mp gw tb mt X s c (j + 1) x0 := by
  obtain ⟨l1, l2⟩ := cell_in9 hs hcn few
  obtain ⟨X', h1, h2, h3, h4, h5⟩ := h
  obtain ⟨a1, a2⟩ := h1.wstep hs (k := c * wN s + (2 + j)) (by omega) (v := 2) (by omega) (by omega)
  refine ⟨_, a1, h2.trans a2, ?_, fun m hm => ?_, fun s' k' hn => ?_⟩
  · rw [upX_ne (by omega)]; exact h3
  · by_cases e : m = j
    · subst e; rw [Nat.add_assoc]; exact upX_same
    · rw [upX_ne (by omega)]; exact h4 m (by omega)
  · rw [upX_ne (fun e => hn ⟨e.1, by omega⟩)]; exact h5 s' k' hn
set_option maxHeartbeats 8000000 in
theorem vwrite_c (h : HP w p n B mp gw tb mt T M X) {s c f : Nat} (s5 : s < 5) (hcn : c < n s) (few : n s ≤ 512) (x0 : Int) (x00 : 0 ≤ x0) (x01 : x0 ≤ 4294967295) (hf : hs x0 = (f : Int)) (fit : f + 2 ≤ wN s) :
    Calls Tryz.prog 151 #[.pointer (some ⟨p, 0, none⟩), plV ((s : Int), (c : Int)), .int .u32 x0] w fun e w' => e = .returned (.tuple #[]) ∧ Wr w w' p n T M B mp gw tb mt X s c f x0 := by
  obtain ⟨l1, l2⟩ := cell_in9 s5 hcn few
  have PS := Lib.hid (Size_c x0 x00 x01)
  rw [hf] at PS
  have w64 := (wN_bd s5).2
  have hB : Below w.heap.size w (w.alloc (.cells #[.int .i64 s, .int .i64 c] 124)) := (Below.refl _ _).alloc (Nat.le_refl _) _
  have PC := Lib.hid (fun (w1 : World) (hb : Below w.heap.size w w1) => cell_c (h.keep hb) s5 hcn few)
  have hw0 := Lib.hid (fun (w2 : World) (hb : Below w.heap.size w w2) => (h.keep hb).word s5 hcn few (k := 0) (by omega))
  simp only [Nat.add_zero] at hw0
  have hz0 := Lib.hid (fun (w2 : World) (hb : Below w.heap.size w w2) => (h.keep hb).zg s s5 (by omega) (c * wN s))
  have hbeg := Lib.hid (fun (w2 : World) (hb : Below w.heap.size w w2) => Wr.begin (w := w) (x0 := x0) (h.keep hb) (below_un hb) s5 hcn few ⟨x00, x01⟩)
  have hnx := Lib.hid (fun (j : Nat) (wX : World) (hW : Wr w wX p n T M B mp gw tb mt X s c j x0) (hj : j < f) => hW.next s5 hcn few (by omega))
  have hcell : Hid (∀ (j : Nat) (wX : World), Wr w wX p n T M B mp gw tb mt X s c j x0 → j < f → ∃ y, wX.cell? ⟨gw s, c * wN s + (2 + j), none⟩ = some (.int .u32 y) ∧ wX.frozen? ⟨gw s, c * wN s + (2 + j), none⟩ = false) := Lib.hid (fun j wX hW hj => by
    obtain ⟨X', h1, _⟩ := hW
    exact ⟨_, h1.word s5 hcn few (k := 2 + j) (by omega), h1.zg s s5 (by omega) _⟩)
  have hcc : Hid (∀ (wX : World), Wr w wX p n T M B mp gw tb mt X s c f x0 → wX.cell? ⟨p, 11, none⟩ = some (.pointer (some ⟨mt, 0, none⟩)) ∧ Mt wX mt) := Lib.hid (fun wX hW => by
    obtain ⟨X', h1, _⟩ := hW
    exact ⟨h1.cc, h1.met⟩)
  have hend : Hid (∀ (wX wY : World), Wr w wX p n T M B mp gw tb mt X s c f x0 → Mt wY mt → Ch9 (fun k => k = mt) wX wY → Wr w wY p n T M B mp gw tb mt X s c f x0) := Lib.hid (fun wX wY hW d1 d2 => by
    obtain ⟨X', h1, h2, h3⟩ := hW
    obtain ⟨e1, e2⟩ := h1.cstep d1 d2
    exact ⟨X', e1, h2.trans e2, h3⟩)
  unfold cellV plV at *
  simp only at PC ⊢
  generalize hXX : X s (c * wN s) = xo at *
  clear h hXX
  have hWf : ∀ j wX, Wr w wX p n T M B mp gw tb mt X s c j x0 = Wr w wX p n T M B mp gw tb mt X s c j x0 := fun _ _ => rfl
  generalize hWr : (fun (wX : World) (j : Nat) => Wr w wX p n T M B mp gw tb mt X s c j x0) = WW at *
  have hWW : ∀ wX j, Wr w wX p n T M B mp gw tb mt X s c j x0 = WW wX j := fun wX j => by rw [← hWr]
  simp only [hWW] at hbeg hnx hcell hcc hend ⊢
  clear hWr hWW hWf
  generalize n s * wN s = N at *
  generalize c * wN s = a at *
  generalize wN s = W at *
  generalize gw s = g at *
  have hW0 : 0 < W := by omega
  generalize hw2 : w.alloc (.cells #[.int .i64 s, .int .i64 c] 124) = w2 at *
  have q0 : w2.cell? ⟨w.heap.size, 0, none⟩ = some (.int .i64 s) := by rw [← hw2]; simp
  have q1 : w2.cell? ⟨w.heap.size, 1, none⟩ = some (.int .i64 c) := by rw [← hw2]; simp
  replace hB := Lib.hid hB
  go_enter Tryz.func151, Tryz.ntmps151
  go_wp2_with fail
  clear hw2
  go_wp2_with (first | (go_at_call 74; ((with_reducible refine (PC.out _ hB.out).mono ?_); rintro e w1 ⟨rfl, hb1⟩; have hb2 := Lib.hid (hB.out.trans (hb1.mono hB.out.size)); have hb3 := Lib.hid hb2.out.drew; have c0 := hw0.out _ hb3.out; have z0 := hz0.out _ hb3.out; have S0 := Lib.hid (hbeg.out _ hb3.out); clear hb1)) | (go_at_call 56; ((with_reducible refine (PS.out _).mono ?_); rintro e w3 ⟨rfl, hw3⟩; subst w3)))
  have S1 : Hid (WW (w1.setCell ⟨g, a, none⟩ (.int .u32 x0)).drew 0) := S0
  clear S0
  have S0 := S1
  clear S1
  generalize (w1.setCell ⟨g, a, none⟩ (.int .u32 x0)).drew = w5 at *
  clear c0 z0 hb2 hb3 PC PS hw0 hz0 hbeg q0 q1 hB
  go_loopw [18] (fun i' wr => ∃ j : Nat, j ≤ f ∧ i' = .int .i64 j ∧ WW wr j) (fun i' _ => f - (intOf i').toNat)
  case atStart => exact ⟨0, by omega, rfl, S0.out⟩
  case round =>
    clear S0
    obtain ⟨j, hj, rfl, hR⟩ := hrel
    by_cases hlt : j < f
    · have hd : decide ((j : Int) < (f : Int)) = true := by simp; omega
      have hw1 : IntKind.i64.wrap ((j : Int) + 1) = (j : Int) + 1 := by rw [IntKind.wrap_i64]; omega
      have hw3 : IntKind.i64.wrap (2 + (j : Int)) = ((2 + j : Nat) : Int) := by rw [IntKind.wrap_i64]; omega
      have hi : ((2 + j : Nat) : Int) < (W : Int) := by omega
      have hi2 : 2 + j < W := by omega
      obtain ⟨y, cy, zy⟩ := hcell.out j wr hR hlt
      have hN := Lib.hid (hnx.out j wr hR hlt)
      clear hR
      go_wp2
      go_roundw
      case rel => exact ⟨j + 1, by omega, by go_num, hN.out⟩
      case measure => simp [intOf]; omega
    · have e : j = f := by omega
      subst e
      have hd : decide ((j : Int) < (j : Int)) = false := by simp
      obtain ⟨cc, hm⟩ := hcc.out wr hR
      have hwf : IntKind.i64.wrap (1 + (j : Int)) = 1 + (j : Int) := by rw [IntKind.wrap_i64]; omega
      have PA := Lib.hid (add_c hm (1 + (j : Int)) (by omega) (by omega))
      replace hR := Lib.hid hR
      clear hm
      go_wp2_with (first | (go_at_call 54; ((with_reducible refine (PA.out).mono ?_); rintro e w6 ⟨rfl, d1, d2⟩; have hT := Lib.hid (hend.out _ _ hR.out d1 d2); clear d1 d2)))
      go_end0
      exact ⟨rfl, hT.out⟩
end
end Wd
end Go.Proofs.YteiejjmhmmkdhaaGreat

/- The landed memory: Alloc. -/
namespace Go.Proofs.YteiejjmhmmkdhaaGreat
open Go.RowKit Go.Maps
set_option linter.unusedVariables false
set_option maxRecDepth 20000
namespace Wd
section
variable {w w' w1 w2 : World} {p : Nat} {n : Nat → Nat} {B B1 : Nat → Nat → Prop} {mp gw : Nat → Nat} {tb mt : Nat} {T T' : Tst} {M M' : Nat → Mst} {X X' : Nat → Nat → Int} {H H1 H2 : Hst} {i : Int} {s c j : Nat} {cl x0 : Int} {L : List Int}
/-- a new object: the words tell it -/
theorem wr_new (h : HQ w p n H B mp gw tb mt X) {cl f : Int} (hb : alcB H cl f = true) {s c : Nat} (hsf : fo f = (s : Int)) (hc0 : firstR (H.M s) 0 = (c : Int))
    (e0 : X' s (c * wN s) = pk cl f (s : Int)) (e1 : ∀ m, m < f.toNat → X' s (c * wN s + 2 + m) = 2) (e2 : ∀ s' k', ¬ (s' = s ∧ c * wN s ≤ k' ∧ k' < c * wN s + wN s) → X' s' k' = X s' k') :
    WR n (alcH H cl f).T (alcH H cl f).C X' := by
  obtain ⟨s2, k, i, R, s5, ef, f0, f1, c0, hM, k1, k2, k3, i0, ei, eH⟩ := h.inv.alc_of hb
  obtain rfl : s = s2 := by omega
  have hic : i = (c : Int) := by rw [← hc0]; unfold firstR; rw [hM]
  subst hic
  have hno : ∀ m, H.T m ≠ some ((s : Int), (c : Int)) := ofR_none h.inv.inv (h.inv.miss s5 (by rw [hM]; simp))
  have hok : hok cl f (s : Int) = true := (hok_iff _ _ _).2 ⟨c0, by omega, by omega⟩
  obtain ⟨_, q1, q2, _⟩ := pk_open _ _ _ hok
  rw [eH]
  intro k' s' c' hT s5' cn'
  have hT' : updT H.T k (some ((s : Int), (c : Int))) k' = some ((s' : Int), (c' : Int)) := hT
  show hc (X' s' (c' * wN s')) = (upC H.C ((s : Int), (c : Int)) (cl, List.replicate f.toNat 2) ((s' : Int), (c' : Int))).1 ∧ hs (X' s' (c' * wN s')) = ((upC H.C ((s : Int), (c : Int)) (cl, List.replicate f.toNat 2) ((s' : Int), (c' : Int))).2.length : Int) ∧ ∀ m v, (upC H.C ((s : Int), (c : Int)) (cl, List.replicate f.toNat 2) ((s' : Int), (c' : Int))).2[m]? = some v → X' s' (c' * wN s' + 2 + m) = v
  unfold updT at hT'
  split at hT'
  · simp only [Option.some.injEq, Prod.mk.injEq] at hT'
    obtain rfl : s' = s := by omega
    obtain rfl : c' = c := by omega
    have eC : upC H.C ((s' : Int), (c' : Int)) (cl, List.replicate f.toNat 2) ((s' : Int), (c' : Int)) = (cl, List.replicate f.toNat 2) := by unfold upC; rw [if_pos rfl]
    rw [eC, e0]
    refine ⟨q1, ?_, fun m v hv => ?_⟩
    · rw [q2, List.length_replicate]; omega
    · have hm := (List.getElem?_eq_some_iff.1 hv).1
      rw [List.length_replicate] at hm
      have := List.mem_of_getElem? hv
      have hv2 := List.eq_of_mem_replicate this
      rw [e1 m hm, hv2]
  · have hne : ¬ (s' = s ∧ c' = c) := fun e => hno k' (by rw [hT', e.1, e.2])
    have eC : upC H.C ((s : Int), (c : Int)) (cl, List.replicate f.toNat 2) ((s' : Int), (c' : Int)) = H.C ((s' : Int), (c' : Int)) := by
      unfold upC; rw [if_neg]; intro e; simp only [Prod.mk.injEq] at e; exact hne (by omega)
    obtain ⟨r1, r2, r3⟩ := h.wr k' s' c' hT' s5' cn'
    obtain ⟨g1, g2, g3⟩ := h.inv.cel k' _ hT'
    obtain ⟨t1, t2⟩ := len_fits s5' g1
    have eX : ∀ a, a < wN s' → X' s' (c' * wN s' + a) = X s' (c' * wN s' + a) := fun a ha => e2 _ _ (fun e => by
      obtain ⟨rfl, b1, b2⟩ := e
      obtain ⟨b, hb⟩ : ∃ b, c' * wN s' + a = c * wN s' + b := ⟨c' * wN s' + a - c * wN s', by omega⟩
      exact hne ⟨rfl, (cell_apart ha (by omega) hb).1⟩)
    have w4 := (wN_bd s5').1
    have eX0 := eX 0 (by omega)
    rw [Nat.add_zero] at eX0
    rw [eC, eX0]
    refine ⟨r1, r2, fun m v hv => ?_⟩
    have hm := (List.getElem?_eq_some_iff.1 hv).1
    rw [Nat.add_assoc, eX (2 + m) (by omega), ← Nat.add_assoc]
    exact r3 m v hv
theorem alc_no {cl f : Int} (hb : alcB H cl f = false) : alcI H cl f = -1 ∧ alcH H cl f = H := by
  constructor
  · unfold alcI; rw [hb]; rfl
  · unfold alcH; rw [hb]; rfl
theorem row0_none {A : Mst} (h : A 0 = []) : firstR A 0 = -1 ∧ firstA A 0 1 = A := by
  constructor
  · unfold firstR; rw [h]
  · unfold firstA; rw [h]
set_option maxHeartbeats 8000000 in
theorem valloc_no (h : HQ w p n H B mp gw tb mt X) (cl f : Int) (c0 : -9223372036854775808 ≤ cl) (c1 : cl ≤ 9223372036854775807) (f0 : -9223372036854775808 ≤ f) (f1 : f ≤ 9223372036854775807) (hb : alcB H cl f = false) :
    Calls Tryz.prog 147 #[.pointer (some ⟨p, 0, none⟩), .int .i64 cl, .int .i64 f] w fun e w' => e = .returned (.int .i64 (-1)) ∧ Tn w w' p n H B mp gw tb mt X := by
  have PO := Lib.hid (of_c f f0 f1)
  have hfb := fo_bd f
  by_cases hf : fo f < 0
  · have d1 : decide (fo f < 0) = true := by simpa using hf
    generalize fo f = ff at *
    replace h := Lib.hid h
    clear hb
    go_enter Tryz.func147, Tryz.ntmps147
    go_wp2_with (first | (go_at_call 41; ((with_reducible refine (PO.out _).mono ?_); rintro e w1 ⟨rfl, hw1⟩; subst w1)))
    go_ret
    exact ⟨rfl, Tn.refl h.out⟩
  · obtain ⟨s, hs⟩ : ∃ s : Nat, fo f = (s : Int) := ⟨(fo f).toNat, by omega⟩
    have s5 : s < 5 := by omega
    have s5' : (s : Int) < 5 := by omega
    have hM0 : (0 ≤ cl ∧ cl ≤ 4095) → H.M s 0 = [] := fun hcl => by
      unfold alcB at hb
      rw [hs, decide_eq_true hcl, decide_eq_true (show 0 ≤ (s : Int) by omega)] at hb
      simpa using hb
    have hf62 : 0 ≤ f ∧ f ≤ 62 := by
      rcases fo_cases f with ⟨h, e⟩ | ⟨h1, h2, e⟩ | ⟨h1, h2, e⟩ | ⟨h1, h2, e⟩ | ⟨h1, h2, e⟩ | ⟨h1, h2, e⟩ <;> omega
    have d1 : decide ((s : Int) < 0) = false := by simp
    have cm := h.hp.cm s s5
    rw [hs] at PO
    by_cases h0 : n s = 0
    · rw [if_pos h0] at cm
      replace h := Lib.hid h
      clear hb hM0 hs hf
      go_enter Tryz.func147, Tryz.ntmps147
      go_wp2_with (first | (go_at_call 41; ((with_reducible refine (PO.out _).mono ?_); rintro e w1 ⟨rfl, hw1⟩; subst w1)))
      go_ret
      exact ⟨rfl, Tn.refl h.out⟩
    · rw [if_neg h0] at cm
      have PP := Lib.hid (Pack_c cl f (s : Int) c0 c1 f0 f1 (by omega) (by omega))
      by_cases hcl : 0 ≤ cl ∧ cl ≤ 4095
      · have hok : hok cl f (s : Int) = true := (hok_iff _ _ _).2 ⟨hcl, by omega, by omega⟩
        rw [hok] at PP
        obtain ⟨r1, r2⟩ := row0_none (hM0 hcl)
        have PM := Lib.hid (fun (wX : World) (hX : Below w.heap.size w wX) => KM.alloc ((h.keep hX).hp.mill s s5 (by omega)))
        have hcm := Lib.hid (fun (wX : World) (hX : Below w.heap.size w wX) => (h.keep hX).hp.cm s s5)
        simp only [if_neg h0] at hcm
        have hfin : Hid (∀ (wX wY : World) (F' : Nat → Prop), Below w.heap.size w wX → MA wY (mp s) (n s) (firstA (H.M s) 0 1) F' → Ch9 (B (3 + s)) wX wY → Newer9 (B (3 + s)) F' wX.heap.size → Tn w wY p n H B mp gw tb mt X) := Lib.hid (fun wX wY F' hX d1 d2 d3 => by
          have e : ({ H with M := upM H.M s (firstA (H.M s) 0 1) } : Hst) = H := by rw [r2, upM_self]
          have := (h.keep hX).mstep s5 (by omega) d1 d2 d3 (by rw [e]; exact h.inv)
          rw [e] at this
          exact Tn.pre hX this)
        rw [r1] at PM
        have hB : ∀ (w1 : World), w1 = w.alloc (.cells #[.int .i64 cl, .int .i64 f, .int .i64 s] 93) → Below w.heap.size w w1 := fun w1 e => by rw [e]; exact (Below.refl _ _).alloc (Nat.le_refl _) _
        replace hB := Lib.hid hB
        clear hb hM0 hs hf h r1 r2 hok h0
        generalize pk cl f (s : Int) = x0 at *
        go_enter Tryz.func147, Tryz.ntmps147
        go_wp2_with (first | (go_at_call 41; ((with_reducible refine (PO.out _).mono ?_); rintro e w1 ⟨rfl, hw1⟩; subst w1)) | (go_at_call 40; ((with_reducible refine (PP.out _).mono ?_); rintro e w2 ⟨rfl, hw2⟩; have hb2 := Lib.hid (hB.out _ hw2); clear hw2; have cm2 := hcm.out _ hb2.out)) | (go_at_call 150; ((with_reducible refine (PM.out _ hb2.out).mono ?_); rintro e w3 ⟨F', he, d1, d2, d3⟩; subst he; have hT := Lib.hid (hfin.out _ _ _ hb2.out d1 d2 d3); clear d1 d2 d3)))
        go_ret
        exact ⟨rfl, hT.out.keep ((Below.refl _ _).alloc (Nat.le_refl _) _)⟩
      · have hok : hok cl f (s : Int) = false := by
          cases hh : Wd.hok cl f (s : Int) with
          | false => rfl
          | true => exact absurd ((hok_iff _ _ _).1 hh).1 hcl
        rw [hok] at PP
        have hB : ∀ (w1 : World), w1 = w.alloc (.cells #[.int .i64 cl, .int .i64 f, .int .i64 s] 93) → Below w.heap.size w w1 := fun w1 e => by rw [e]; exact (Below.refl _ _).alloc (Nat.le_refl _) _
        replace hB := Lib.hid hB
        replace h := Lib.hid h
        clear hb hM0 hs hf hok h0
        generalize pk cl f (s : Int) = x0 at *
        go_enter Tryz.func147, Tryz.ntmps147
        go_wp2_with (first | (go_at_call 41; ((with_reducible refine (PO.out _).mono ?_); rintro e w1 ⟨rfl, hw1⟩; subst w1)) | (go_at_call 40; ((with_reducible refine (PP.out _).mono ?_); rintro e w2 ⟨rfl, hw2⟩; have hb2 := Lib.hid (hB.out _ hw2); clear hw2)))
        go_ret
        exact ⟨rfl, (Tn.refl h.out).keep hb2.out⟩
end
end Wd
end Go.Proofs.YteiejjmhmmkdhaaGreat

/- The landed memory: Alloc, where there is a cell. -/
namespace Go.Proofs.YteiejjmhmmkdhaaGreat
open Go.RowKit Go.Maps
set_option linter.unusedVariables false
set_option maxRecDepth 20000
namespace Wd
section
variable {w w' w1 w2 : World} {p : Nat} {n : Nat → Nat} {B B1 : Nat → Nat → Prop} {mp gw : Nat → Nat} {tb mt : Nat} {T T' : Tst} {M M' : Nat → Mst} {X X' : Nat → Nat → Int} {H H1 H2 : Hst} {i : Int} {s c j : Nat} {cl x0 : Int} {L : List Int}
theorem Newer9.mono' {F F' : Nat → Prop} {s t : Nat} (h : Newer9 F F' t) (hst : s ≤ t) : Newer9 F F' s := fun k hk => by
  rcases h k hk with h | h
  · exact Or.inl h
  · exact Or.inr (Nat.le_trans hst h)
set_option maxHeartbeats 8000000 in
theorem valloc_yes (h : HQ w p n H B mp gw tb mt X) (cl f : Int) (hb : alcB H cl f = true) :
    Calls Tryz.prog 147 #[.pointer (some ⟨p, 0, none⟩), .int .i64 cl, .int .i64 f] w fun e w' => e = .returned (.int .i64 (alcI H cl f)) ∧ ∃ X', Tn w w' p n (alcH H cl f) B mp gw tb mt X' := by
  obtain ⟨s, k, i, R, s5, ef, f0, f1, c0, hM, k1, k2, k3, i0, ei, eH⟩ := h.inv.alc_of hb
  obtain ⟨c, rfl⟩ : ∃ c : Nat, i = c := ⟨i.toNat, by omega⟩
  have hr : firstR (H.M s) 0 = (c : Int) := by unfold firstR; rw [hM]
  have few := h.inv.few s s5
  have hn0 : ¬ (n s = 0) := by omega
  have eI : alcI H cl f = takeI H.T ((s : Int), (c : Int)) := by
    unfold alcI alcP
    rw [if_pos hb, ef, show ((s : Int)).toNat = s by simp, hr]
  have eT : (alcH H cl f).T = takeT H.T ((s : Int), (c : Int)) := by
    unfold alcH alcP
    rw [if_pos hb, ef, show ((s : Int)).toNat = s by simp, hr]
  have eM : (alcH H cl f).M = upM H.M s (firstA (H.M s) 0 1) := by rw [eH]
  have PO := Lib.hid (of_c f (by omega) (by omega))
  rw [ef] at PO
  have PP := Lib.hid (Pack_c cl f (s : Int) (by omega) (by omega) (by omega) (by omega) (by omega) (by omega))
  have hok : hok cl f (s : Int) = true := (hok_iff _ _ _).2 ⟨c0, by omega, by omega⟩
  obtain ⟨_, _, q2, _⟩ := pk_open _ _ _ hok
  have q2' : Wd.hs (pk cl f (s : Int)) = (f.toNat : Int) := by rw [q2]; omega
  have pkb := pk_bd cl f (s : Int)
  rw [hok] at PP
  have fit : f.toNat + 2 ≤ wN s := (len_fits s5 (by rw [show ((f.toNat : Nat) : Int) = f by omega]; exact ef)).1
  have PM := Lib.hid (fun (wX : World) (hX : Below w.heap.size w wX) => KM.alloc ((h.keep hX).hp.mill s s5 (by omega)))
  rw [hr] at PM
  have hcm := Lib.hid (fun (wX : World) (hX : Below w.heap.size w wX) => (h.keep hX).hp.cm s s5)
  simp only [if_neg hn0] at hcm
  have hfin : Hid (∀ (wX wY : World) (F' : Nat → Prop), Below w.heap.size w wX → MA wY (mp s) (n s) (firstA (H.M s) 0 1) F' → Ch9 (B (3 + s)) wX wY → Newer9 (B (3 + s)) F' wX.heap.size → FV w wY p n H.T (upM H.M s (firstA (H.M s) 0 1)) B mp gw tb mt X) := Lib.hid (fun wX wY F' hX d1 d2 d3 => by
    obtain ⟨a1, a2, a3⟩ := (h.keep hX).hp.mstep s5 (by omega) d1 d2 d3
    exact ⟨_, a1, (below_un hX).trans a2, Newer9.mono' a3 hX.size⟩)
  have PWr := Lib.hid (fun (wX : World) (B3 : Nat → Nat → Prop) (h3 : HP wX p n B3 mp gw tb mt H.T (upM H.M s (firstA (H.M s) 0 1)) X) => vwrite_c h3 (c := c) s5 (by omega) few (pk cl f (s : Int)) pkb.1 pkb.2 q2' fit)
  have hpl : plOk ((s : Int), (c : Int)) := ⟨⟨by simp only; omega, by simp only; omega⟩, ⟨by simp only; omega, by simp only; omega⟩⟩
  have PT := Lib.hid (fun (wX : World) (B3 : Nat → Nat → Prop) (X' : Nat → Nat → Int) (h3 : HP wX p n B3 mp gw tb mt H.T (upM H.M s (firstA (H.M s) 0 1)) X') => KT.take ((s : Int), (c : Int)) h3.tbl hpl)
  have hend : Hid (∀ (wX wY : World) (B3 : Nat → Nat → Prop) (X' : Nat → Nat → Int) (F' : Nat → Prop), HP wX p n B3 mp gw tb mt H.T (upM H.M s (firstA (H.M s) 0 1)) X' → TA wY tb (takeT H.T ((s : Int), (c : Int))) F' → Ch9 (B3 2) wX wY → Newer9 (B3 2) F' wX.heap.size → X' s (c * wN s) = pk cl f (s : Int) → (∀ m, m < f.toNat → X' s (c * wN s + 2 + m) = 2) → (∀ s' k', ¬ (s' = s ∧ c * wN s ≤ k' ∧ k' < c * wN s + wN s) → X' s' k' = X s' k') → Tn wX wY p n (alcH H cl f) B3 mp gw tb mt X') := Lib.hid (fun wX wY B3 X' F' h3 d1 d2 d3 x1 x2 x3 => by
    obtain ⟨a1, a2, a3⟩ := h3.tstep d1 d2 d3
    rw [← eT, ← eM] at a1
    exact ⟨_, ⟨a1, wr_new h hb ef hr x1 x2 x3, h.inv.alc cl f⟩, a2, a3⟩)
  have hB : ∀ (w1 : World), w1 = w.alloc (.cells #[.int .i64 cl, .int .i64 f, .int .i64 s] 93) → Below w.heap.size w w1 := fun w1 e => by rw [e]; exact (Below.refl _ _).alloc (Nat.le_refl _) _
  replace hB := Lib.hid hB
  rw [eI]
  have cm := h.hp.cm s s5
  rw [if_neg hn0] at cm
  have s5' : (s : Int) < 5 := by omega
  have d1 : decide ((s : Int) < 0) = false := by simp
  have d2 : decide ((c : Int) < 0) = false := by simp
  unfold plV at PWr PT
  simp only at PWr PT
  clear eI eT eM hb eH ei k3 hM hr hok q2 q2' pkb h hn0 hpl ef
  generalize pk cl f (s : Int) = x0 at *
  generalize alcH H cl f = HN at *
  generalize takeI H.T ((s : Int), (c : Int)) = tk at *
  generalize takeT H.T ((s : Int), (c : Int)) = TN at *
  generalize upM H.M s (firstA (H.M s) 0 1) = MN at *
  generalize firstA (H.M s) 0 1 = AN at *
  generalize mp s = ms at *
  go_enter Tryz.func147, Tryz.ntmps147
  go_wp2_with (first | (go_at_call 41; ((with_reducible refine (PO.out _).mono ?_); rintro e w1 ⟨rfl, hw1⟩; subst w1)) | (go_at_call 40; ((with_reducible refine (PP.out _).mono ?_); rintro e w2 ⟨rfl, hw2⟩; have hb2 := Lib.hid (hB.out _ hw2); clear hw2; have cm2 := hcm.out _ hb2.out)) | (go_at_call 150; ((with_reducible refine (PM.out _ hb2.out).mono ?_); rintro e w3 ⟨F', he, d1, d2, d3⟩; subst he; obtain ⟨B3, h3, c3, n3⟩ := hfin.out _ _ _ hb2.out d1 d2 d3; have h4 := h3.keep ((Below.refl _ _).alloc (Nat.le_refl _) (.cells #[.int .i64 s, .int .i64 c] 124)); have nb := Lib.hid (fun (hx : un B3 w3.heap.size) => Nat.lt_irrefl _ (h3.ltu _ hx)); have PW2 := Lib.hid (PWr.out _ _ h4); replace c3 := Lib.hid c3; replace n3 := Lib.hid n3; clear d1 d2 d3 h3 h4)))
  clear PM PP PO PWr hfin hcm hB cm cm2
  have b0 : (w3.alloc (.cells #[.int .i64 s, .int .i64 c] 124)).cell? ⟨w3.heap.size, 0, none⟩ = some (.int .i64 s) := by simp
  have b1 : (w3.alloc (.cells #[.int .i64 s, .int .i64 c] 124)).cell? ⟨w3.heap.size, 1, none⟩ = some (.int .i64 c) := by simp
  have hb4 : Below w3.heap.size w3 (w3.alloc (.cells #[.int .i64 s, .int .i64 c] 124)) := (Below.refl _ _).alloc (Nat.le_refl _) _
  have hsz : w3.heap.size < (w3.alloc (.cells #[.int .i64 s, .int .i64 c] 124)).heap.size := by simp only [World.size_alloc]; omega
  generalize w3.alloc (.cells #[.int .i64 s, .int .i64 c] 124) = w4 at *
  replace hb4 := Lib.hid hb4
  go_wp2_with (first | (go_at_call 151; ((with_reducible refine (PW2.out).mono ?_); rintro e w5 ⟨rfl, X', g1, g2, g3, g4, g5⟩)))
  have e5 := g2.block w3.heap.size hsz nb.out
  have r0 := (World.cell?_of_block (a := ⟨w3.heap.size, 0, none⟩) e5).trans b0
  have r1 := (World.cell?_of_block (a := ⟨w3.heap.size, 1, none⟩) e5).trans b1
  have ct5 := g1.ct
  have g6 : HP w5.drew p n B3 mp gw tb mt H.T MN X' := g1.keep (Below.refl _ _).drew
  have PT2 := Lib.hid (PT.out _ _ _ g6)
  have hE := Lib.hid (fun wY F' d1 d2 d3 => hend.out _ wY _ _ F' g6 d1 d2 d3 g3 g4 g5)
  have g2' : Ch9 (un B3) w4 w5.drew := g2.trans (below_un (Below.refl _ _).drew)
  replace g2' := Lib.hid g2'
  clear b0 b1 e5 g1 g2 g3 g4 g5 g6 PT hend PW2
  go_still_tail 5, (by kernel_rfl)
  go_wp2_with (first | (go_at_call 152; ((with_reducible refine (PT2.out).mono ?_); rintro e w6 ⟨F', he, d1, d2, d3⟩; subst he; have hT := Lib.hid (hE.out _ _ d1 d2 d3); clear d1 d2 d3)))
  go_ret
  refine ⟨rfl, X', tn_then c3.out n3.out (Tn.pre hb4.out (tn_then g2'.out (newer_refl9 _ _) hT.out))⟩
end
end Wd
end Go.Proofs.YteiejjmhmmkdhaaGreat

/- The landed memory: it is made. -/
namespace Go.Proofs.YteiejjmhmmkdhaaGreat
open Go.RowKit Go.Maps
set_option linter.unusedVariables false
set_option maxRecDepth 20000
namespace Wd
theorem index5 (n : Nat → Nat) {s : Nat} (hs : s < 5) (w : World) : (Instr.index 59 (.agg #[.int .i64 (n 0 : Nat), .int .i64 (n 1 : Nat), .int .i64 (n 2 : Nat), .int .i64 (n 3 : Nat), .int .i64 (n 4 : Nat)]) (.int .i64 (s : Int))).run Tryz.prog w = .ok (.int .i64 (n s : Nat)) w := by
  rcases (show s = 0 ∨ s = 1 ∨ s = 2 ∨ s = 3 ∨ s = 4 by omega) with rfl | rfl | rfl | rfl | rfl <;> kernel_rfl
theorem upB_ap2 {B : Nat → Nat → Prop} {i0 : Nat} {F' : Nat → Prop} (ap : ∀ i j k, B i k → B j k → i = j) (hn : ∀ k, F' k → ¬ un B k) : ∀ i j k, upB B i0 F' i k → upB B i0 F' j k → i = j := by
  intro i j k h1 h2
  unfold upB at h1 h2
  split at h1
  · split at h2
    · omega
    · exact absurd ⟨_, h2⟩ (hn k h1)
  · split at h2
    · exact absurd ⟨_, h1⟩ (hn k h2)
    · exact ap _ _ k h1 h2
/-- while it is made: km mills, kw rows of words are there -/
structure NV (w : World) (n : Nat → Nat) (p tb mt : Nat) (km kw : Nat) (wr : World) (B : Nat → Nat → Prop) (mp gw : Nat → Nat) : Prop where
  bel : Below w.heap.size w wr
  far : ∀ i j, B i j → w.heap.size ≤ j
  cm : ∀ s, s < 5 → wr.cell? ⟨p, s, none⟩ = some (.pointer (if s < km then mv n mp s else none))
  ce : ∀ s, s < 5 → kw ≤ s → ∃ v, wr.cell? ⟨p, 5 + s, none⟩ = some v
  cw : ∀ s, s < 5 → s < kw → 1 ≤ n s → wr.cell? ⟨p, 5 + s, none⟩ = some (.slice (some ⟨gw s, 0, none⟩) (n s * wN s) (n s * wN s))
  ct : wr.cell? ⟨p, 10, none⟩ = some (.pointer (some ⟨tb, 0, none⟩))
  cc : wr.cell? ⟨p, 11, none⟩ = some (.pointer (some ⟨mt, 0, none⟩))
  zp : ∀ k, wr.frozen? ⟨p, k, none⟩ = false
  bp : B 0 p
  bm : B 1 mt
  bg : ∀ s, s < 5 → s < kw → 1 ≤ n s → B (8 + s) (gw s)
  mill : ∀ s, s < 5 → s < km → 1 ≤ n s → MA wr (mp s) (n s) (startA (n s)) (B (3 + s))
  tbl : TA wr tb noT (B 2)
  met : Mt wr mt
  row : ∀ s, s < 5 → s < kw → ∀ k, k < n s * wN s → wr.cell? ⟨gw s, k, none⟩ = some (.int .u32 0)
  zg : ∀ s, s < 5 → s < kw → 1 ≤ n s → ∀ k, wr.frozen? ⟨gw s, k, none⟩ = false
  ap : ∀ i j k, B i k → B j k → i = j
  lt : ∀ i k, B i k → k < wr.heap.size
section
variable {w wr w1 : World} {n : Nat → Nat} {p tb mt km kw k q g : Nat} {B : Nat → Nat → Prop} {mp gw : Nat → Nat} {F' : Nat → Prop}
theorem NV.keep (h : NV w n p tb mt km kw wr B mp gw) (hb : Below wr.heap.size wr w1) : NV w n p tb mt km kw w1 B mp gw := by
  have hk : ∀ i k, B i k → w1.heap[k]? = wr.heap[k]? := fun i k hB => hb.block k (h.lt i k hB)
  have e0 := hk 0 p h.bp
  refine ⟨h.bel.trans (hb.mono h.bel.size), h.far, fun s hs => (World.cell?_of_block (a := ⟨p, s, none⟩) e0).trans (h.cm s hs), fun s hs hw => ?_, fun s hs hw hn => (World.cell?_of_block (a := ⟨p, 5 + s, none⟩) e0).trans (h.cw s hs hw hn), (World.cell?_of_block (a := ⟨p, 10, none⟩) e0).trans h.ct, (World.cell?_of_block (a := ⟨p, 11, none⟩) e0).trans h.cc,
    fun k => (World.frozen?_of_block (a := ⟨p, k, none⟩) e0).trans (h.zp k), h.bp, h.bm, h.bg, fun s hs hm hn => KM.keep (h.mill s hs hm hn) (fun k hB => hk _ k hB), KT.keep h.tbl (fun k hB => hk _ k hB), h.met.same (hk 1 mt h.bm), fun s hs hw k hkk => ?_, fun s hs hw hn k => ?_, h.ap, fun i k hB => Nat.lt_of_lt_of_le (h.lt i k hB) hb.size⟩
  · obtain ⟨v, hv⟩ := h.ce s hs hw
    exact ⟨v, (World.cell?_of_block (a := ⟨p, 5 + s, none⟩) e0).trans hv⟩
  · exact (World.cell?_of_block (a := ⟨gw s, k, none⟩) (hk _ _ (h.bg s hs hw (n_pos hkk)))).trans (h.row s hs hw k hkk)
  · exact (World.frozen?_of_block (a := ⟨gw s, k, none⟩) (hk _ _ (h.bg s hs hw hn))).trans (h.zg s hs hw hn k)
/-- a cell of the memory's own block is written -/
theorem NV.own (h : NV w n p tb mt km kw wr B mp gw) {o : Nat} {v : Value} {i j : Nat} (hB : B i j) (hi : i ≠ 0) : (wr.setCell ⟨p, o, none⟩ v).heap[j]? = wr.heap[j]? :=
  Below.heap_setCell _ _ _ _ (fun e => hi (h.ap i 0 j hB (by rw [e]; exact h.bp)))
theorem NV.off (h : NV w n p tb mt km kw wr B mp gw) {o o' : Nat} {v : Value} (hne : o' ≠ o) : (wr.setCell ⟨p, o, none⟩ v).cell? ⟨p, o', none⟩ = wr.cell? ⟨p, o', none⟩ :=
  World.cell?_setCell_other _ _ _ _ (by intro e; injection e with _ h2; exact hne h2.symm)
theorem NV.bel' (h : NV w n p tb mt km kw wr B mp gw) (o : Nat) (v : Value) : Below w.heap.size w (wr.setCell ⟨p, o, none⟩ v) := below_set h.bel (h.far 0 p h.bp) _
theorem NV.mil (h : NV w n p tb mt k kw wr B mp gw) (hk : k < 5) (hn : 1 ≤ n k) (hM : MA wr q (n k) (startA (n k)) F') (hd : ∀ j, F' j → ¬ un B j) (hf : ∀ j, F' j → w.heap.size ≤ j) :
    NV w n p tb mt (k + 1) kw (wr.setCell ⟨p, k, none⟩ (.pointer (some ⟨q, 0, none⟩))) (upB B (3 + k) F') (upN mp k q) gw := by
  have ne : ∀ {j : Nat}, j ≠ 3 + k → upB B (3 + k) F' j = B j := fun hne => by unfold upB; rw [if_neg hne]
  have hp0 : ∀ j, F' j → j ≠ p := fun j hj e => hd j hj ⟨0, by rw [e]; exact h.bp⟩
  refine ⟨h.bel' _ _, fun i j hij => ?_, fun s hs => ?_, fun s hs hw => ?_, fun s hs hw hns => (h.off (by omega)).trans (h.cw s hs hw hns), (h.off (by omega)).trans h.ct, (h.off (by omega)).trans h.cc, fun k => by rw [World.frozen?_setCell]; exact h.zp k, ?_, ?_, fun s hs hw hns => ?_, fun s hs hm hns => ?_, ?_, ?_, fun s hs hw j hj => ?_, fun s hs hw hns j => by rw [World.frozen?_setCell]; exact h.zg s hs hw hns j, upB_ap2 h.ap hd, fun i j hij => ?_⟩
  · unfold upB at hij
    split at hij
    · exact hf j hij
    · exact h.far i j hij
  · by_cases e : s = k
    · subst e
      rw [World.cell?_setCell_same _ _ _ (h.cm s hs), if_pos (by omega)]
      unfold mv upN
      rw [if_neg (by omega), if_pos rfl]
    · rw [h.off e, h.cm s hs]
      by_cases e2 : s < k
      · rw [if_pos e2, if_pos (by omega)]
        unfold mv upN
        rw [if_neg e]
      · rw [if_neg e2, if_neg (by omega)]
  · obtain ⟨v, hv⟩ := h.ce s hs hw
    exact ⟨v, (h.off (by omega)).trans hv⟩
  · rw [ne (by omega)]; exact h.bp
  · rw [ne (by omega)]; exact h.bm
  · rw [ne (by omega)]; exact h.bg s hs hw hns
  · unfold upN
    by_cases e : s = k
    · subst e
      rw [if_pos rfl]
      unfold upB
      rw [if_pos rfl]
      exact KM.keep hM (fun j hj => Below.heap_setCell _ _ _ _ (hp0 j hj))
    · rw [if_neg e, ne (by omega)]
      exact KM.keep (h.mill s hs (by omega) hns) (fun j hj => h.own hj (by omega))
  · rw [ne (by omega)]
    exact KT.keep h.tbl (fun j hj => h.own hj (by omega))
  · exact h.met.same (h.own h.bm (by omega))
  · exact (World.cell?_of_block (a := ⟨gw s, j, none⟩) (h.own (h.bg s hs hw (n_pos hj)) (by omega))).trans (h.row s hs hw j hj)
  · rw [World.size_setCell]
    unfold upB at hij
    split at hij
    · exact KM.lt hM j hij
    · exact h.lt i j hij
theorem NV.nomil (h : NV w n p tb mt k kw wr B mp gw) (hk : k < 5) (hn : n k = 0) : NV w n p tb mt (k + 1) kw (wr.setCell ⟨p, k, none⟩ (.pointer none)) B mp gw := by
  refine ⟨h.bel' _ _, h.far, fun s hs => ?_, fun s hs hw => ?_, fun s hs hw hns => (h.off (by omega)).trans (h.cw s hs hw hns), (h.off (by omega)).trans h.ct, (h.off (by omega)).trans h.cc, fun k => by rw [World.frozen?_setCell]; exact h.zp k, h.bp, h.bm, h.bg, fun s hs hm hns => ?_, ?_, ?_, fun s hs hw j hj => ?_, fun s hs hw hns j => by rw [World.frozen?_setCell]; exact h.zg s hs hw hns j, h.ap, fun i j hij => by rw [World.size_setCell]; exact h.lt i j hij⟩
  · by_cases e : s = k
    · subst e
      rw [World.cell?_setCell_same _ _ _ (h.cm s hs), if_pos (by omega)]
      unfold mv
      rw [if_pos hn]
    · rw [h.off e, h.cm s hs]
      by_cases e2 : s < k
      · rw [if_pos e2, if_pos (by omega)]
      · rw [if_neg e2, if_neg (by omega)]
  · obtain ⟨v, hv⟩ := h.ce s hs hw
    exact ⟨v, (h.off (by omega)).trans hv⟩
  · have : s ≠ k := fun e => by subst e; omega
    exact KM.keep (h.mill s hs (by omega) hns) (fun j hj => h.own hj (by omega))
  · exact KT.keep h.tbl (fun j hj => h.own hj (by omega))
  · exact h.met.same (h.own h.bm (by omega))
  · exact (World.cell?_of_block (a := ⟨gw s, j, none⟩) (h.own (h.bg s hs hw (n_pos hj)) (by omega))).trans (h.row s hs hw j hj)
theorem NV.rows (h : NV w n p tb mt km k wr B mp gw) (hk : k < 5) (hr : ∀ j, j < n k * wN k → wr.cell? ⟨g, j, none⟩ = some (.int .u32 0)) (hz : ∀ j, wr.frozen? ⟨g, j, none⟩ = false) (hd : ¬ un B g) (hf : w.heap.size ≤ g) (hl : g < wr.heap.size) :
    NV w n p tb mt km (k + 1) (wr.setCell ⟨p, 5 + k, none⟩ (.slice (some ⟨g, 0, none⟩) (n k * wN k) (n k * wN k))) (upB B (8 + k) (fun j => j = g)) mp (upN gw k g) := by
  have ne : ∀ {j : Nat}, j ≠ 8 + k → upB B (8 + k) (fun j => j = g) j = B j := fun hne => by unfold upB; rw [if_neg hne]
  have hgp : g ≠ p := fun e => hd ⟨0, by rw [e]; exact h.bp⟩
  refine ⟨h.bel' _ _, fun i j hij => ?_, fun s hs => (h.off (by omega)).trans (h.cm s hs), fun s hs hw => ?_, fun s hs hw hns => ?_, (h.off (by omega)).trans h.ct, (h.off (by omega)).trans h.cc, fun k => by rw [World.frozen?_setCell]; exact h.zp k, ?_, ?_, fun s hs hw hns => ?_, fun s hs hm hns => ?_, ?_, ?_, fun s hs hw j hj => ?_, fun s hs hw hns j => ?_, upB_ap2 h.ap (fun j hj => by subst hj; exact hd), fun i j hij => ?_⟩
  · unfold upB at hij
    split at hij
    · subst hij; exact hf
    · exact h.far i j hij
  · obtain ⟨v, hv⟩ := h.ce s hs (by omega)
    exact ⟨v, (h.off (by omega)).trans hv⟩
  · by_cases e : s = k
    · subst e
      obtain ⟨v, hv⟩ := h.ce s hs (by omega)
      unfold upN
      rw [if_pos rfl]
      exact World.cell?_setCell_same _ _ _ hv
    · unfold upN
      rw [if_neg e]
      exact (h.off (by omega)).trans (h.cw s hs (by omega) hns)
  · rw [ne (by omega)]; exact h.bp
  · rw [ne (by omega)]; exact h.bm
  · unfold upN
    by_cases e : s = k
    · subst e; rw [if_pos rfl]; unfold upB; rw [if_pos rfl]
    · rw [if_neg e, ne (by omega)]; exact h.bg s hs (by omega) hns
  · rw [ne (by omega)]
    exact KM.keep (h.mill s hs hm hns) (fun j hj => h.own hj (by omega))
  · rw [ne (by omega)]
    exact KT.keep h.tbl (fun j hj => h.own hj (by omega))
  · exact h.met.same (h.own h.bm (by omega))
  · unfold upN
    by_cases e : s = k
    · subst e
      rw [if_pos rfl]
      exact (World.cell?_of_block (a := ⟨g, j, none⟩) (Below.heap_setCell _ _ _ _ hgp)).trans (hr j hj)
    · rw [if_neg e]
      exact (World.cell?_of_block (a := ⟨gw s, j, none⟩) (h.own (h.bg s hs (by omega) (n_pos hj)) (by omega))).trans (h.row s hs (by omega) j hj)
  · rw [World.frozen?_setCell]
    unfold upN
    by_cases e : s = k
    · subst e; rw [if_pos rfl]; exact hz j
    · rw [if_neg e]; exact h.zg s hs (by omega) hns j
  · rw [World.size_setCell]
    unfold upB at hij
    split at hij
    · subst hij; exact hl
    · exact h.lt i j hij
theorem NV.fin (h : NV w n p tb mt 5 5 wr B mp gw) (few : ∀ s, s < 5 → n s ≤ 512) (sum : n 0 + (n 1 + (n 2 + (n 3 + n 4))) ≤ 1020) : HQ wr p n (newH n) B mp gw tb mt (fun _ _ => 0) := by
  refine ⟨⟨fun s hs => ?_, fun s hs hn => h.cw s hs hs hn, h.ct, h.cc, h.bp, h.bm, fun s hs hn => h.bg s hs hs hn, fun s hs hn => h.mill s hs hs hn, h.tbl, h.met, fun s hs k hk => h.row s hs hs k hk, fun s hs hn k => h.zg s hs hs hn k, fun s k => by omega, h.ap, h.lt⟩, fun k s c hT => (by cases hT), HInv.new n few sum⟩
  have := h.cm s hs
  rw [if_pos hs] at this
  exact this
/-- the blocks of a memory without mills -/
def B0 (p mt : Nat) (F1 : Nat → Prop) : Nat → Nat → Prop := fun i k => if i = 0 then k = p else if i = 1 then k = mt else if i = 2 then F1 k else False
theorem NV.begin {w1 w2 : World} {F1 : Nat → Prop} (hb1 : Below w.heap.size w w1) (hT : TA w1 tb noT F1) (hF : ∀ k, F1 k → w.heap.size ≤ k) (hm : Mt w2 mt) (hmt : mt = w1.heap.size) (hb2 : Below w1.heap.size w1 w2) :
    NV w n w2.heap.size tb mt 0 0 (w2.alloc (.cells #[.pointer none, .pointer none, .pointer none, .pointer none, .pointer none, .slice none 0 0, .slice none 0 0, .slice none 0 0, .slice none 0 0, .slice none 0 0, .pointer (some ⟨tb, 0, none⟩), .pointer (some ⟨mt, 0, none⟩)] 109)) (B0 w2.heap.size mt F1) (fun _ => 0) (fun _ => 0) := by
  have hm2 : mt < w2.heap.size := by
    obtain ⟨⟨a, b, h1, _⟩, _⟩ := hm
    exact World.block_lt_of_cell? w2 _ h1
  have hF2 : ∀ k, F1 k → k < w1.heap.size := KT.lt hT
  have hs := hb2.size
  have hs1 := hb1.size
  have hB12 : Below w.heap.size w w2 := hb1.trans (hb2.mono hs1)
  have hal : ∀ o : Obj, Below w2.heap.size w2 (w2.alloc o) := fun o => (Below.refl _ _).alloc (Nat.le_refl _) _
  refine ⟨hB12.trans ((hal _).mono hB12.size), fun i j hij => ?_, fun s h5 => ?_, fun s h5 _ => ?_, fun s h5 h0 => absurd h0 (by omega), by simp, by simp, fun k => by simp, by unfold B0; rw [if_pos rfl], by unfold B0; rw [if_neg (by omega), if_pos rfl], fun s h5 h0 => absurd h0 (by omega), fun s h5 h0 => absurd h0 (by omega), ?_, ?_, fun s h5 h0 => absurd h0 (by omega), fun s h5 h0 => absurd h0 (by omega), fun i j k h1 h2 => ?_, fun i j hij => ?_⟩
  · unfold B0 at hij
    split at hij
    · omega
    · split at hij
      · omega
      · split at hij
        · exact hF j hij
        · exact hij.elim
  · rcases (show s = 0 ∨ s = 1 ∨ s = 2 ∨ s = 3 ∨ s = 4 by omega) with rfl | rfl | rfl | rfl | rfl <;> simp
  · rcases (show s = 0 ∨ s = 1 ∨ s = 2 ∨ s = 3 ∨ s = 4 by omega) with rfl | rfl | rfl | rfl | rfl <;> exact ⟨_, by simp; rfl⟩
  · have e : B0 w2.heap.size mt F1 2 = F1 := by unfold B0; funext k; rw [if_neg (by omega), if_neg (by omega), if_pos rfl]
    rw [e]
    refine KT.keep hT (fun k hk => ?_)
    have := hF2 k hk
    exact ((hal _).block k (by omega)).trans (hb2.block k this)
  · exact hm.same ((hal _).block mt hm2)
  · unfold B0 at h1 h2
    have f1 : F1 k → k < w1.heap.size := hF2 k
    by_cases a0 : i = 0 <;> by_cases b0 : j = 0
    · omega
    · rw [if_pos a0] at h1; rw [if_neg b0] at h2
      split at h2
      · omega
      · split at h2
        · have := f1 h2; omega
        · exact h2.elim
    · rw [if_neg a0] at h1; rw [if_pos b0] at h2
      split at h1
      · omega
      · split at h1
        · have := f1 h1; omega
        · exact h1.elim
    · rw [if_neg a0] at h1; rw [if_neg b0] at h2
      by_cases a1 : i = 1 <;> by_cases b1 : j = 1
      · omega
      · rw [if_pos a1] at h1; rw [if_neg b1] at h2
        split at h2
        · have := f1 h2; omega
        · exact h2.elim
      · rw [if_neg a1] at h1; rw [if_pos b1] at h2
        split at h1
        · have := f1 h1; omega
        · exact h1.elim
      · rw [if_neg a1] at h1; rw [if_neg b1] at h2
        split at h1
        · split at h2
          · omega
          · exact h2.elim
        · exact h1.elim
  · rw [World.size_alloc]
    unfold B0 at hij
    split at hij
    · omega
    · split at hij
      · omega
      · split at hij
        · have := hF2 j hij; omega
        · exact hij.elim
set_option maxHeartbeats 16000000 in
theorem vnew_none {w : World} (p : Int) (hp : i64 p) : Calls Tryz.prog 23 #[cfgV (fun _ => 0) p] w fun e w' => e = .returned (.pointer .none) ∧ Below w.heap.size w w' := by
  have PR := Lib.hid (right9_c 0 0 0 0 0 p (by omega) (by omega) (by omega) (by omega) (by omega) (by omega) (by omega) (by omega) (by omega) (by omega) hp.1 hp.2)
  have er : rt 0 0 0 0 0 p = 18 := by unfold rt; simp
  rw [er] at PR
  show Calls Tryz.prog 23 #[.agg #[.int .i64 0, .int .i64 0, .int .i64 0, .int .i64 0, .int .i64 0, .int .i64 p]] w _
  have hal : ∀ o : Obj, Below w.heap.size w (w.alloc o) := fun o => (Below.refl _ _).alloc (Nat.le_refl _) _
  replace hal := Lib.hid hal
  go_enter Tryz.func23, Tryz.ntmps23
  go_wp2_with (first | (go_at_call 48; ((with_reducible refine (PR.out _).mono ?_); rintro e w1 ⟨rfl, hw1⟩; subst w1)))
  go_ret
  exact ⟨rfl, (hal.out _).trans (((Below.refl _ _).alloc (Nat.le_refl _) _).mono (hal.out _).size)⟩
set_option maxHeartbeats 16000000 in
theorem vnew_c {w : World} (n : Nat → Nat) (p : Int) (few : ∀ s, s < 5 → n s ≤ 512) (sum1 : 1 ≤ n 0 + (n 1 + (n 2 + (n 3 + n 4)))) (sum : n 0 + (n 1 + (n 2 + (n 3 + n 4))) ≤ 1020) (p1 : 1 ≤ p) (p2 : p ≤ 16) :
    Calls Tryz.prog 23 #[cfgV n p] w fun e w' => ∃ q F, e = .returned (.pointer (some ⟨q, 0, none⟩)) ∧ HA w' q n (newH n) F ∧ (∀ k, F k → w.heap.size ≤ k) ∧ Below w.heap.size w w' := by
  have h0 := few 0 (by omega)
  have h1 := few 1 (by omega)
  have h2 := few 2 (by omega)
  have h3 := few 3 (by omega)
  have h4 := few 4 (by omega)
  have PR := Lib.hid (right9_c (n 0 : Nat) (n 1 : Nat) (n 2 : Nat) (n 3 : Nat) (n 4 : Nat) p (by omega) (by omega) (by omega) (by omega) (by omega) (by omega) (by omega) (by omega) (by omega) (by omega) (by omega) (by omega))
  have er : rt (n 0 : Nat) (n 1 : Nat) (n 2 : Nat) (n 3 : Nat) (n 4 : Nat) p = 0 := (rt_zero _ _ _ _ _ _).2 (by omega)
  rw [er] at PR
  have hix := Lib.hid (fun (s : Nat) (hs : s < 5) (w : World) => index5 n hs w)
  unfold cfgV
  have hal : ∀ (w : World) (o : Obj), Below w.heap.size w (w.alloc o) := fun w o => (Below.refl _ _).alloc (Nat.le_refl _) _
  replace hal := Lib.hid hal
  clear er h0 h1 h2 h3 h4 sum1 p1 p2
  go_enter Tryz.func23, Tryz.ntmps23
  go_wp2_with (first | (go_at_call 48; ((with_reducible refine (PR.out _).mono ?_); rintro e w1 ⟨rfl, hw1⟩; subst w1)))
  have q : ∀ j, j < 5 → ((w.alloc (.cells #[.int .i64 (n 0 : Nat), .int .i64 (n 1 : Nat), .int .i64 (n 2 : Nat), .int .i64 (n 3 : Nat), .int .i64 (n 4 : Nat), .int .i64 p] 61)).alloc (.cells #[.int .i64 (n 0 : Nat), .int .i64 (n 1 : Nat), .int .i64 (n 2 : Nat), .int .i64 (n 3 : Nat), .int .i64 (n 4 : Nat), .int .i64 p] 61)).cell? ⟨w.heap.size, j, none⟩ = some (.int .i64 (n j : Nat)) := fun j hj => by
    rcases (show j = 0 ∨ j = 1 ∨ j = 2 ∨ j = 3 ∨ j = 4 by omega) with rfl | rfl | rfl | rfl | rfl <;> simp
  have hbW := (hal.out w (.cells #[.int .i64 (n 0 : Nat), .int .i64 (n 1 : Nat), .int .i64 (n 2 : Nat), .int .i64 (n 3 : Nat), .int .i64 (n 4 : Nat), .int .i64 p] 61)).trans ((hal.out (w.alloc (.cells #[.int .i64 (n 0 : Nat), .int .i64 (n 1 : Nat), .int .i64 (n 2 : Nat), .int .i64 (n 3 : Nat), .int .i64 (n 4 : Nat), .int .i64 p] 61)) (.cells #[.int .i64 (n 0 : Nat), .int .i64 (n 1 : Nat), .int .i64 (n 2 : Nat), .int .i64 (n 3 : Nat), .int .i64 (n 4 : Nat), .int .i64 p] 61)).mono (hal.out w _).size)
  have hlw : w.heap.size < ((w.alloc (.cells #[.int .i64 (n 0 : Nat), .int .i64 (n 1 : Nat), .int .i64 (n 2 : Nat), .int .i64 (n 3 : Nat), .int .i64 (n 4 : Nat), .int .i64 p] 61)).alloc (.cells #[.int .i64 (n 0 : Nat), .int .i64 (n 1 : Nat), .int .i64 (n 2 : Nat), .int .i64 (n 3 : Nat), .int .i64 (n 4 : Nat), .int .i64 p] 61)).heap.size := by simp only [World.size_alloc]; omega
  generalize (w.alloc (.cells #[.int .i64 (n 0 : Nat), .int .i64 (n 1 : Nat), .int .i64 (n 2 : Nat), .int .i64 (n 3 : Nat), .int .i64 (n 4 : Nat), .int .i64 p] 61)).alloc (.cells #[.int .i64 (n 0 : Nat), .int .i64 (n 1 : Nat), .int .i64 (n 2 : Nat), .int .i64 (n 3 : Nat), .int .i64 (n 4 : Nat), .int .i64 p] 61) = w1 at *
  with_reducible refine KT.new.mono ?_
  rintro e w2 ⟨tb, F1, rfl, t1, t2, t3⟩
  have q2 : ∀ j, j < 5 → w2.cell? ⟨w.heap.size, j, none⟩ = some (.int .i64 (n j : Nat)) := fun j hj => (t3.cell hlw).trans (q j hj)
  have hb2 := hbW.trans (t3.mono hbW.size)
  have hF1 : ∀ k, F1 k → w.heap.size ≤ k := fun k hk => Nat.le_trans hbW.size (t2 k hk)
  have hl2 : w.heap.size < w2.heap.size := Nat.lt_of_lt_of_le hlw t3.size
  replace hb2 := Lib.hid hb2
  replace hF1 := Lib.hid hF1
  replace t1 := Lib.hid t1
  clear t2 t3 hbW q PR hlw
  go_wp2_with (first | (go_at_call 50; ((with_reducible refine (cnew_c _).mono ?_); rintro e w3 ⟨mt, rfl, m1, m2, m3⟩; have S0 := Lib.hid (NV.begin (n := n) hb2.out t1.out hF1.out m1 m2 m3); have q3 : ∀ (o : Obj) j, j < 5 → (w3.alloc o).cell? ⟨w.heap.size, j, none⟩ = some (.int .i64 (n j : Nat)) := (fun o j hj => ((hal.out w3 o).cell (Nat.lt_of_lt_of_le hl2 m3.size)).trans ((m3.cell hl2).trans (q2 j hj))); have c0 := fun o => q3 o 0 (by omega); have c1 := fun o => q3 o 1 (by omega); have c2 := fun o => q3 o 2 (by omega); have c3 := fun o => q3 o 3 (by omega); have c4 := fun o => q3 o 4 (by omega); replace q3 := Lib.hid q3; replace m2 := Lib.hid m2; clear m1 m3)))
  replace q2 := Lib.hid q2
  clear c0 c1 c2 c3 c4 q3 hl2 hb2 hF1 t1 q2
  generalize w3.alloc (.cells #[.pointer none, .pointer none, .pointer none, .pointer none, .pointer none, .slice none 0 0, .slice none 0 0, .slice none 0 0, .slice none 0 0, .slice none 0 0, .pointer (some ⟨tb, 0, none⟩), .pointer (some ⟨mt, 0, none⟩)] 109) = w4 at *
  generalize w3.heap.size = P at *
  obtain ⟨i0, hi0, hz0, hz1, hz2⟩ := info_parts infoW
  have hmk : Hid (∀ m : Nat, m ≤ 32768 → ∀ w, (Instr.makeSlice 87 (.int .i64 (m : Int)) (.int .i64 (m : Int))).run Tryz.prog w = .ok (.slice (some ⟨w.heap.size, 0, none⟩) m m) (w.alloc (.cells (madeCells #[.int .u32 0] m) 49))) := Lib.hid (fun m hm w => by
    have := run_make (P := Tryz.prog) w 87 49 i0 (.int .u32 0) Tryz.underlying87 hi0 hz0 .i64 .i64 m m (by omega) (by omega) (by rw [hz2]; omega) (by omega)
    rw [hz1] at this
    simpa [Value.cells] using this)
  clear hi0 hz0 hz1 hz2
  go_loopw [15] (fun i' wr => ∃ k : Nat, k ≤ 5 ∧ i' = .int .i64 k ∧ ∃ B mp gw, NV w n P tb mt k k wr B mp gw) (fun i' _ => 5 - (intOf i').toNat)
  case atStart => exact ⟨0, by omega, rfl, _, _, _, S0.out⟩
  case round =>
    clear S0
    obtain ⟨k, hk, rfl, B, mp, gw, hR⟩ := hrel
    by_cases hlt : k < 5
    · have hlt5 : decide ((k : Int) < 5) = true := by simp; omega
      have hlt5' : (k : Int) < 5 := by omega
      have hw1 : IntKind.i64.wrap ((k : Int) + 1) = (k : Int) + 1 := by rw [IntKind.wrap_i64]; omega
      have hx := hix.out k hlt wr
      have hfew := few k hlt
      have hcx : Hid (∀ wX, Below wr.heap.size wr wX → wX.cell? ⟨P, k, none⟩ = some (.pointer none) ∧ wX.frozen? ⟨P, k, none⟩ = false) := Lib.hid (fun wX hb => by
        have h := hR.keep hb
        have := h.cm k hlt
        rw [if_neg (by omega)] at this
        exact ⟨this, h.zp k⟩)
      by_cases h0 : n k = 0
      · have PN := Lib.hid (fun (wX : World) => KM.none (w := wX) (n k : Nat) (by omega) (by omega) (Or.inl (by omega)))
        have hnx : Hid (∀ wX, Below wr.heap.size wr wX → NV w n P tb mt (k + 1) k (wX.setCell ⟨P, k, none⟩ (.pointer none)) B mp gw) := Lib.hid (fun wX hb => (hR.keep hb).nomil hlt h0)
        clear hR h0
        go_wp2
        go_region_with (first | (go_at_call 51; ((with_reducible refine (PN.out _).mono ?_); rintro e w5 ⟨rfl, hb5⟩; have hb5' : Below wr.heap.size wr w5 := ⟨hb5.os, hb5.tape, hb5.output, hb5.size, hb5.block⟩; obtain ⟨x1, z1⟩ := hcx.out w5 hb5')))
        have hN1 := hnx.out _ hb5'
        have hPl : P < (w5.setCell ⟨P, k, none⟩ (.pointer none)).heap.size := hN1.lt _ _ hN1.bp
        obtain ⟨v0, x2⟩ := hN1.ce k hlt (Nat.le_refl _)
        have z2 := hN1.zp (5 + k)
        clear x1 z1 hb5 hb5' hnx PN hcx
        replace hN1 := Lib.hid hN1
        generalize w5.setCell ⟨P, k, none⟩ (.pointer none) = w6 at *
        have PW := Lib.hid (words_c (k : Int) (by omega) (by omega))
        rw [wd_wN hlt] at PW
        have hWb := wN_bd hlt
        have hmb : n k * wN k ≤ 32768 := Nat.mul_le_mul hfew hWb.2
        have hml : IntKind.i64.wrap ((n k : Int) * (wN k : Int)) = ((n k * wN k : Nat) : Int) := by rw [← Int.natCast_mul, IntKind.wrap_i64]; omega
        have hmk2 := hmk.out _ hmb
        have hnx2 : Hid (∀ (g : Nat) (Z : Array Value), Z = madeCells #[.int .u32 0] (n k * wN k) → g = w6.heap.size → NV w n P tb mt (k + 1) (k + 1) ((w6.alloc (.cells Z 49)).setCell ⟨P, 5 + k, none⟩ (.slice (some ⟨g, 0, none⟩) (n k * wN k) (n k * wN k))) (upB B (8 + k) (fun j => j = g)) mp (upN gw k g)) := Lib.hid (fun g Z hZ hg => by
          subst hg
          refine (hN1.out.keep ((Below.refl _ _).alloc (Nat.le_refl _) _)).rows hlt (fun j hj => ?_) (fun j => by simp) (fun ⟨i, hi⟩ => Nat.lt_irrefl _ (hN1.out.lt i _ hi)) (hN1.out.bel.size) (by simp)
          have : (madeCells #[Value.int .u32 0] (n k * wN k)).toList[j]? = some (.int .u32 0) := by rw [toList_madeCells_one]; simp [hj]
          rw [hZ]
          simp only [World.cell?, heap_alloc_new]
          rw [← Array.getElem?_toList, this]
          rfl)
        obtain ⟨Z, hZ⟩ : ∃ Z, Z = madeCells #[.int .u32 0] (n k * wN k) := ⟨_, rfl⟩
        rw [← hZ] at hmk2
        have hnx3 := Lib.hid (fun g hg => hnx2.out g Z hZ hg)
        clear hN1 hnx2 hZ
        generalize n k * wN k = N at *
        generalize wN k = W at *
        go_wp2
        go_region_with (first | (go_at_call 52; ((with_reducible refine (PW.out _).mono ?_); rintro e w7 ⟨rfl, hw7⟩; subst w7)))
        have hN2 := hnx3.out w6.heap.size rfl
        rw [World.setCell_alloc_past _ _ _ _ hPl] at hN2
        have hN3 := hN2.keep (Below.refl _ _).drew
        generalize ((w6.setCell ⟨P, 5 + k, none⟩ (.slice (some ⟨w6.heap.size, 0, none⟩) N N)).alloc (.cells Z 49)).drew = w8 at *
        replace hN3 := Lib.hid hN3
        clear hN2 hnx3 hmk2 PW x2 z2 hml hmb
        generalize w6.heap.size = g6 at *
        (try simp only [Exit.inBlock, Exit.then])
        go_wp2
        go_roundw
        case rel => exact ⟨k + 1, by omega, by go_num, _, _, _, hN3.out⟩
        case measure => simp [intOf]; omega
      · have PN := Lib.hid (fun (wX : World) => KM.new (w := wX) (n k) (by omega) hfew)
        have hlB := Lib.hid (fun i j hB => hR.lt i j hB)
        have hsz := hR.bel.size
        have hnx0 : Hid (∀ wX q5 F5, Below wr.heap.size wr wX → MA wX q5 (n k) (startA (n k)) F5 → (∀ j, F5 j → wr.heap.size ≤ j) → NV w n P tb mt (k + 1) k (wX.setCell ⟨P, k, none⟩ (.pointer (some ⟨q5, 0, none⟩))) (upB B (3 + k) F5) (upN mp k q5) gw) := Lib.hid (fun wX q5 F5 hb hM hF => (hR.keep hb).mil hlt (by omega) hM (fun j hj ⟨i, hi⟩ => by have := hlB.out i j hi; have := hF j hj; omega) (fun j hj => by have := hF j hj; omega))
        clear hR h0
        go_wp2
        go_region_with (first | (go_at_call 51; ((with_reducible refine (PN.out _).mono ?_); rintro e w5 ⟨q5, F5, he, mm, mf, hb5⟩; subst he; have hb5' : Below wr.heap.size wr w5 := ⟨hb5.os, hb5.tape, hb5.output, hb5.size, hb5.block⟩; have mf' : ∀ j, F5 j → wr.heap.size ≤ j := mf; obtain ⟨x1, z1⟩ := hcx.out w5 hb5')))
        have hnx := Lib.hid (fun (wX : World) (_ : Below wr.heap.size wr w5) => hnx0.out w5 q5 F5 hb5' mm mf')
        have hnx : Hid (∀ wX, wX = w5 → NV w n P tb mt (k + 1) k (wX.setCell ⟨P, k, none⟩ (.pointer (some ⟨q5, 0, none⟩))) (upB B (3 + k) F5) (upN mp k q5) gw) := Lib.hid (fun wX e => by subst e; exact hnx0.out wX q5 F5 hb5' mm mf')
        clear hnx0 mm mf mf' hlB hsz
        have hN1 := hnx.out _ rfl
        have hPl : P < (w5.setCell ⟨P, k, none⟩ (.pointer (some ⟨q5, 0, none⟩))).heap.size := hN1.lt _ _ hN1.bp
        obtain ⟨v0, x2⟩ := hN1.ce k hlt (Nat.le_refl _)
        have z2 := hN1.zp (5 + k)
        clear x1 z1 hb5 hb5' hnx PN hcx
        replace hN1 := Lib.hid hN1
        generalize w5.setCell ⟨P, k, none⟩ (.pointer (some ⟨q5, 0, none⟩)) = w6 at *
        have PW := Lib.hid (words_c (k : Int) (by omega) (by omega))
        rw [wd_wN hlt] at PW
        have hWb := wN_bd hlt
        have hmb : n k * wN k ≤ 32768 := Nat.mul_le_mul hfew hWb.2
        have hml : IntKind.i64.wrap ((n k : Int) * (wN k : Int)) = ((n k * wN k : Nat) : Int) := by rw [← Int.natCast_mul, IntKind.wrap_i64]; omega
        have hmk2 := hmk.out _ hmb
        have hnx2 : Hid (∀ (g : Nat) (Z : Array Value), Z = madeCells #[.int .u32 0] (n k * wN k) → g = w6.heap.size → NV w n P tb mt (k + 1) (k + 1) ((w6.alloc (.cells Z 49)).setCell ⟨P, 5 + k, none⟩ (.slice (some ⟨g, 0, none⟩) (n k * wN k) (n k * wN k))) (upB (upB B (3 + k) F5) (8 + k) (fun j => j = g)) (upN mp k q5) (upN gw k g)) := Lib.hid (fun g Z hZ hg => by
          subst hg
          refine (hN1.out.keep ((Below.refl _ _).alloc (Nat.le_refl _) _)).rows hlt (fun j hj => ?_) (fun j => by simp) (fun ⟨i, hi⟩ => Nat.lt_irrefl _ (hN1.out.lt i _ hi)) (hN1.out.bel.size) (by simp)
          have : (madeCells #[Value.int .u32 0] (n k * wN k)).toList[j]? = some (.int .u32 0) := by rw [toList_madeCells_one]; simp [hj]
          rw [hZ]
          simp only [World.cell?, heap_alloc_new]
          rw [← Array.getElem?_toList, this]
          rfl)
        obtain ⟨Z, hZ⟩ : ∃ Z, Z = madeCells #[.int .u32 0] (n k * wN k) := ⟨_, rfl⟩
        rw [← hZ] at hmk2
        have hnx3 := Lib.hid (fun g hg => hnx2.out g Z hZ hg)
        clear hN1 hnx2 hZ
        generalize n k * wN k = N at *
        generalize wN k = W at *
        go_wp2
        go_region_with (first | (go_at_call 52; ((with_reducible refine (PW.out _).mono ?_); rintro e w7 ⟨rfl, hw7⟩; subst w7)))
        have hN2 := hnx3.out w6.heap.size rfl
        rw [World.setCell_alloc_past _ _ _ _ hPl] at hN2
        have hN3 := hN2.keep (Below.refl _ _).drew
        generalize ((w6.setCell ⟨P, 5 + k, none⟩ (.slice (some ⟨w6.heap.size, 0, none⟩) N N)).alloc (.cells Z 49)).drew = w8 at *
        replace hN3 := Lib.hid hN3
        clear hN2 hnx3 hmk2 PW x2 z2 hml hmb
        generalize w6.heap.size = g6 at *
        (try simp only [Exit.inBlock, Exit.then])
        go_wp2
        go_roundw
        case rel => exact ⟨k + 1, by omega, by go_num, _, _, _, hN3.out⟩
        case measure => simp [intOf]; omega
    · have e : k = 5 := by omega
      subst e
      have hQ := Lib.hid (hR.fin few sum)
      have hbl := Lib.hid hR.bel
      have hfr := Lib.hid hR.far
      clear hR
      go_wp2
      go_ret
      exact ⟨_, _, rfl, ⟨_, _, _, _, _, _, rfl, hQ.out⟩, fun g ⟨i, hi⟩ => hfr.out i g hi, hbl.out⟩
end
end Wd
end Go.Proofs.YteiejjmhmmkdhaaGreat

/- The landed memory does what the laws ask of it. -/
namespace Go.Proofs.YteiejjmhmmkdhaaGreat
open Go.RowKit Go.Maps
set_option linter.unusedVariables false
set_option maxRecDepth 20000
namespace Wd
theorem tn_left {w w' : World} {p : Nat} {n : Nat → Nat} {H' : Hst} {B : Nat → Nat → Prop} {mp gw : Nat → Nat} {tb mt : Nat} {X : Nat → Nat → Int} (t : Tn w w' p n H' B mp gw tb mt X) : ∃ F', Left HA w w' p n H' (un B) F' := by
  obtain ⟨B', h1, h2, h3⟩ := t
  exact ⟨un B', ⟨B', mp, gw, tb, mt, X, rfl, h1⟩, h2, h3⟩
theorem below_left {w w' : World} {p : Nat} {n : Nat → Nat} {H : Hst} {F : Nat → Prop} (h : HA w p n H F) (b : Below w.heap.size w w') : Left HA w w' p n H F F :=
  ⟨h.keep b, below_un b, newer_refl9 _ _⟩
theorem KK : HeapK HA := by
  constructor
  case lt => exact fun h => h.lt
  case keep => exact fun h hs hk => h.same hs hk
  case inv => exact fun h => h.inv
  case alloc =>
    rintro w p n H F cl f ⟨B, mp, gw, tb, mt, X, rfl, h⟩ hcl hf
    cases hb : alcB H cl f with
    | false =>
      obtain ⟨e1, e2⟩ := alc_no hb
      rw [e1, e2]
      refine (valloc_no h cl f hcl.1 hcl.2 hf.1 hf.2 hb).mono ?_
      rintro e w' ⟨rfl, t⟩
      obtain ⟨F', l⟩ := tn_left t
      exact ⟨F', rfl, l⟩
    | true =>
      refine (valloc_yes h cl f hb).mono ?_
      rintro e w' ⟨rfl, X', t⟩
      obtain ⟨F', l⟩ := tn_left t
      exact ⟨F', rfl, l⟩
  case get =>
    rintro w p n H F i j ⟨B, mp, gw, tb, mt, X, rfl, h⟩ hi hj
    refine (vget_c h i j hi.1 hi.2 hj.1 hj.2).mono ?_
    rintro e w' ⟨rfl, h1, h2⟩
    exact ⟨_, rfl, ⟨B, mp, gw, tb, mt, X, rfl, h1⟩, h2, newer_refl9 _ _⟩
  case put =>
    rintro w p n H F i j x ⟨B, mp, gw, tb, mt, X, rfl, h⟩ hi hj x0 x1
    refine (vput_c h i j x hi.1 hi.2 hj.1 hj.2 x0 x1).mono ?_
    rintro e w' ⟨rfl, X', t⟩
    obtain ⟨F', l⟩ := tn_left t
    exact ⟨F', rfl, l⟩
  case cls =>
    rintro w p n H F i ⟨B, mp, gw, tb, mt, X, rfl, h⟩ hi
    refine (vclass_c h i hi.1 hi.2).mono ?_
    rintro e w' ⟨rfl, h1, h2⟩
    exact ⟨_, rfl, ⟨B, mp, gw, tb, mt, X, rfl, h1⟩, h2, newer_refl9 _ _⟩
  case fld =>
    rintro w p n H F i ⟨B, mp, gw, tb, mt, X, rfl, h⟩ hi
    refine (vfields_c h i hi.1 hi.2).mono ?_
    rintro e w' ⟨rfl, h1, h2⟩
    exact ⟨_, rfl, ⟨B, mp, gw, tb, mt, X, rfl, h1⟩, h2, newer_refl9 _ _⟩
  case col =>
    rintro w p n H F i h hi
    have h0 := h
    obtain ⟨B, mp, gw, tb, mt, X, rfl, h⟩ := h
    refine (vcolor_c h i hi.1 hi.2).mono ?_
    rintro e w' ⟨rfl, hb⟩
    exact ⟨_, rfl, below_left h0 hb⟩
  case new =>
    rintro w n p few sum1 sum p1 p2
    exact vnew_c n p few sum1 sum p1 p2
  case none' =>
    rintro w p hp
    exact vnew_none p hp
end Wd
end Go.Proofs.YteiejjmhmmkdhaaGreat

/- The landed memory beside what Load asks. -/
namespace Go.Proofs.YteiejjmhmmkdhaaGreat
namespace Wd
end Wd
end Go.Proofs.YteiejjmhmmkdhaaGreat

/- Objects are filled, by whoever keeps them. -/
namespace Go.Proofs.YteiejjmhmmkdhaaGreat
open Go.RowKit
set_option linter.unusedVariables false
set_option maxRecDepth 20000
namespace Wd
structure StoH {σ:Type} (M:Sto σ) (P:World→σ→(Nat→Prop)→Prop) (p:Nat) (sz:σ→Nat):Prop where
 lt:∀ {w S F},P w S F→∀ k,F k→k < w.heap.size
 same:∀ {w w' S F},P w S F→w.heap.size≤w'.heap.size→(∀ k,F k→w'.heap[k]?=w.heap[k]?)→P w' S F
 szA:∀ S c n,sz (M.al S c n)≤sz S+1
 szP:∀ S id i x,sz (M.pu S id i x)≤sz S
 ids:∀ S c n,sz S≤2000→b64 (M.ai S c n)
 alloc:∀ {w S F} (c n:Int),P w S F→sz S≤2000→b64 c→b64 n→Calls Tryz.prog 147 #[pV p,.int .i64 c,.int .i64 n] w fun e w'=>e=.returned (.int .i64 (M.ai S c n))∧∃ F',P w' (M.al S c n) F'∧Cg F w w'∧∀ k,F' k→F k∨w.heap.size≤k
 put:∀ {w S F} (id i x:Int),P w S F→sz S≤2000→b64 id→b64 i→b32 x→Calls Tryz.prog 149 #[pV p,.int .i64 id,.int .i64 i,.int .u32 x] w fun e w'=>∃ b F',e=.returned (.bool b)∧P w' (M.pu S id i x) F'∧Cg F w w'∧∀ k,F' k→F k∨w.heap.size≤k
section
variable {σ:Type} {M:Sto σ} {P:World→σ→(Nat→Prop)→Prop} {p:Nat} {sz:σ→Nat}
theorem StoH.szF (K:StoH M P p sz) (S:σ) (ids:List Int) (id:Int) (V:List (Int × Int)):∀ j,sz (stF M S ids id V j)≤sz S
 | 0=>Nat.le_refl _
 | j+1=>Nat.le_trans (K.szP _ _ _ _) (StoH.szF K S ids id V j)
theorem StoH.nxt (K:StoH M P p sz) {w wr w4:World} {S:σ} {F F1:Nat→Prop} (hs:sz S≤2000) {id:Int} (hid:b64 id) {V:List (Int × Int)} {ids:List Int} {j:Nat} {x:Int × Int} (hl:V.length≤1000)
  (hP1:P wr (stF M S ids id V j) F1) (hc1:Cg F w wr) (hn1:∀ k,F1 k→F k∨w.heap.size≤k) (hx:V[j]?=some x) (b4:Below wr.heap.size wr w4) :
  Calls Tryz.prog 149 #[pV p,.int .i64 id,.int .i64 (j:Int),.int .u32 (valW x ids)] w4 fun e w5=>∃ b F2,e=.returned (.bool b)∧(∀ k,k < wr.heap.size→¬ F1 k→w5.heap[k]?=w4.heap[k]?)∧P w5 (stF M S ids id V (j+1)) F2∧Cg F w w5∧(∀ k,F2 k→F k∨w.heap.size≤k)∧∀ k,wr.heap.size≤k→k < w4.heap.size→w5.heap[k]?=w4.heap[k]?:=by
 have hF1:=K.lt hP1
 have e1:=K.same hP1 b4.size (fun k hk=>b4.block k (hF1 k hk))
 have hj:=(List.getElem?_eq_some_iff.1 hx).1
 refine (K.put id (j:Int) (valW x ids) e1 (Nat.le_trans (K.szF S ids id V j) hs) hid ⟨by omega,by omega⟩ (valW_bd _ _)).mono ?_
 rintro e w5 ⟨b,F2,rfl,hP2,hc2,hn2⟩
 have e2:=stF_succ M (S:=S) (ids:=ids) (id:=id) hx
 exact⟨b,F2,rfl,fun k hk h1=>hc2.block k (Nat.lt_of_lt_of_le hk b4.size) h1,by rw [e2];exact hP2,((hc1.trans (Cg.below' F hc1 b4)).trans' hc2 (fun k hk=>hn1 k hk)),fun k hk=>(hn2 k hk).elim (hn1 k) (fun e=>Or.inr (by have:=hc1.size;have:=b4.size;omega)),fun k h1 h2=>hc2.block k h2 (fun e=>by have:=hF1 k e;omega)⟩
set_option maxHeartbeats 16000000 in
theorem fillH_c (K:StoH M P p sz) {w:World} {S:σ} {F:Nat→Prop} (hP:P w S F) (hs:sz S≤2000) {id:Int} (hid:b64 id) {fa ia:Option Addr} {fc n c:Nat} {V:List (Int × Int)} {ids:List Int} (h4:∀ f∈V,f.1=4→0≤f.2∧f.2 < (ids.length:Int)) (hl:V.length≤1000)
  (hV:∀ w',Cg F w w'→PrV w' (.slice fa V.length fc) V∧w'.ownsRow 0 3 1 (.slice ia n c) n (ints ids)) :
  Calls Tryz.prog 46 #[.iface 57 (pV p),.int .i64 id,.slice fa V.length fc,.slice ia n c] w fun e w'=>e=.returned (.tuple #[])∧∃ F',P w' (stF M S ids id V V.length) F'∧Cg F w w'∧∀ k,F' k→F k∨w.heap.size≤k:=by
 have hm:∀ w:World,(method 95 57 (pV p) "Put").run Tryz.prog w=.ok (149,pV p) w:=fun _=>by kernel_rfl
 have hna:∀ w:World,(nilAhead 309 57 (pV p) "Put").run Tryz.prog w=.ok (some false) w:=fun _=>by kernel_rfl
 have hmf:∀ (fn:Fn) (first cap:Array Value) (w:World),(Instr.makeFunc fn first cap).run Tryz.prog w=.ok (.func fn first cap) w:=fun _ _ _ _=>rfl
 have hnx:=Lib.hid (fun (wr:World) (F1:Nat→Prop) (j:Nat) (x:Int × Int) (hP1:P wr (stF M S ids id V j) F1) (hc1:Cg F w wr) (hn1:∀ k,F1 k→F k∨w.heap.size≤k) (hx:V[j]?=some x) (w4:World) (b4:Below wr.heap.size wr w4)=>K.nxt hs hid hl hP1 hc1 hn1 hx b4)
 have hlt:=Lib.hid (fun (wr:World) (T:σ) (F1:Nat→Prop) (hP1:P wr T F1)=>K.lt hP1)
 replace hV:=Lib.hid hV
 have hP0:=Lib.hid (show P w (stF M S ids id V 0) F from hP)
 have hx4:=Lib.hid h4
 generalize hVl:V.length=vl at *
 clear h4 hP
 go_enter Tryz.func46,Tryz.ntmps46
 go_wp2
 go_loopw [12] (fun i wr=>∃ (j:Nat) (F1:Nat→Prop),j≤vl∧i=.int .i64 j∧Hid (P wr (stF M S ids id V j) F1∧Cg F w wr∧∀ k,F1 k→F k∨w.heap.size≤k)) (fun i _=>vl - (intOf i).toNat)
 case atStart=>exact⟨0,F,by omega,rfl,Lib.hid ⟨hP0.out,Cg.refl _ _,fun k hk=>Or.inl hk⟩⟩
 case round =>
  clear hP0
  obtain⟨j,F1,hj,rfl,hS⟩:=hrel
  by_cases hlt2:j < vl
  ·have hd:decide ((j:Int) < (vl:Int))=true:=by simp;omega
   have p1:(j:Int) < (vl:Int):=by omega
   obtain⟨x,hx⟩:∃ x,V[j]?=some x:=⟨V[j]'(by omega),by simp⟩
   obtain⟨x1,x2⟩:=x
   obtain⟨pv,_⟩:=hV.out wr hS.out.2.1
   obtain⟨i1,i2,g,off,rfl,d0,d1⟩:=pv.at hx
   have hB:=Lib.hid ((Below.refl wr.heap.size wr).alloc (Nat.le_refl _) (.cells #[.int .i64 x1,.int .i64 x2] 80))
   have hcW:=Lib.hid (Cg.below' F hS.out.2.1 hB.out)
   obtain⟨_,ow⟩:=hV.out _ (hS.out.2.1.trans hcW.out)
   have PW:=Lib.hid (fun (W:World) (b:Below (wr.alloc (.cells #[.int .i64 x1,.int .i64 x2] 80)).heap.size (wr.alloc (.cells #[.int .i64 x1,.int .i64 x2] 80)) W)=>wordOf_c (k:=x1) (x:=x2) (own_same ow (fun k hk=>b.block k (own_lt ow k hk)) b.size) (fun e=>hx4.out (x1,x2) (List.mem_of_getElem? hx) e))
   have hN:=Lib.hid (fun (w4:World) (b4:Below wr.heap.size wr w4)=>hnx.out wr F1 j (x1,x2) hS.out.1 hS.out.2.1 hS.out.2.2 hx w4 b4)
   have z0:(wr.alloc (.cells #[.int .i64 x1,.int .i64 x2] 80)).cell? ⟨wr.heap.size,0,none⟩=some (.int .i64 x1):=World.cell?_alloc_new _ _ _ 0
   have z1:(wr.alloc (.cells #[.int .i64 x1,.int .i64 x2] 80)).cell? ⟨wr.heap.size,1,none⟩=some (.int .i64 x2):=World.cell?_alloc_new _ _ _ 1
   have hq:=Lib.hid (show wr.heap.size < (wr.alloc (.cells #[.int .i64 x1,.int .i64 x2] 80)).heap.size by simp)
   clear hx pv ow hcW
   go_upto_region 3 with fail
   generalize wr.alloc (.cells #[.int .i64 x1,.int .i64 x2] 80)=W3 at *
   generalize hqq:wr.heap.size=q at *
   clear d0 d1
   refine wp_region_held_drew (S:=(fun wr'=>wr'.cell? ⟨q,0,none⟩=some (.int .i64 x1)∧wr'.cell? ⟨q,1,none⟩=some (.int .i64 x2))) (by kernel_rfl) ?_ (fun hHeld=>?_)
   ·(try dsimp only);exact⟨z0,z1⟩
   try simp only [Act.put,nA]
   refine tk (i:=0) (oi:=⟨some 17,.move (.tmp 0),95,"load.go:37",#[],none⟩) (hy:=by intro w hSw;(try dsimp only at hSw);obtain⟨q0,q1⟩:=hSw;go_simp <;> with_reducible rfl) ?_
   try simp only [Act.put,nA]
   refine tk (i:=1) (oi:=⟨some 18,.move (.tmp 1),3,"load.go:37",#[],none⟩) (hy:=by intro w hSw;(try dsimp only at hSw);obtain⟨q0,q1⟩:=hSw;go_simp <;> with_reducible rfl) ?_
   try simp only [Act.put,nA]
   refine tk (i:=2) (oi:=⟨some 19,.move (.tmp 8),3,"load.go:37",#[],none⟩) (hy:=by intro w hSw;(try dsimp only at hSw);obtain⟨q0,q1⟩:=hSw;go_simp <;> with_reducible rfl) ?_
   try simp only [Act.put,nA]
   refine tk (i:=3) (oi:=⟨some 20,.load 80 (.tmp 9),80,"load.go:37",#[],none⟩) (hy:=by intro w hSw;(try dsimp only at hSw);obtain⟨q0,q1⟩:=hSw;go_simp <;> with_reducible rfl) ?_
   try simp only [Act.put,nA]
   refine tk (i:=4) (oi:=⟨some 21,.move (.tmp 3),34,"load.go:37",#[],none⟩) (hy:=by intro w hSw;(try dsimp only at hSw);obtain⟨q0,q1⟩:=hSw;go_simp <;> with_reducible rfl) ?_
   try simp only [Act.put,nA]
   refine tk (i:=6) (oi:=⟨some 23,.makeFunc (Fn.method "Put") #[.tmp 17] #[],48,"load.go:37",#[⟨0,.data⟩],none⟩) (hy:=by intro w hSw;(try dsimp only at hSw);obtain⟨q0,q1⟩:=hSw;go_simp <;> with_reducible rfl) ?_
   try simp only [Act.put,nA]
   refine tk (i:=7) (oi:=⟨some 24,.nilCheck (.tmp 23),48,"load.go:37",#[⟨6,.data⟩],none⟩) (hy:=by intro w hSw;(try dsimp only at hSw);obtain⟨q0,q1⟩:=hSw;go_simp <;> with_reducible rfl) ?_
   try simp only [Act.put,nA]
   refine tk (i:=8) (oi:=⟨some 25,.move (.tmp 17),95,"load.go:37",#[⟨0,.data⟩,⟨6,.data⟩,⟨7,.data⟩],none⟩) (hy:=by intro w hSw;(try dsimp only at hSw);obtain⟨q0,q1⟩:=hSw;go_simp <;> with_reducible rfl) ?_
   try simp only [Act.put,nA]
   refine wpAnyH_ready (rs:=[5]) (by kernel_rfl) (by simp) ?_
   refine AllReadyH.cons (o:=⟨some 22,.call { callee:=.value (.func 69),args:=#[.tmp 20,.tmp 21],argTypes:=#[80,34] },49,"load.go:37",#[⟨3,.data⟩,⟨4,.data⟩],none⟩) rfl (fun K9 hK=>?_) AllReadyH.nil
   go_simp
   refine (PW.out _ (Below.refl _ _).drew).mono ?_
   rintro e w4 ⟨rfl,hw4⟩
   have hw4b:=Lib.hid hw4
   clear hw4
   have hb4:=Lib.hid (hB.out.trans ((((Below.refl _ _).drew).trans hw4b.out).mono (Nat.le_of_lt hq.out)))
   have zz0:=cell_up (((Below.refl _ _).drew).trans hw4b.out) z0
   have zz1:=cell_up (((Below.refl _ _).drew).trans hw4b.out) z1
   go_wp2_with fail
   refine hK.out _ _ ?_ ?_
   ·(try dsimp only);exact⟨zz0,zz1⟩
   clear hK K9 hHeld;intro hHeld
   try simp only [Act.put,nA]
   refine wpAnyH_ready (rs:=[9]) (by kernel_rfl) (by simp) ?_
   refine AllReadyH.cons (o:=⟨some 26,.call { callee:=.invoke (.tmp 25) "Put",args:=#[.tmp 18,.tmp 19,.tmp 22],argTypes:=#[3,3,49] },4,"load.go:37",#[⟨8,.data⟩,⟨1,.data⟩,⟨2,.data⟩,⟨5,.data⟩,⟨5,.chain⟩],none⟩) rfl (fun K9 hK=>?_) AllReadyH.nil
   go_simp
   refine ((hN.out _ hb4.out)).mono ?_
   rintro e w5 ⟨b5,F2,rfl,hk5,hP5,hc5,hn5,hj5⟩
   have q0:=(World.cell?_of_block (a:=⟨q,0,none⟩) (hj5 q (Nat.le_refl _) (World.block_lt_of_cell? _ _ zz0))).trans zz0
   have q1:=(World.cell?_of_block (a:=⟨q,1,none⟩) (hj5 q (Nat.le_refl _) (World.block_lt_of_cell? _ _ zz0))).trans zz1
   replace hP5:=Lib.hid hP5
   replace hc5:=Lib.hid hc5
   go_wp2_with fail
   refine hK.out _ _ ?_ ?_
   ·(try dsimp only);exact⟨q0,q1⟩
   clear hK K9 hHeld;intro hHeld
   try simp only [Act.put,nA]
   refine wpAnyH_done (by kernel_rfl) ?_ _
   go_wp2
   go_roundw
   case rel=>exact⟨j+1,F2,by omega,by go_num,Lib.hid ⟨hP5.out,hc5.out,hn5⟩⟩
   case measure=>simp [intOf];omega
  ·have e:j=vl:=by omega
   subst e
   have hd:decide ((j:Int) < (j:Int))=false:=by simp
   go_wp2
   go_end0
   exact⟨rfl,F1,hS.out.1,hS.out.2⟩
end
end Wd
end Go.Proofs.YteiejjmhmmkdhaaGreat
