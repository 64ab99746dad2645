/- Texts joined: VScan, VFlip, VPut, VWrite, VAlloc, VAllocY. -/
import Derived.Test.YtdaojohdmidemaaGreatJ12
/- The landed memory: look, Scan. -/
namespace Go.Proofs.YtdaojohdmidemaaGreat
open Go.RowKit Go.Maps
set_option linter.unusedVariables false
set_option maxRecDepth 20000
namespace Wd
section
variable {w w' w1 w2 : World} {p : Nat} {n : Nat → Nat} {B B1 : Nat → Nat → Prop} {mp gw : Nat → Nat} {tb mt : Nat} {T T' : Tst} {M : Nat → Mst} {X : Nat → Nat → Int} {H H1 H2 : Hst} {i : Int} {s c : Nat} {cl : Int} {L : List Int}
theorem HQ.obT (h : HQ w p n H B mp gw tb mt X) {k s c : Nat} (hT : H.T k = some ((s : Int), (c : Int))) : ∃ cl L, Ob n H X k s c cl L := by
  have hk := (h.inv.inv.bd k _ hT).2.1
  obtain ⟨e1, e2⟩ := atP_at hT hk
  obtain ⟨s', c', cl, L, o⟩ := h.ob e2
  have e := o.ha
  rw [e1] at e
  simp only [Prod.mk.injEq] at e
  obtain rfl : s = s' := by omega
  obtain rfl : c = c' := by omega
  exact ⟨cl, L, o⟩
set_option maxHeartbeats 8000000 in
theorem vlook_c (h : HQ w p n H B mp gw tb mt X) {k s c : Nat} (hT : H.T k = some ((s : Int), (c : Int))) :
    Calls Tryz.prog 63 #[.pointer (some ⟨p, 0, none⟩), plV ((s : Int), (c : Int))] w fun e w' => e = .returned (.tuple #[]) ∧ Tn w w' p n (holdH H (H.C ((s : Int), (c : Int))).2) B mp gw tb mt X := by
  obtain ⟨cl, L, o⟩ := h.obT hT
  have eC : (H.C ((s : Int), (c : Int))).2 = L := by rw [o.hC]
  rw [eC]
  obtain ⟨l1, l2⟩ := cell_in o.s5 o.cn o.few
  have hx := h.hp.xb s (c * wN s)
  have PS := Lib.hid (Size_c (X s (c * wN s)) hx.1 hx.2)
  rw [o.e2] at PS
  have fit := o.fit
  have l62 := o.l62
  have hW4 := (wN_bd o.s5).1
  have hlb := Lib.hid o.lb
  have hB : Below w.heap.size w (w.alloc (.cells #[.int .i64 s, .int .i64 c] 83)) := (Below.refl _ _).alloc (Nat.le_refl _) _
  have PC := Lib.hid (fun (w1 : World) (hb : Below w.heap.size w w1) => cell_c (h.hp.keep hb) o.s5 o.cn (h.inv.few s o.s5))
  have PA := Lib.hid (fun (w1 : World) (hb : Below w.heap.size w w1) => add_c (h.keep hb).hp.met (2 + (L.length : Int)) (by omega) (by omega))
  have hcc := Lib.hid (fun (w1 : World) (hb : Below w.heap.size w w1) => (h.keep hb).hp.cc)
  have hw0 := Lib.hid (fun (w2 : World) (hb : Below w.heap.size w w2) => (h.keep hb).hp.word o.s5 o.cn o.few (k := 0) (by omega))
  simp only [Nat.add_zero] at hw0
  have hfin := Lib.hid (fun (w1 w2 : World) (hb : Below w.heap.size w w1) (d1 : Mt w2 mt) (d2 : Ch (fun k => k = mt) w1 w2) => Tn.pre hb ⟨B, ((h.keep hb).count d1 d2).1, ((h.keep hb).count d1 d2).2, newer_refl9 _ _⟩)
  have hfs : Hid (∀ (wX : World) (l : List Int) (q : Nat) (y : Int), Tn w wX p n (holdH H l) B mp gw tb mt X → L[q]? = some y → wX.cell? ⟨gw s, c * wN s + 2 + q, none⟩ = some (.int .u32 y)) := Lib.hid (fun wX l q y t hy => by
    have hq := (List.getElem?_eq_some_iff.1 hy).1
    obtain ⟨B', h1, _, _⟩ := t
    have := h1.hp.word o.s5 o.cn o.few (k := 2 + q) (by omega)
    rw [← Nat.add_assoc, o.fs q y hy] at this
    exact this)
  unfold cellV plV at *
  simp only at PC ⊢
  clear h o eC hT
  generalize X s (c * wN s) = x at *
  generalize n s * wN s = N at *
  generalize c * wN s = a at *
  generalize wN s = W at *
  generalize gw s = g at *
  have hwl : IntKind.i64.wrap (2 + (L.length : Int)) = 2 + (L.length : Int) := by rw [IntKind.wrap_i64]; omega
  have hsl : (2 : Int) + (L.length : Int) = ((2 + L.length : Nat) : Int) := by omega
  obtain ⟨lh, hlh⟩ : ∃ lh, lh = 2 + L.length := ⟨_, rfl⟩
  have e1 : (2 : Int) ≤ (lh : Int) := by omega
  have e2 : (lh : Int) ≤ ((N - a : Nat) : Int) := by omega
  have e3 : lh ≤ N - a := by omega
  have e4 : 2 ≤ lh := by omega
  have e6 : ¬ (N - a = 2) := by omega
  have hW0 : 0 < W := by omega
  rw [hsl, ← hlh] at hwl PA
  have hwl' : IntKind.i64.wrap (2 + (L.length : Int)) = (lh : Int) := by rw [hsl, ← hlh]; exact hwl
  replace hlh := Lib.hid hlh
  clear hwl hsl hx
  generalize hw2 : w.alloc (.cells #[.int .i64 s, .int .i64 c] 83) = w2 at *
  have q0 : w2.cell? ⟨w.heap.size, 0, none⟩ = some (.int .i64 s) := by rw [← hw2]; simp
  have q1 : w2.cell? ⟨w.heap.size, 1, none⟩ = some (.int .i64 c) := by rw [← hw2]; simp
  replace hB := Lib.hid hB
  go_enter Tryz.func63, Tryz.ntmps63
  go_wp2_with fail
  clear hw2
  go_wp2_with (first | (go_at_call 88; ((with_reducible refine (PC.out _ hB.out).mono ?_); rintro e w1 ⟨rfl, hb1⟩; have hb2 := Lib.hid (hB.out.trans (hb1.mono hB.out.size)); have c0 := hw0.out _ hb2.out; have hb3 := Lib.hid hb2.out.drew; have cc := hcc.out _ hb3.out; have PA2 := Lib.hid (PA.out _ hb3.out); clear hb1)) | (go_at_call 81; ((with_reducible refine (PS.out _).mono ?_); rintro e w3 ⟨rfl, hw3⟩; subst w3)) | (go_at_call 52; ((with_reducible refine (PA2.out).mono ?_); rintro e w4 ⟨rfl, d1, d2⟩; have hT := Lib.hid (hfin.out _ _ hb3.out d1 d2); clear d1 d2)))
  have hc2 : Hid (∀ (wX : World) (q : Nat) (y : Int), Tn w wX p n (holdH H (L.take q)) B mp gw tb mt X → L[q]? = some y → wX.cell? ⟨g, a + 2 + q, none⟩ = some (.int .u32 y)) := Lib.hid (fun wX q y t hy => hfs.out wX _ q y t hy)
  have eL : lh - 2 = L.length := by have := hlh.out; omega
  rw [eL]
  replace eL := Lib.hid eL
  clear PA2 cc c0 hb3 hb2 hfs hfin hw0 hcc PA PC PS
  have S0 : Tn w w4 p n (holdH H (L.take 0)) B mp gw tb mt X := hT.out
  replace S0 := Lib.hid S0
  go_loopw [27] (fun i' wr => ∃ q : Nat, q ≤ L.length ∧ i' = .int .i64 q ∧ Tn w wr p n (holdH H (L.take q)) B mp gw tb mt X) (fun i' _ => L.length - (intOf i').toNat)
  case atStart => exact ⟨0, by omega, rfl, S0.out⟩
  case round =>
    obtain ⟨q, hq, rfl, hR⟩ := hrel
    by_cases hlt : q < L.length
    · have hd : decide ((q : Int) < (L.length : Int)) = true := by simp; omega
      have hw1 : IntKind.i64.wrap ((q : Int) + 1) = (q : Int) + 1 := by rw [IntKind.wrap_i64]; omega
      have hxq : L[q]? = some L[q] := by simp [hlt]
      have hc := hc2.out wr q _ hR hxq
      have hxb := hlb.out L[q] (List.getElem_mem hlt)
      have eN := hold_succ (H := H) hxq
      have P := Lib.hid (hR.shw L[q] (by omega) (by omega))
      rw [← eN] at P
      replace hR := Lib.hid hR
      clear eN hxq
      generalize L[q] = y at *
      go_wp2_with (first | (go_at_call 53; ((with_reducible refine (P.out).mono ?_); rintro e w5 ⟨rfl, hd1⟩; replace hd1 := Lib.hid hd1)))
      clear hR P hc
      go_roundw
      case rel => exact ⟨q + 1, by omega, by go_num, hd1.out⟩
      case measure => simp [intOf]; omega
    · have e : q = L.length := by omega
      subst e
      have hd : decide ((L.length : Int) < (L.length : Int)) = false := by simp
      rw [List.take_length] at hR
      replace hR := Lib.hid hR
      go_wp2
      go_end0
      exact ⟨rfl, hR.out⟩
theorem Tn.look (t : Tn w w1 p n H1 B mp gw tb mt X) {k s c : Nat} (hT : H1.T k = some ((s : Int), (c : Int))) :
    Calls Tryz.prog 63 #[.pointer (some ⟨p, 0, none⟩), plV ((s : Int), (c : Int))] w1 fun e w' => e = .returned (.tuple #[]) ∧ Tn w w' p n (holdH H1 (H1.C ((s : Int), (c : Int))).2) B mp gw tb mt X := by
  obtain ⟨B', h1, h2, h3⟩ := t
  refine (vlook_c h1 hT).mono ?_
  rintro e w' ⟨rfl, t2⟩
  exact ⟨rfl, tn_then h2 h3 t2⟩
theorem first_row {A : Mst} {x : Nat} (h : A x ≠ []) : firstR A x ∈ A x := by
  unfold firstR
  cases hA : A x with
  | nil => exact absurd hA h
  | cons y t => simp
theorem Tn.pos (t : Tn w w1 p n H1 B mp gw tb mt X) {s : Nat} (s5 : s < 5) {x : Nat} (hx : x < 4) (hne : H1.M s x ≠ []) : 1 ≤ n s := by
  obtain ⟨B', h1, h2, h3⟩ := t
  rcases Nat.eq_zero_or_pos (n s) with h0 | h0
  · exfalso
    have hg := h1.inv.good s s5
    rw [h0] at hg
    obtain ⟨e0, e1, e2, e3⟩ := good_nil hg
    rcases (show x = 0 ∨ x = 1 ∨ x = 2 ∨ x = 3 by omega) with rfl | rfl | rfl | rfl
    · exact hne e0
    · exact hne e1
    · exact hne e2
    · exact hne e3
  · exact h0
theorem Tn.mscan (t : Tn w w1 p n H1 B mp gw tb mt X) {s : Nat} (s5 : s < 5) (hne : H1.M s 2 ≠ []) :
    Calls Tryz.prog 64 #[.pointer (some ⟨mp s, 0, none⟩)] w1 fun e w' => e = .returned (.int .i64 (firstR (H1.M s) 2)) ∧ Tn w w' p n (scA H1 s) B mp gw tb mt X := by
  have hn := t.pos s5 (by omega) hne
  obtain ⟨B', h1, h2, h3⟩ := t
  refine (KM.scan (h1.hp.mill s s5 hn)).mono ?_
  rintro e w' ⟨F', rfl, d1, d2, d3⟩
  exact ⟨rfl, tn_then h2 h3 (h1.mstep s5 hn d1 d2 d3 (h1.inv.scA s))⟩
/-- whose cell the first Grey one is -/
theorem Tn.whose (t : Tn w w1 p n H1 B mp gw tb mt X) {s : Nat} (s5 : s < 5) (hne : H1.M s 2 ≠ []) : ∃ k c : Nat, firstR (H1.M s) 2 = (c : Int) ∧ H1.T k = some ((s : Int), (c : Int)) := by
  obtain ⟨B', h1, h2, h3⟩ := t
  have hm := first_row hne
  have hib := (good_mem (h1.inv.good s s5)).1 (show firstR (H1.M s) 2 ∈ LL (H1.M s) by unfold LL; simp [hm])
  obtain ⟨k, hk⟩ := h1.inv.full s _ s5 hib.1 hib.2 (fun h0 => by have := good_apart (h1.inv.good s s5) (x := 0) (y := 2) (by omega) (by omega) h0 hm; omega)
  refine ⟨k, (firstR (H1.M s) 2).toNat, by omega, ?_⟩
  rw [show (((firstR (H1.M s) 2).toNat : Nat) : Int) = firstR (H1.M s) 2 by omega]
  exact hk
theorem Tn.grey (t : Tn w w1 p n H1 B mp gw tb mt X) : Calls Tryz.prog 62 #[.pointer (some ⟨p, 0, none⟩)] w1 fun e w' => e = .returned (.int .i64 (gryI H1)) ∧ Tn w w' p n H1 B mp gw tb mt X := by
  have t0 := t
  obtain ⟨B', h1, h2, h3⟩ := t
  refine (vgrey_c h1).mono ?_
  rintro e w' ⟨rfl, hb⟩
  exact ⟨rfl, t0.keep hb⟩
/-- so far: j steps, d words -/
structure VS (w : World) (p : Nat) (n : Nat → Nat) (H : Hst) (B : Nat → Nat → Prop) (mp gw : Nat → Nat) (tb mt : Nat) (X : Nat → Nat → Int) (W : Int) (j : Nat) (d : Int) (wr : World) (H' : Hst) : Prop where
  t : Tn w wr p n H' B mp gw tb mt X
  d0 : 4 * (j : Int) ≤ d
  d1 : d ≤ W + 64
  e : scanN (262145 - j) W d H' = scanN 262145 W 0 H
theorem clamp_bd (x : Int) : 0 ≤ clampW x ∧ clampW x ≤ 1048576 := by unfold clampW; omega
set_option maxHeartbeats 8000000 in
theorem vscan_c (h : HQ w p n H B mp gw tb mt X) (x : Int) :
    Calls Tryz.prog 21 #[.pointer (some ⟨p, 0, none⟩), .int .i64 x] w fun e w' => e = .returned (.int .i64 (scanR H x).1) ∧ Tn w w' p n (scanR H x).2 B mp gw tb mt X := by
  unfold scanR
  have hcl := clamp_bd x
  obtain ⟨W, hW⟩ : ∃ W, W = clampW x := ⟨_, rfl⟩
  rw [← hW] at hcl ⊢
  have S0 : VS w p n H B mp gw tb mt X W 0 0 w H := ⟨Tn.refl h, by simp, by omega, rfl⟩
  replace S0 := Lib.hid S0
  have hcut : Hid (∀ d : Int, 0 ≤ d → (d < W ↔ (d < x ∧ d < 1048576))) := Lib.hid (fun d d0 => by rw [hW]; unfold clampW; omega)
  clear h hW
  go_enter Tryz.func21, Tryz.ntmps21
  go_wp2
  go_loopw [5] (fun d' wr => ∃ (j : Nat) (d : Int) (H' : Hst), d' = .int .i64 d ∧ VS w p n H B mp gw tb mt X W j d wr H') (fun d' _ => (W + 64 - intOf d').toNat)
  case atStart => exact ⟨0, 0, H, rfl, S0.out⟩
  case round =>
    obtain ⟨j, d, H', rfl, hR⟩ := hrel
    have hd0 := hR.d0
    have hd1 := hR.d1
    have hct := hcut.out d (by omega)
    by_cases hlt : d < W
    · obtain ⟨u1, u2⟩ := hct.1 hlt
      have v1 : decide (d < x) = true := by simpa using u1
      have v2 : decide (d < 1048576) = true := by simpa using u2
      have PG := Lib.hid hR.t.grey
      cases hdn : doneB H' with
      | true =>
        rw [gryI_none (gry_none hdn)] at PG
        have eS := hR.e
        rw [scanN_stop (Or.inr hdn)] at eS
        replace eS := Lib.hid eS
        clear hR hdn hct u1 u2 hd0 hd1
        go_wp2_with (first | (go_at_call 62; ((with_reducible refine (PG.out).mono ?_); rintro e w1 ⟨rfl, ht⟩; replace ht := Lib.hid ht)))
        go_ret
        rw [← eS.out]
        exact ⟨rfl, ht.out⟩
      | false =>
        obtain ⟨s, hg, hs5, hne, hem⟩ := gry_some hdn
        rw [gryI_some hg] at PG
        obtain ⟨m, hm⟩ : ∃ m, 262145 - j = m + 1 := ⟨262145 - j - 1, by omega⟩
        have eS := hR.e
        rw [hm, scanN_go hlt hg] at eS
        have hm' : m = 262145 - (j + 1) := by omega
        rw [hm'] at eS
        have hn1 := hR.t.pos hs5 (by omega) hne
        have hcm : Hid (∀ wX, Tn w wX p n H' B mp gw tb mt X → wX.cell? ⟨p, s, none⟩ = some (.pointer (some ⟨mp s, 0, none⟩))) := Lib.hid (fun wX t => by
          obtain ⟨B', h1, _, _⟩ := t
          have := h1.hp.cm s hs5
          rw [if_neg (by omega)] at this
          exact this)
        have PM := Lib.hid (fun (wX : World) (t : Tn w wX p n H' B mp gw tb mt X) => t.mscan hs5 hne)
        obtain ⟨k, c, hc, hT⟩ := hR.t.whose hs5 hne
        rw [hc] at PM
        have PL := Lib.hid (fun (wX : World) (t : Tn w wX p n (scA H' s) B mp gw tb mt X) => t.look (k := k) (s := s) (c := c) hT)
        have e1 : holdH (scA H' s) ((scA H' s).C ((s : Int), (c : Int))).2 = scan1 H' s := by unfold scan1; rw [hc]; rfl
        rw [e1] at PL
        have w4 := wd_four hs5
        have PW := Lib.hid (words_c (s : Int) (by omega) (by omega))
        have hwd : IntKind.i64.wrap (d + wd s) = d + wd s := by rw [IntKind.wrap_i64]; omega
        have hs5' : (s : Int) < 5 := by omega
        unfold plV at PL
        simp only at PL
        have hsn : decide ((s : Int) < 0) = false := by simp
        replace eS := Lib.hid eS
        clear hR hdn hct u1 u2 hg hne hem hc hT e1 hm hm'
        generalize wd (s : Int) = ws at *
        generalize mp s = ms at *
        go_wp2_with (first | (go_at_call 62; ((with_reducible refine (PG.out).mono ?_); rintro e w1 ⟨rfl, ht⟩; have cm := hcm.out _ ht; have PM2 := Lib.hid (PM.out _ ht); replace ht := Lib.hid ht)) | (go_at_call 64; ((with_reducible refine (PM2.out).mono ?_); rintro e w2 ⟨rfl, ht2⟩; have PL2 := Lib.hid (PL.out _ ht2); replace ht2 := Lib.hid ht2)) | (go_at_call 63; ((with_reducible refine (PL2.out).mono ?_); rintro e w3 ⟨rfl, ht3⟩; replace ht3 := Lib.hid ht3)) | (go_at_call 41; ((with_reducible refine (PW.out _).mono ?_); rintro e w4 ⟨rfl, hw4⟩; subst w4)))
        have hN : VS w p n H B mp gw tb mt X W (j + 1) (d + ws) w3 (scan1 H' s) := ⟨ht3.out, by omega, by omega, eS.out⟩
        replace hN := Lib.hid hN
        clear ht ht2 ht3 PL PL2 PM PM2 hcm cm PG PW S0 eS
        go_roundw
        case rel => exact ⟨j + 1, d + ws, _, by go_num, hN.out⟩
        case measure => simp only [intOf]; omega
    · have eS := hR.e
      rw [scanN_stop (Or.inl (by omega))] at eS
      have ht := Lib.hid hR.t
      replace eS := Lib.hid eS
      clear hR
      by_cases u1 : d < x
      · have v1 : decide (d < x) = true := by simpa using u1
        have v2 : decide (d < 1048576) = false := by simp; omega
        clear hct
        go_wp2
        go_ret
        rw [← eS.out]
        exact ⟨rfl, ht.out⟩
      · have v1 : decide (d < x) = false := by simpa using u1
        clear hct
        go_wp2
        go_ret
        rw [← eS.out]
        exact ⟨rfl, ht.out⟩
end
end Wd
end Go.Proofs.YtdaojohdmidemaaGreat

/- The landed memory: Flip. -/
namespace Go.Proofs.YtdaojohdmidemaaGreat
open Go.RowKit Go.Maps
set_option linter.unusedVariables false
set_option maxRecDepth 20000
namespace Wd
theorem flipA_nil {A : Mst} (h0 : A 0 = []) (h1 : A 1 = []) (h2 : A 2 = []) (h3 : A 3 = []) : flipA A = A := by
  unfold flipA
  rw [if_pos h2]
  funext j
  unfold upA
  split
  · rename_i e; subst e; exact h1.symm
  · split
    · rename_i e; subst e; rw [h1, h3]
    · split
      · rename_i e; subst e; rw [h0, h3]; rfl
      · rfl
section
variable {w w' w1 w2 : World} {p : Nat} {n : Nat → Nat} {B B1 : Nat → Nat → Prop} {mp gw : Nat → Nat} {tb mt : Nat} {T T' : Tst} {M M' : Nat → Mst} {X : Nat → Nat → Int} {H H1 H2 : Hst} {i : Int} {s c : Nat} {cl : Int} {L : List Int}
/-- the place that is given back next is somebody's -/
theorem flip_here (h : HInv n H) (hd : doneB H = true) {k q : Nat} (hk : k < 5) {y : Int} (hq : (flipR (H.M k))[q]? = some y) :
    ∃ id : Nat, id < 1024 ∧ ofR (flQ H k q).1 ((k : Int), y) = some id ∧ (flQ H k q).1 id = some ((k : Int), y) := by
  have e3 : flipR (H.M k) = H.M k 3 := by unfold flipR; rw [if_pos (done_of hd k hk)]
  have hS : flipS H k = (H.M k 3).map (fun c => ((k : Int), c)) := by unfold flipS; rw [e3]
  rw [e3] at hq
  have hm : y ∈ H.M k 3 := List.mem_of_getElem? hq
  have hib := (good_mem (h.good k hk)).1 (show y ∈ LL (H.M k) by unfold LL; simp [hm])
  obtain ⟨id, hid⟩ := h.full k y hk hib.1 hib.2 (fun h0 => by have := good_apart (h.good k hk) (x := 0) (y := 3) (by omega) (by omega) h0 hm; omega)
  have hid4 := (h.inv.bd id _ hid)
  have hfold : flQ H k q = (flipL H k ++ (flipS H k).take q).foldl giveP (H.T, 0) := by unfold flQ flX; rw [List.foldl_append]
  obtain ⟨f1, f2⟩ := fold_give h.inv 0 (flipL H k ++ (flipS H k).take q)
  rw [← hfold] at f1 f2
  have hT : (flQ H k q).1 id = some ((k : Int), y) := by
    rw [f2 id, if_neg, hid]
    rintro ⟨r, hr, hre⟩
    rw [hid] at hre
    cases hre
    rcases List.mem_append.1 hr with hr | hr
    · unfold flipL at hr
      obtain ⟨s, hs, hr⟩ := List.mem_flatMap.1 hr
      unfold flipS at hr
      obtain ⟨c, _, hc⟩ := List.mem_map.1 hr
      have := List.mem_range.1 hs
      have e := congrArg Prod.fst hc
      simp only at e
      omega
    · rw [hS, ← List.map_take] at hr
      obtain ⟨c, hc, he⟩ := List.mem_map.1 hr
      have e := congrArg Prod.snd he
      simp only at e
      subst e
      obtain ⟨j, hj, hje⟩ := List.mem_take_iff_getElem.1 hc
      obtain ⟨hq1, hq2⟩ := List.getElem?_eq_some_iff.1 hq
      have hne : j ≠ q := by omega
      exact hne ((List.getElem_inj (nd3 (h.good k hk))).1 (hje.trans hq2.symm))
  exact ⟨id, hid4.2.1, ofR_at f1 hT, hT⟩
theorem HP.congrM (h : HP w p n B mp gw tb mt T M X) (hM : ∀ s, s < 5 → 1 ≤ n s → M s = M' s) : HP w p n B mp gw tb mt T M' X :=
  ⟨h.cm, h.cw, h.ct, h.cc, h.bp, h.bm, h.bg, fun s h1 h2 => by rw [← hM s h1 h2]; exact h.mill s h1 h2, h.tbl, h.met, h.row, h.zg, h.xb, h.ap, h.lt⟩
/-- the memory as it lies, in the midst of a call -/
def FV (w w' : World) (p : Nat) (n : Nat → Nat) (T : Tst) (M : Nat → Mst) (B : Nat → Nat → Prop) (mp gw : Nat → Nat) (tb mt : Nat) (X : Nat → Nat → Int) : Prop :=
  ∃ B', HP w' p n B' mp gw tb mt T M X ∧ Ch (un B) w w' ∧ Newer (un B) (un B') w.heap.size
theorem fv_then (c1 : Ch (un B) w w1) (n1 : Newer (un B) (un B1) w.heap.size) (h : FV w1 w2 p n T M B1 mp gw tb mt X) : FV w w2 p n T M B mp gw tb mt X := by
  obtain ⟨B', h1, h2, h3⟩ := h
  exact ⟨B', h1, c1.then_ h2 n1, Newer.trans n1 h3 c1.size⟩
theorem FV.keep (h : FV w w1 p n T M B mp gw tb mt X) (g : Below w1.heap.size w1 w2) : FV w w2 p n T M B mp gw tb mt X := by
  obtain ⟨B', h1, h2, h3⟩ := h
  exact ⟨B', h1.keep g, h2.trans (below_un g), h3⟩
theorem FV.of (h : FV w w1 p n T M B mp gw tb mt X) {pl : Pl} {id : Nat} (ho : ofR T pl = some id) (hp : plOk pl) :
    Calls Tryz.prog 69 #[.pointer (some ⟨tb, 0, none⟩), plV pl] w1 fun e w' => e = .returned (.tuple #[.int .i64 id, .bool true]) ∧ FV w w' p n T M B mp gw tb mt X := by
  have h0 := h
  obtain ⟨B', h1, h2, h3⟩ := h
  refine (KT.of pl h1.tbl hp).mono ?_
  rintro e w' ⟨rfl, hb⟩
  refine ⟨?_, h0.keep hb⟩
  have : ofI T pl = (id : Int) := by unfold ofI; rw [ho]; rfl
  rw [this, ho]; rfl
theorem FV.give (h : FV w w1 p n T M B mp gw tb mt X) {id : Nat} (hi : id < 1024) {pl : Pl} (hT : T id = some pl) :
    Calls Tryz.prog 70 #[.pointer (some ⟨tb, 0, none⟩), .int .i64 id] w1 fun e w' => e = .returned (.bool true) ∧ FV w w' p n (updT T id none) M B mp gw tb mt X := by
  have hh : hasT T (id : Int) = true := by rw [hasT_in hi]; unfold inR; rw [hT]; rfl
  have eG : giveT T (id : Int) = updT T id none := by unfold giveT; rw [if_pos hh]; simp
  obtain ⟨B', h1, h2, h3⟩ := h
  refine (KT.give (id : Int) h1.tbl (by omega) (by omega)).mono ?_
  rintro e w' ⟨F', rfl, d1, d2, d3⟩
  rw [eG] at d1
  obtain ⟨a1, a2, a3⟩ := h1.tstep d1 d2 d3
  exact ⟨by rw [hh], fv_then h2 h3 ⟨_, a1, a2, a3⟩⟩
theorem FV.ct (h : FV w w1 p n T M B mp gw tb mt X) : w1.cell? ⟨p, 10, none⟩ = some (.pointer (some ⟨tb, 0, none⟩)) := by
  obtain ⟨B', h1, h2, h3⟩ := h
  exact h1.ct
/-- behind the first k sizes -/
structure VF (w : World) (p : Nat) (n : Nat → Nat) (H : Hst) (B : Nat → Nat → Prop) (mp gw : Nat → Nat) (tb mt : Nat) (X : Nat → Nat → Int) (k : Nat) (m : Int) (wr : World) : Prop where
  v : FV w wr p n (flX H k).1 (flpM H k) B mp gw tb mt X
  e : m = (flX H k).2
  m0 : 0 ≤ m
  m1 : m ≤ 512 * (k : Int)
/-- behind the first q of size k -/
structure VG (w1 : World) (p : Nat) (n : Nat → Nat) (H : Hst) (B : Nat → Nat → Prop) (mp gw : Nat → Nat) (tb mt : Nat) (X : Nat → Nat → Int) (k q : Nat) (m : Int) (wr : World) : Prop where
  v : FV w1 wr p n (flQ H k q).1 (flpM H (k + 1)) B mp gw tb mt X
  e : m = (flQ H k q).2
  m0 : 0 ≤ m
  m1 : m ≤ 512 * (k : Int) + q
set_option maxHeartbeats 16000000 in
theorem vflip_c (h : HQ w p n H B mp gw tb mt X) :
    Calls Tryz.prog 23 #[.pointer (some ⟨p, 0, none⟩)] w fun e w' => e = .returned (.int .i64 (flpI H)) ∧ Tn w w' p n (flpH H) B mp gw tb mt X := by
  have PD := Lib.hid (vdone_c h)
  cases hd : doneB H with
  | false =>
    have e1 : flpI H = -1 := by unfold flpI; rw [hd]; rfl
    have e2 : flpH H = H := by unfold flpH; rw [hd]; rfl
    rw [e1, e2]
    rw [hd] at PD
    replace h := Lib.hid h
    clear e1 e2 hd
    go_enter Tryz.func23, Tryz.ntmps23
    go_wp2_with (first | (go_at_call 34; ((with_reducible refine (PD.out).mono ?_); rintro e w1 ⟨rfl, hb⟩; replace hb := Lib.hid hb)))
    go_ret
    exact ⟨rfl, (Tn.refl h.out).keep hb.out⟩
  | true =>
    have e1 : flpI H = (flX H 5).2 := by unfold flpI flX flpX; rw [if_pos hd]
    have e2 : flpH H = flH H 5 := by unfold flpH flH flX flpX; rw [if_pos hd]
    have hi9 := h.inv.flp
    rw [e2] at hi9
    rw [e1, e2]
    rw [hd] at PD
    have hhere : Hid (∀ (k q : Nat) (y : Int), k < 5 → (flipR (H.M k))[q]? = some y → ∃ id : Nat, id < 1024 ∧ ofR (flQ H k q).1 ((k : Int), y) = some id ∧ (flQ H k q).1 id = some ((k : Int), y)) := Lib.hid (fun k q y hk hq => flip_here h.inv hd hk hq)
    have hlen : Hid (∀ k, k < 5 → (flipS H k).length = (flipR (H.M k)).length ∧ (flipR (H.M k)).length ≤ 512) := Lib.hid (fun k hk => flipS_len h.inv hk)
    have hemp : Hid (∀ k, k < 5 → n k = 0 → flipA (H.M k) = H.M k ∧ flipS H k = []) := Lib.hid (fun k hk h0 => by
      have hg := h.inv.good k hk
      rw [h0] at hg
      obtain ⟨e0, e1, e2, e3⟩ := good_nil hg
      exact ⟨flipA_nil e0 e1 e2 e3, by unfold flipS flipR; rw [if_pos e2, e3]; rfl⟩)
    have hplk : Hid (∀ k q y, k < 5 → (flipR (H.M k))[q]? = some y → plOk ((k : Int), y)) := Lib.hid (fun k q y hk hq => by
      obtain ⟨id, i1, i2, i3⟩ := hhere.out k q y hk hq
      have hm : y ∈ H.M k 3 := by
        have := List.mem_of_getElem? hq
        unfold flipR at this
        rw [if_pos (done_of hd k hk)] at this
        exact this
      have hib := (good_mem (h.inv.good k hk)).1 (show y ∈ LL (H.M k) by unfold LL; simp [hm])
      have := h.inv.few k hk
      exact ⟨⟨by simp only; omega, by simp only; omega⟩, ⟨by simp only; omega, by simp only; omega⟩⟩)
    have hfin : Hid (∀ wX, FV w wX p n (flX H 5).1 (flpM H 5) B mp gw tb mt X → Tn w wX p n (flH H 5) B mp gw tb mt X) := Lib.hid (fun wX t => by
      obtain ⟨B', h1, h2, h3⟩ := t
      refine ⟨B', ⟨h1, h.wr.ids (fun k q hk => ⟨k, ?_⟩), hi9⟩, h2, h3⟩
      have hk' : (flX H 5).1 k = some q := hk
      unfold flX at hk'
      rw [(fold_give h.inv.inv 0 (flipL H 5)).2 k] at hk'
      split at hk'
      · cases hk'
      · exact hk')
    have m0 := Lib.hid (fun (wX : World) (hb : Below w.heap.size w wX) => (h.keep hb).hp.cm5 0 (by omega))
    have m1 := Lib.hid (fun (wX : World) (hb : Below w.heap.size w wX) => (h.keep hb).hp.cm5 1 (by omega))
    have m2 := Lib.hid (fun (wX : World) (hb : Below w.heap.size w wX) => (h.keep hb).hp.cm5 2 (by omega))
    have m3 := Lib.hid (fun (wX : World) (hb : Below w.heap.size w wX) => (h.keep hb).hp.cm5 3 (by omega))
    have m4 := Lib.hid (fun (wX : World) (hb : Below w.heap.size w wX) => (h.keep hb).hp.cm5 4 (by omega))
    have hmv : Hid (∀ s, n s = 0 → mv n mp s = none) := Lib.hid (fun s h0 => by unfold mv; rw [if_pos h0])
    have hmq : Hid (∀ s, n s ≠ 0 → mv n mp s = some ⟨mp s, 0, none⟩) := Lib.hid (fun s h0 => by unfold mv; rw [if_neg h0])
    have hix := Lib.hid (fun (s : Nat) (hs : s < 5) (w : World) => index_mv (mv n mp) hs w)
    have S0 : Hid (∀ wX, Below w.heap.size w wX → VF w p n H B mp gw tb mt X 0 0 wX) := Lib.hid (fun wX hb => ⟨by
      rw [flpM_zero]
      exact ⟨B, (h.keep hb).hp, below_un hb, newer_refl9 _ _⟩, rfl, by omega, by omega⟩)
    clear e1 e2 hd hi9 h
    generalize mv n mp = v at *
    unfold millsV at hix
    generalize v 0 = v0 at *
    generalize v 1 = v1 at *
    generalize v 2 = v2 at *
    generalize v 3 = v3 at *
    generalize v 4 = v4 at *
    go_enter Tryz.func23, Tryz.ntmps23
    go_wp2_with (first | (go_at_call 34; ((with_reducible refine (PD.out).mono ?_); rintro e w1 ⟨rfl, hb⟩; have c0 := m0.out _ hb; have c1 := m1.out _ hb; have c2 := m2.out _ hb; have c3 := m3.out _ hb; have c4 := m4.out _ hb; have S1 := Lib.hid (S0.out _ hb); clear hb)))
    clear c0 c1 c2 c3 c4 m0 m1 m2 m3 m4 PD S0
    go_loopw [3, 17] (fun m' i' wr => ∃ (k : Nat) (m : Int), k ≤ 5 ∧ m' = .int .i64 m ∧ i' = .int .i64 k ∧ VF w p n H B mp gw tb mt X k m wr) (fun _ i' _ => 5 - (intOf i').toNat)
    case atStart => exact ⟨0, 0, by omega, rfl, rfl, S1.out⟩
    case round =>
      clear S1
      obtain ⟨k, m, hk, rfl, rfl, hR⟩ := hrel
      by_cases hlt : k < 5
      · have hlt5 : decide ((k : Int) < 5) = true := by simp; omega
        have hw1 : IntKind.i64.wrap ((k : Int) + 1) = (k : Int) + 1 := by rw [IntKind.wrap_i64]; omega
        have hx := hix.out k hlt wr
        by_cases h0 : n k = 0
        · rw [hmv.out k h0] at hx
          obtain ⟨e1, e2⟩ := hemp.out k hlt h0
          have hN : VF w p n H B mp gw tb mt X (k + 1) m wr := by
            have eX : flX H (k + 1) = flX H k := by rw [flX_succ, e2, ← flQ_zero]; rfl
            have eM : flpM H (k + 1) = flpM H k := by rw [← upM_flip, e1, ← flpM_self H k, upM_self]
            exact ⟨by rw [eX, eM]; exact hR.v, by rw [eX]; exact hR.e, hR.m0, by have := hR.m1; omega⟩
          replace hN := Lib.hid hN
          clear hR e1 e2
          go_wp2
          go_roundw
          case rel => exact ⟨k + 1, m, by omega, by go_num, by go_num, hN.out⟩
          case measure => simp [intOf]; omega
        · rw [hmq.out k h0] at hx
          have em0 := hR.m0
          have em1 := hR.m1
          have hme := Lib.hid hR.e
          obtain ⟨B', h1, h2, h3⟩ := hR.v
          have hmil := h1.mill k hlt (by omega)
          rw [flpM_self] at hmil
          have Q := Lib.hid (KM.flip hmil)
          obtain ⟨hfs, hf5⟩ := hlen.out k hlt
          have hmst : Hid (∀ (w2 : World) (F' : Nat → Prop), MA w2 (mp k) (n k) (flipA (H.M k)) F' → Ch (B' (3 + k)) wr w2 → Newer (B' (3 + k)) F' wr.heap.size → HP w2 p n (upB B' (3 + k) F') mp gw tb mt (flX H k).1 (flpM H (k + 1)) X ∧ Ch (un B') wr w2 ∧ Newer (un B') (un (upB B' (3 + k) F')) wr.heap.size) := Lib.hid (fun w2 F' d1 d2 d3 => by
            have := h1.mstep hlt (by omega) d1 d2 d3
            rw [upM_flip] at this
            exact this)
          have hltB := Lib.hid (fun k hk => h1.ltu k hk)
          replace h2 := Lib.hid h2
          replace h3 := Lib.hid h3
          clear hR h1 hmil
          go_wp2_with (first | (go_at_call 68; ((with_reducible refine (Q.out).mono ?_); rintro e w2 ⟨u, F', he, d1, d2, d3, hsl, hfar⟩; obtain ⟨ua, uc, rfl⟩ := hsl.form; subst he)))
          obtain ⟨P1, C1, N1⟩ := hmst.out _ _ d1 d2 d3
          have hlt2 := P1.ltu
          have hfarB : ∀ g, (Value.slice ua (flipR (H.M k)).length uc).ownBlock = some g → ¬ un (upB B' (3 + k) F') g := fun g hg hun => by
            obtain ⟨f1, f2⟩ := hfar g hg
            obtain ⟨j, hj⟩ := hun
            unfold upB at hj
            split at hj
            · exact f2 hj
            · have := hltB.out g ⟨j, hj⟩; omega
          have G0 : VG w2 p n H (upB B' (3 + k) F') mp gw tb mt X k 0 m w2 := ⟨by rw [flQ_zero]; exact ⟨_, P1, Ch.refl _ _, newer_refl9 _ _⟩, by rw [flQ_zero]; exact hme.out, em0, by omega⟩
          replace G0 := Lib.hid G0
          have cA := Lib.hid (h2.out.then_ C1 h3.out)
          have nA := Lib.hid (Newer.trans h3.out N1 h2.out.size)
          have hend : Hid (∀ q m2 wX, q = (flipR (H.M k)).length → VG w2 p n H (upB B' (3 + k) F') mp gw tb mt X k q m2 wX → VF w p n H B mp gw tb mt X (k + 1) m2 wX) := Lib.hid (fun q m2 wX hq g => by
            have eX : flQ H k q = flX H (k + 1) := by rw [flX_succ, hfs, hq]
            exact ⟨by rw [← eX]; exact fv_then cA.out nA.out g.v, by rw [← eX]; exact g.e, g.m0, by have := g.m1; omega⟩)
          have hcur : Hid (∀ q y, (flipR (H.M k))[q]? = some y → ∃ id : Nat, id < 1024 ∧ ofR (flQ H k q).1 ((k : Int), y) = some id ∧ (flQ H k q).1 id = some ((k : Int), y) ∧ plOk ((k : Int), y) ∧ flQ H k (q + 1) = (updT (flQ H k q).1 id none, (flQ H k q).2 + 1)) := Lib.hid (fun q y hq => by
            obtain ⟨id, i1, i2, i3⟩ := hhere.out k q y hlt hq
            have hp : (flipS H k)[q]? = some ((k : Int), y) := by unfold flipS; rw [List.getElem?_map, hq]; rfl
            exact ⟨id, i1, i2, i3, hplk.out k q y hlt hq, by rw [flQ_succ hp]; exact giveP_some i2⟩)
          clear P1 C1 N1 d1 d2 d3 Q hmst hfar h2 h3 hltB hlen hhere hplk hx hfs hme em0 em1
          generalize upB B' (3 + k) F' = BB at *
          generalize flipR (H.M k) = R at *
          rcases hsl.cases with ⟨hnil, e0⟩ | ⟨g, cap, hgc, _, _, hgs, hrow⟩
          · subst e0
            cases hnil
            clear hsl hfarB hcur
            have hN := Lib.hid (hend.out 0 m w2 rfl G0.out)
            clear G0 hend
            go_wp2
            refine wp_loop_rounds 1 ?_
            rw [rounds_succ]
            go_wp2
            go_roundw
            case rel => exact ⟨k + 1, m, by omega, by go_num, by go_num, hN.out⟩
            case measure => simp [intOf]; omega
          · cases hgc
            have hgB := hfarB g rfl
            have hcell : Hid (∀ (wX : World) (q : Nat) (y : Int), Ch (un BB) w2 wX → R[q]? = some y → wX.cell? ⟨g, q, none⟩ = some (.int .i64 y)) := Lib.hid (fun wX q y hc hq => (World.cell?_of_block (a := ⟨g, q, none⟩) (hc.block g hgs hgB)).trans (row_cell hrow hq))
            clear hsl hrow hfarB hlt2
            go_wp2
            go_loopw [3, 26] (fun m' q' wq => ∃ (q : Nat) (m2 : Int), q ≤ R.length ∧ m' = .int .i64 m2 ∧ q' = .int .i64 q ∧ VG w2 p n H BB mp gw tb mt X k q m2 wq) (fun _ q' _ => R.length - (intOf q').toNat)
            case atStart => exact ⟨0, m, by omega, by go_num, rfl, G0.out⟩
            case round =>
              clear G0
              obtain ⟨q, m2, hq, rfl, rfl, hG⟩ := hrel
              by_cases hql : q < R.length
              · have hqd : decide ((q : Int) < (R.length : Int)) = true := by simp; omega
                have hwq : IntKind.i64.wrap ((q : Int) + 1) = (q : Int) + 1 := by rw [IntKind.wrap_i64]; omega
                have hy : R[q]? = some R[q] := by simp [hql]
                have hcy := hcell.out wr q _ hG.v.choose_spec.2.1 hy
                obtain ⟨id, i1, i2, i3, i4, i5⟩ := hcur.out q _ hy
                have em0 := hG.m0
                have em1 := hG.m1
                have hwm : IntKind.i64.wrap (m2 + 1) = m2 + 1 := by rw [IntKind.wrap_i64]; omega
                have PO := Lib.hid (hG.v.of i2 i4)
                have PG := Lib.hid (fun (wX : World) (t : FV w2 wX p n (flQ H k q).1 (flpM H (k + 1)) BB mp gw tb mt X) => t.give i1 i3)
                have hct := Lib.hid (fun (wX : World) (t : FV w2 wX p n (flQ H k q).1 (flpM H (k + 1)) BB mp gw tb mt X) => t.ct)
                have ct0 := hG.v.ct
                have hnx : Hid (∀ wX, FV w2 wX p n (updT (flQ H k q).1 id none) (flpM H (k + 1)) BB mp gw tb mt X → VG w2 p n H BB mp gw tb mt X k (q + 1) (m2 + 1) wX) := Lib.hid (fun wX t => ⟨by rw [i5]; exact t, by rw [i5, hG.e], by omega, by omega⟩)
                unfold plV at PO
                simp only at PO
                clear hG i2 i3 i4 i5 hy hcell hcur
                generalize R[q] = y at *
                go_wp2_with (first | (go_at_call 69; ((with_reducible refine (PO.out).mono ?_); rintro e w5 ⟨rfl, ht⟩; have ct1 := hct.out _ ht; have PG2 := Lib.hid (PG.out _ ht); clear ht)) | (go_at_call 70; ((with_reducible refine (PG2.out).mono ?_); rintro e w6 ⟨rfl, ht6⟩; have hN := Lib.hid (hnx.out _ ht6); clear ht6)))
                clear PO PG PG2 hct ct0 ct1 hnx hcy
                go_roundw
                case rel => exact ⟨q + 1, m2 + 1, by omega, by go_num, by go_num, hN.out⟩
                case measure => simp [intOf]; omega
              · have e : q = R.length := by omega
                subst e
                have hqd : decide ((R.length : Int) < (R.length : Int)) = false := by simp
                have hN := Lib.hid (hend.out _ _ _ rfl hG)
                clear hG hcell hcur hend
                go_wp2
                go_roundw
                case rel => exact ⟨k + 1, m2, by omega, by go_num, by go_num, hN.out⟩
                case measure => simp [intOf]; omega
      · have e : k = 5 := by omega
        subst e
        have em := Lib.hid hR.e
        have hF := Lib.hid (hfin.out _ hR.v)
        clear hR
        go_wp2
        go_ret
        rw [← em.out]
        exact ⟨rfl, hF.out⟩
end
end Wd
end Go.Proofs.YtdaojohdmidemaaGreat

/- The landed memory: Put. -/
namespace Go.Proofs.YtdaojohdmidemaaGreat
open Go.RowKit Go.Maps
set_option linter.unusedVariables false
set_option maxRecDepth 20000
namespace Wd
theorem cell_apart {W c c' a b : Nat} (ha : a < W) (hb : b < W) (h : c' * W + a = c * W + b) : c' = c ∧ a = b := by
  have hW : 0 < W := by omega
  have e1 : (c' * W + a) / W = c' := by rw [Nat.mul_comm, Nat.mul_add_div hW, Nat.div_eq_of_lt ha]; rfl
  have e2 : (c * W + b) / W = c := by rw [Nat.mul_comm, Nat.mul_add_div hW, Nat.div_eq_of_lt hb]; rfl
  have e : c' = c := by rw [← e1, h, e2]
  subst e
  exact ⟨rfl, by omega⟩
section
variable {w w' w1 w2 : World} {p : Nat} {n : Nat → Nat} {B B1 : Nat → Nat → Prop} {mp gw : Nat → Nat} {tb mt : Nat} {T T' : Tst} {M M' : Nat → Mst} {X : Nat → Nat → Int} {H H1 H2 : Hst} {i : Int} {s c : Nat} {cl : Int} {L : List Int}
theorem Ob.putC (o : Ob n H X i s c cl L) {j : Nat} {x : Int} : putC H i j x = { H with C := upC H.C ((s : Int), (c : Int)) (cl, L.set j x) } := by
  unfold Wd.putC
  rw [o.fsi, o.ha, o.hC]
  simp
theorem HQ.wput (h : HQ w p n H B mp gw tb mt X) (o : Ob n H X i s c cl L) {j : Nat} (hj : j < L.length) {x : Int} (x0 : 0 < x) (x1 : x ≤ 4294967295) :
    HQ (w.setCell ⟨gw s, c * wN s + (2 + j), none⟩ (.int .u32 x)) p n (putC H i j x) B mp gw tb mt (upX X s (c * wN s + (2 + j)) x) ∧ Ch (un B) w (w.setCell ⟨gw s, c * wN s + (2 + j), none⟩ (.int .u32 x)) := by
  have fit := o.fit
  obtain ⟨l1, l2⟩ := cell_in o.s5 o.cn o.few
  obtain ⟨a1, a2⟩ := h.hp.wstep o.s5 (k := c * wN s + (2 + j)) (by omega) (v := x) (by omega) x1
  refine ⟨⟨?_, ?_, h.inv.putC i j x ⟨x0, x1⟩ o.hh⟩, a2⟩
  · rw [o.putC]; exact a1
  · rw [o.putC]
    intro k s' c' hT s5 cn
    show hc (upX X s (c * wN s + (2 + j)) x s' (c' * wN s')) = (upC H.C ((s : Int), (c : Int)) (cl, L.set j x) ((s' : Int), (c' : Int))).1 ∧ _
    obtain ⟨r1, r2, r3⟩ := h.wr k s' c' hT s5 cn
    obtain ⟨q1, q2, q3⟩ := h.inv.cel k _ hT
    obtain ⟨f1, f2⟩ := len_fits s5 q1
    have w4 := (wN_bd s5).1
    by_cases es : s' = s
    · subst es
      by_cases ec : c' = c
      · subst ec
        have e1 : upC H.C ((s' : Int), (c' : Int)) (cl, L.set j x) ((s' : Int), (c' : Int)) = (cl, L.set j x) := by unfold upC; rw [if_pos rfl]
        have e0 : upX X s' (c' * wN s' + (2 + j)) x s' (c' * wN s') = X s' (c' * wN s') := upX_ne (by omega)
        show hc _ = _ ∧ hs (upX X s' (c' * wN s' + (2 + j)) x s' (c' * wN s')) = ((upC H.C ((s' : Int), (c' : Int)) (cl, L.set j x) ((s' : Int), (c' : Int))).2.length : Int) ∧ ∀ m v, (upC H.C ((s' : Int), (c' : Int)) (cl, L.set j x) ((s' : Int), (c' : Int))).2[m]? = some v → upX X s' (c' * wN s' + (2 + j)) x s' (c' * wN s' + 2 + m) = v
        rw [e1, e0]
        refine ⟨o.e1, by simpa using o.e2, fun m v hv => ?_⟩
        simp only at hv
        by_cases em : m = j
        · subst em
          rw [List.getElem?_set_self hj] at hv
          cases hv
          rw [Nat.add_assoc]
          exact upX_same
        · rw [List.getElem?_set_ne (fun e => em e.symm)] at hv
          rw [upX_ne (by omega)]
          exact o.fs m v hv
      · have e1 : upC H.C ((s' : Int), (c : Int)) (cl, L.set j x) ((s' : Int), (c' : Int)) = H.C ((s' : Int), (c' : Int)) := by unfold upC; rw [if_neg]; intro e; simp only [Prod.mk.injEq] at e; omega
        have e0 : ∀ a, a < wN s' → upX X s' (c * wN s' + (2 + j)) x s' (c' * wN s' + a) = X s' (c' * wN s' + a) := fun a ha => upX_ne (fun e => ec (cell_apart ha (by omega) e.2).1)
        show hc _ = _ ∧ hs (upX X s' (c * wN s' + (2 + j)) x s' (c' * wN s')) = ((upC H.C ((s' : Int), (c : Int)) (cl, L.set j x) ((s' : Int), (c' : Int))).2.length : Int) ∧ ∀ m v, (upC H.C ((s' : Int), (c : Int)) (cl, L.set j x) ((s' : Int), (c' : Int))).2[m]? = some v → upX X s' (c * wN s' + (2 + j)) x s' (c' * wN s' + 2 + m) = v
        have e00 := e0 0 (by omega)
        rw [Nat.add_zero] at e00
        rw [e1, e00]
        refine ⟨r1, r2, fun m v hv => ?_⟩
        have hm := (List.getElem?_eq_some_iff.1 hv).1
        rw [Nat.add_assoc, e0 (2 + m) (by omega), ← Nat.add_assoc]
        exact r3 m v hv
    · have e1 : upC H.C ((s : Int), (c : Int)) (cl, L.set j x) ((s' : Int), (c' : Int)) = H.C ((s' : Int), (c' : Int)) := by unfold upC; rw [if_neg]; intro e; simp only [Prod.mk.injEq] at e; omega
      have e0 : ∀ a, upX X s (c * wN s + (2 + j)) x s' a = X s' a := fun a => upX_ne (fun e => es e.1)
      show hc _ = _ ∧ hs (upX X s (c * wN s + (2 + j)) x s' (c' * wN s')) = ((upC H.C ((s : Int), (c : Int)) (cl, L.set j x) ((s' : Int), (c' : Int))).2.length : Int) ∧ ∀ m v, (upC H.C ((s : Int), (c : Int)) (cl, L.set j x) ((s' : Int), (c' : Int))).2[m]? = some v → upX X s (c * wN s + (2 + j)) x s' (c' * wN s' + 2 + m) = v
      rw [e1, e0]
      exact ⟨r1, r2, fun m v hv => by rw [e0]; exact r3 m v hv⟩
set_option maxHeartbeats 4000000 in
theorem vput_no (h : HQ w p n H B mp gw tb mt X) (i j x : Int) (x0 : (x == 0) = false) (hF : Calls Tryz.prog 51 #[.pointer (some ⟨p, 0, none⟩), .int .i64 i, .int .i64 j] w fun e w' => e = .returned (.pointer none) ∧ Below w.heap.size w w') :
    Calls Tryz.prog 14 #[.pointer (some ⟨p, 0, none⟩), .int .i64 i, .int .i64 j, .int .u32 x] w fun e w' => e = .returned (.bool false) ∧ ∃ X', Tn w w' p n H B mp gw tb mt X' := by
  have P := Lib.hid hF
  replace h := Lib.hid h
  clear hF
  go_enter Tryz.func14, Tryz.ntmps14
  go_wp2_with (first | (go_at_call 51; ((with_reducible refine (P.out).mono ?_); rintro e w1 ⟨rfl, hb⟩; replace hb := Lib.hid hb)))
  go_ret
  exact ⟨rfl, X, (Tn.refl h.out).keep hb.out⟩
set_option maxHeartbeats 4000000 in
theorem vput_c (h : HQ w p n H B mp gw tb mt X) (i j x : Int) (i0 : -9223372036854775808 ≤ i) (i1 : i ≤ 9223372036854775807) (j0 : -9223372036854775808 ≤ j) (j1 : j ≤ 9223372036854775807) (x0 : 0 ≤ x) (x1 : x ≤ 4294967295) :
    Calls Tryz.prog 14 #[.pointer (some ⟨p, 0, none⟩), .int .i64 i, .int .i64 j, .int .u32 x] w fun e w' => e = .returned (.bool (putB H i j x)) ∧ ∃ X', Tn w w' p n (putH H i j x) B mp gw tb mt X' := by
  by_cases hx : x = 0
  · subst hx
    have e1 : putB H i j 0 = false := by unfold putB; simp
    have e2 : putH H i j 0 = H := by unfold putH; rw [e1]; rfl
    rw [e1, e2]
    replace h := Lib.hid h
    clear e1 e2
    go_enter Tryz.func14, Tryz.ntmps14
    go_wp2
    go_ret
    exact ⟨rfl, X, Tn.refl h.out⟩
  · have dx : (x == 0) = false := by simpa using hx
    cases hh : hasT H.T i with
    | false =>
      have e1 : putB H i j x = false := by unfold putB; rw [fsI_no hh]; simp <;> omega
      have e2 : putH H i j x = H := by unfold putH; rw [e1]; rfl
      rw [e1, e2]
      exact vput_no h i j x dx (field_none h i j i0 i1 j0 j1 hh)
    | true =>
      obtain ⟨s, c, cl, L, o⟩ := h.ob hh
      by_cases hj : 0 ≤ j ∧ j < L.length
      · obtain ⟨k, rfl⟩ : ∃ k : Nat, j = k := ⟨j.toNat, by omega⟩
        have hk : k < L.length := by omega
        have e1 : putB H i k x = true := by unfold putB; rw [o.fsi]; simp; omega
        have P := Lib.hid (field_in h i k i0 i1 o hk)
        have PA := Lib.hid (fun (w1 : World) (hb : Below w.heap.size w w1) => add_c (h.keep hb).hp.met 2 (by omega) (by omega))
        have hcc := Lib.hid (fun (w1 : World) (hb : Below w.heap.size w w1) => (h.keep hb).hp.cc)
        have hwd := Lib.hid (fun (w2 : World) (h2 : HQ w2 p n H B mp gw tb mt X) => h2.hp.word o.s5 o.cn o.few (k := 2 + k) (by have := o.fit; omega))
        have hzg := Lib.hid (fun (w2 : World) (h2 : HQ w2 p n H B mp gw tb mt X) => h2.hp.zg s o.s5 (by have := o.cn; omega) (c * wN s + (2 + k)))
        have hst := Lib.hid (fun (w2 : World) (h2 : HQ w2 p n H B mp gw tb mt X) => h2.wput o hk (x := x) (by omega) x1)
        have ecol : colI (putC H i k x) i = colI H i := rfl
        have PC := Lib.hid (fun (w3 : World) (h3 : HQ w3 p n (putC H i k x) B mp gw tb mt (upX X s (c * wN s + (2 + k)) x)) => vcolor_c h3 i i0 i1)
        rw [ecol] at PC
        have e2 : putH H i k x = if colI H i = 1 then shW (putC H i k x) x else putC H i k x := by unfold putH; rw [if_pos e1]
        rw [e1, e2]
        replace h := Lib.hid h
        clear e1 e2 o hh hj ecol
        generalize putC H i k x = PCH at *
        generalize upX X s (c * wN s + (2 + k)) x = X' at *
        generalize c * wN s + (2 + k) = off at *
        generalize X s off = xo at *
        generalize hg : gw s = g at *
        replace hg := Lib.hid hg
        generalize colI H i = col at *
        by_cases hc1 : col = 1
        · rw [if_pos hc1]
          have dc : (col == 1) = true := by simp [hc1]
          clear hc1
          go_enter Tryz.func14, Tryz.ntmps14
          go_wp2_with (first | (go_at_call 51; ((with_reducible refine (P.out).mono ?_); rintro e w1 ⟨rfl, hb⟩; have cc := hcc.out _ hb; have P2 := Lib.hid (PA.out _ hb); replace hb := Lib.hid hb)) | (go_at_call 52; ((with_reducible refine (P2.out).mono ?_); rintro e w2 ⟨rfl, d1, d2⟩; have h2 := (h.out.keep hb.out).count d1 d2; have cf := hwd.out _ h2.1; have zf := hzg.out _ h2.1; have h3 := Lib.hid (hst.out _ h2.1); replace h2 := Lib.hid h2; clear d1 d2)) | (go_at_call 36; ((with_reducible refine (PC.out _ h3.out.1).mono ?_); rintro e w4 ⟨rfl, hb4⟩; have T4 := Lib.hid ((Tn.refl h3.out.1).keep hb4); clear hb4)) | (go_at_call 53; ((with_reducible refine (T4.out.shw x x0 x1).mono ?_); rintro e w5 ⟨rfl, T5⟩; replace T5 := Lib.hid T5)))
          go_ret
          exact ⟨rfl, X', Tn.pre hb.out (tn_then h2.out.2 (newer_refl9 _ _) (tn_then h3.out.2 (newer_refl9 _ _) T5.out))⟩
        · rw [if_neg hc1]
          have dc : (col == 1) = false := by simp [hc1]
          clear hc1
          go_enter Tryz.func14, Tryz.ntmps14
          go_wp2_with (first | (go_at_call 51; ((with_reducible refine (P.out).mono ?_); rintro e w1 ⟨rfl, hb⟩; have cc := hcc.out _ hb; have P2 := Lib.hid (PA.out _ hb); replace hb := Lib.hid hb)) | (go_at_call 52; ((with_reducible refine (P2.out).mono ?_); rintro e w2 ⟨rfl, d1, d2⟩; have h2 := (h.out.keep hb.out).count d1 d2; have cf := hwd.out _ h2.1; have zf := hzg.out _ h2.1; have h3 := Lib.hid (hst.out _ h2.1); replace h2 := Lib.hid h2; clear d1 d2)) | (go_at_call 36; ((with_reducible refine (PC.out _ h3.out.1).mono ?_); rintro e w4 ⟨rfl, hb4⟩; have T4 := Lib.hid ((Tn.refl h3.out.1).keep hb4); clear hb4)))
          go_ret
          exact ⟨rfl, X', Tn.pre hb.out (tn_then h2.out.2 (newer_refl9 _ _) (tn_then h3.out.2 (newer_refl9 _ _) T4.out))⟩
      · have e1 : putB H i j x = false := by unfold putB; rw [o.fsi]; simp <;> omega
        have e2 : putH H i j x = H := by unfold putH; rw [e1]; rfl
        rw [e1, e2]
        exact vput_no h i j x dx (field_out h i j i0 i1 j0 j1 o (by omega))
end
end Wd
end Go.Proofs.YtdaojohdmidemaaGreat

/- The landed memory: a new object is written. -/
namespace Go.Proofs.YtdaojohdmidemaaGreat
open Go.RowKit Go.Maps
set_option linter.unusedVariables false
set_option maxRecDepth 20000
namespace Wd
/-- the head and j fields are written -/
def Wr (w w' : World) (p : Nat) (n : Nat → Nat) (T : Tst) (M : Nat → Mst) (B : Nat → Nat → Prop) (mp gw : Nat → Nat) (tb mt : Nat) (X : Nat → Nat → Int) (s c j : Nat) (x0 : Int) : Prop :=
  ∃ X', HP w' p n B mp gw tb mt T M X' ∧ Ch (un B) w w' ∧ X' s (c * wN s) = x0 ∧ (∀ m, m < j → X' s (c * wN s + 2 + m) = 2) ∧ ∀ s' k', ¬ (s' = s ∧ c * wN s ≤ k' ∧ k' < c * wN s + wN s) → X' s' k' = X s' k'
section
variable {w w' w1 w2 : World} {p : Nat} {n : Nat → Nat} {B B1 : Nat → Nat → Prop} {mp gw : Nat → Nat} {tb mt : Nat} {T T' : Tst} {M M' : Nat → Mst} {X : Nat → Nat → Int} {H H1 H2 : Hst} {i : Int} {s c j : Nat} {cl x0 : Int} {L : List Int}
theorem Wr.begin (h : HP w1 p n B mp gw tb mt T M X) (hc : Ch (un B) w w1) (hs : s < 5) (hcn : c < n s) (few : n s ≤ 512) (h0 : 0 ≤ x0 ∧ x0 ≤ 4294967295) :
    Wr w (w1.setCell ⟨gw s, c * wN s, none⟩ (.int .u32 x0)) p n T M B mp gw tb mt X s c 0 x0 := by
  obtain ⟨l1, l2⟩ := cell_in hs hcn few
  have w4 := (wN_bd hs).1
  obtain ⟨a1, a2⟩ := h.wstep hs (k := c * wN s) (by omega) h0.1 h0.2
  exact ⟨_, a1, hc.trans a2, upX_same, fun m hm => absurd hm (by omega), fun s' k' hn => upX_ne (fun e => hn ⟨e.1, by omega⟩)⟩
theorem Wr.next (h : Wr w w1 p n T M B mp gw tb mt X s c j x0) (hs : s < 5) (hcn : c < n s) (few : n s ≤ 512) (hj : j + 2 < wN s) :
    Wr w (w1.setCell ⟨gw s, c * wN s + (2 + j), none⟩ (.int .u32 2)) p n T M B mp gw tb mt X s c (j + 1) x0 := by
  obtain ⟨l1, l2⟩ := cell_in hs hcn few
  obtain ⟨X', h1, h2, h3, h4, h5⟩ := h
  obtain ⟨a1, a2⟩ := h1.wstep hs (k := c * wN s + (2 + j)) (by omega) (v := 2) (by omega) (by omega)
  refine ⟨_, a1, h2.trans a2, ?_, fun m hm => ?_, fun s' k' hn => ?_⟩
  · rw [upX_ne (by omega)]; exact h3
  · by_cases e : m = j
    · subst e; rw [Nat.add_assoc]; exact upX_same
    · rw [upX_ne (by omega)]; exact h4 m (by omega)
  · rw [upX_ne (fun e => hn ⟨e.1, by omega⟩)]; exact h5 s' k' hn
set_option maxHeartbeats 8000000 in
theorem vwrite_c (h : HP w p n B mp gw tb mt T M X) {s c f : Nat} (s5 : s < 5) (hcn : c < n s) (few : n s ≤ 512) (x0 : Int) (x00 : 0 ≤ x0) (x01 : x0 ≤ 4294967295) (hf : hs x0 = (f : Int)) (fit : f + 2 ≤ wN s) :
    Calls Tryz.prog 46 #[.pointer (some ⟨p, 0, none⟩), plV ((s : Int), (c : Int)), .int .u32 x0] w fun e w' => e = .returned (.tuple #[]) ∧ Wr w w' p n T M B mp gw tb mt X s c f x0 := by
  obtain ⟨l1, l2⟩ := cell_in s5 hcn few
  have PS := Lib.hid (Size_c x0 x00 x01)
  rw [hf] at PS
  have w64 := (wN_bd s5).2
  have hB : Below w.heap.size w (w.alloc (.cells #[.int .i64 s, .int .i64 c] 83)) := (Below.refl _ _).alloc (Nat.le_refl _) _
  have PC := Lib.hid (fun (w1 : World) (hb : Below w.heap.size w w1) => cell_c (h.keep hb) s5 hcn few)
  have hw0 := Lib.hid (fun (w2 : World) (hb : Below w.heap.size w w2) => (h.keep hb).word s5 hcn few (k := 0) (by omega))
  simp only [Nat.add_zero] at hw0
  have hz0 := Lib.hid (fun (w2 : World) (hb : Below w.heap.size w w2) => (h.keep hb).zg s s5 (by omega) (c * wN s))
  have hbeg := Lib.hid (fun (w2 : World) (hb : Below w.heap.size w w2) => Wr.begin (w := w) (x0 := x0) (h.keep hb) (below_un hb) s5 hcn few ⟨x00, x01⟩)
  have hnx := Lib.hid (fun (j : Nat) (wX : World) (hW : Wr w wX p n T M B mp gw tb mt X s c j x0) (hj : j < f) => hW.next s5 hcn few (by omega))
  have hcell : Hid (∀ (j : Nat) (wX : World), Wr w wX p n T M B mp gw tb mt X s c j x0 → j < f → ∃ y, wX.cell? ⟨gw s, c * wN s + (2 + j), none⟩ = some (.int .u32 y) ∧ wX.frozen? ⟨gw s, c * wN s + (2 + j), none⟩ = false) := Lib.hid (fun j wX hW hj => by
    obtain ⟨X', h1, _⟩ := hW
    exact ⟨_, h1.word s5 hcn few (k := 2 + j) (by omega), h1.zg s s5 (by omega) _⟩)
  have hcc : Hid (∀ (wX : World), Wr w wX p n T M B mp gw tb mt X s c f x0 → wX.cell? ⟨p, 11, none⟩ = some (.pointer (some ⟨mt, 0, none⟩)) ∧ Mt wX mt) := Lib.hid (fun wX hW => by
    obtain ⟨X', h1, _⟩ := hW
    exact ⟨h1.cc, h1.met⟩)
  have hend : Hid (∀ (wX wY : World), Wr w wX p n T M B mp gw tb mt X s c f x0 → Mt wY mt → Ch (fun k => k = mt) wX wY → Wr w wY p n T M B mp gw tb mt X s c f x0) := Lib.hid (fun wX wY hW d1 d2 => by
    obtain ⟨X', h1, h2, h3⟩ := hW
    obtain ⟨e1, e2⟩ := h1.cstep d1 d2
    exact ⟨X', e1, h2.trans e2, h3⟩)
  unfold cellV plV at *
  simp only at PC ⊢
  generalize hXX : X s (c * wN s) = xo at *
  clear h hXX
  have hWf : ∀ j wX, Wr w wX p n T M B mp gw tb mt X s c j x0 = Wr w wX p n T M B mp gw tb mt X s c j x0 := fun _ _ => rfl
  generalize hWr : (fun (wX : World) (j : Nat) => Wr w wX p n T M B mp gw tb mt X s c j x0) = WW at *
  have hWW : ∀ wX j, Wr w wX p n T M B mp gw tb mt X s c j x0 = WW wX j := fun wX j => by rw [← hWr]
  simp only [hWW] at hbeg hnx hcell hcc hend ⊢
  clear hWr hWW hWf
  generalize n s * wN s = N at *
  generalize c * wN s = a at *
  generalize wN s = W at *
  generalize gw s = g at *
  have hW0 : 0 < W := by omega
  generalize hw2 : w.alloc (.cells #[.int .i64 s, .int .i64 c] 83) = w2 at *
  have q0 : w2.cell? ⟨w.heap.size, 0, none⟩ = some (.int .i64 s) := by rw [← hw2]; simp
  have q1 : w2.cell? ⟨w.heap.size, 1, none⟩ = some (.int .i64 c) := by rw [← hw2]; simp
  replace hB := Lib.hid hB
  go_enter Tryz.func46, Tryz.ntmps46
  go_wp2_with fail
  clear hw2
  go_wp2_with (first | (go_at_call 88; ((with_reducible refine (PC.out _ hB.out).mono ?_); rintro e w1 ⟨rfl, hb1⟩; have hb2 := Lib.hid (hB.out.trans (hb1.mono hB.out.size)); have hb3 := Lib.hid hb2.out.drew; have c0 := hw0.out _ hb3.out; have z0 := hz0.out _ hb3.out; have S0 := Lib.hid (hbeg.out _ hb3.out); clear hb1)) | (go_at_call 81; ((with_reducible refine (PS.out _).mono ?_); rintro e w3 ⟨rfl, hw3⟩; subst w3)))
  have S1 : Hid (WW (w1.setCell ⟨g, a, none⟩ (.int .u32 x0)).drew 0) := S0
  clear S0
  have S0 := S1
  clear S1
  generalize (w1.setCell ⟨g, a, none⟩ (.int .u32 x0)).drew = w5 at *
  clear c0 z0 hb2 hb3 PC PS hw0 hz0 hbeg q0 q1 hB
  go_loopw [18] (fun i' wr => ∃ j : Nat, j ≤ f ∧ i' = .int .i64 j ∧ WW wr j) (fun i' _ => f - (intOf i').toNat)
  case atStart => exact ⟨0, by omega, rfl, S0.out⟩
  case round =>
    clear S0
    obtain ⟨j, hj, rfl, hR⟩ := hrel
    by_cases hlt : j < f
    · have hd : decide ((j : Int) < (f : Int)) = true := by simp; omega
      have hw1 : IntKind.i64.wrap ((j : Int) + 1) = (j : Int) + 1 := by rw [IntKind.wrap_i64]; omega
      have hw3 : IntKind.i64.wrap (2 + (j : Int)) = ((2 + j : Nat) : Int) := by rw [IntKind.wrap_i64]; omega
      have hi : ((2 + j : Nat) : Int) < (W : Int) := by omega
      have hi2 : 2 + j < W := by omega
      obtain ⟨y, cy, zy⟩ := hcell.out j wr hR hlt
      have hN := Lib.hid (hnx.out j wr hR hlt)
      clear hR
      go_wp2
      go_roundw
      case rel => exact ⟨j + 1, by omega, by go_num, hN.out⟩
      case measure => simp [intOf]; omega
    · have e : j = f := by omega
      subst e
      have hd : decide ((j : Int) < (j : Int)) = false := by simp
      obtain ⟨cc, hm⟩ := hcc.out wr hR
      have hwf : IntKind.i64.wrap (1 + (j : Int)) = 1 + (j : Int) := by rw [IntKind.wrap_i64]; omega
      have PA := Lib.hid (add_c hm (1 + (j : Int)) (by omega) (by omega))
      replace hR := Lib.hid hR
      clear hm
      go_wp2_with (first | (go_at_call 52; ((with_reducible refine (PA.out).mono ?_); rintro e w6 ⟨rfl, d1, d2⟩; have hT := Lib.hid (hend.out _ _ hR.out d1 d2); clear d1 d2)))
      go_end0
      exact ⟨rfl, hT.out⟩
end
end Wd
end Go.Proofs.YtdaojohdmidemaaGreat

/- The landed memory: Alloc. -/
namespace Go.Proofs.YtdaojohdmidemaaGreat
open Go.RowKit Go.Maps
set_option linter.unusedVariables false
set_option maxRecDepth 20000
namespace Wd
section
variable {w w' w1 w2 : World} {p : Nat} {n : Nat → Nat} {B B1 : Nat → Nat → Prop} {mp gw : Nat → Nat} {tb mt : Nat} {T T' : Tst} {M M' : Nat → Mst} {X X' : Nat → Nat → Int} {H H1 H2 : Hst} {i : Int} {s c j : Nat} {cl x0 : Int} {L : List Int}
/-- a new object: the words tell it -/
theorem wr_new (h : HQ w p n H B mp gw tb mt X) {cl f : Int} (hb : alcB H cl f = true) {s c : Nat} (hsf : fo f = (s : Int)) (hc0 : firstR (H.M s) 0 = (c : Int))
    (e0 : X' s (c * wN s) = pk cl f (s : Int)) (e1 : ∀ m, m < f.toNat → X' s (c * wN s + 2 + m) = 2) (e2 : ∀ s' k', ¬ (s' = s ∧ c * wN s ≤ k' ∧ k' < c * wN s + wN s) → X' s' k' = X s' k') :
    WR n (alcH H cl f).T (alcH H cl f).C X' := by
  obtain ⟨s2, k, i, R, s5, ef, f0, f1, c0, hM, k1, k2, k3, i0, ei, eH⟩ := h.inv.alc_of hb
  obtain rfl : s = s2 := by omega
  have hic : i = (c : Int) := by rw [← hc0]; unfold firstR; rw [hM]
  subst hic
  have hno : ∀ m, H.T m ≠ some ((s : Int), (c : Int)) := ofR_none h.inv.inv (h.inv.miss s5 (by rw [hM]; simp))
  have hok : hok cl f (s : Int) = true := (hok_iff _ _ _).2 ⟨c0, by omega, by omega⟩
  obtain ⟨_, q1, q2, _⟩ := pk_open _ _ _ hok
  rw [eH]
  intro k' s' c' hT s5' cn'
  have hT' : updT H.T k (some ((s : Int), (c : Int))) k' = some ((s' : Int), (c' : Int)) := hT
  show hc (X' s' (c' * wN s')) = (upC H.C ((s : Int), (c : Int)) (cl, List.replicate f.toNat 2) ((s' : Int), (c' : Int))).1 ∧ hs (X' s' (c' * wN s')) = ((upC H.C ((s : Int), (c : Int)) (cl, List.replicate f.toNat 2) ((s' : Int), (c' : Int))).2.length : Int) ∧ ∀ m v, (upC H.C ((s : Int), (c : Int)) (cl, List.replicate f.toNat 2) ((s' : Int), (c' : Int))).2[m]? = some v → X' s' (c' * wN s' + 2 + m) = v
  unfold updT at hT'
  split at hT'
  · simp only [Option.some.injEq, Prod.mk.injEq] at hT'
    obtain rfl : s' = s := by omega
    obtain rfl : c' = c := by omega
    have eC : upC H.C ((s' : Int), (c' : Int)) (cl, List.replicate f.toNat 2) ((s' : Int), (c' : Int)) = (cl, List.replicate f.toNat 2) := by unfold upC; rw [if_pos rfl]
    rw [eC, e0]
    refine ⟨q1, ?_, fun m v hv => ?_⟩
    · rw [q2, List.length_replicate]; omega
    · have hm := (List.getElem?_eq_some_iff.1 hv).1
      rw [List.length_replicate] at hm
      have := List.mem_of_getElem? hv
      have hv2 := List.eq_of_mem_replicate this
      rw [e1 m hm, hv2]
  · have hne : ¬ (s' = s ∧ c' = c) := fun e => hno k' (by rw [hT', e.1, e.2])
    have eC : upC H.C ((s : Int), (c : Int)) (cl, List.replicate f.toNat 2) ((s' : Int), (c' : Int)) = H.C ((s' : Int), (c' : Int)) := by
      unfold upC; rw [if_neg]; intro e; simp only [Prod.mk.injEq] at e; exact hne (by omega)
    obtain ⟨r1, r2, r3⟩ := h.wr k' s' c' hT' s5' cn'
    obtain ⟨g1, g2, g3⟩ := h.inv.cel k' _ hT'
    obtain ⟨t1, t2⟩ := len_fits s5' g1
    have eX : ∀ a, a < wN s' → X' s' (c' * wN s' + a) = X s' (c' * wN s' + a) := fun a ha => e2 _ _ (fun e => by
      obtain ⟨rfl, b1, b2⟩ := e
      obtain ⟨b, hb⟩ : ∃ b, c' * wN s' + a = c * wN s' + b := ⟨c' * wN s' + a - c * wN s', by omega⟩
      exact hne ⟨rfl, (cell_apart ha (by omega) hb).1⟩)
    have w4 := (wN_bd s5').1
    have eX0 := eX 0 (by omega)
    rw [Nat.add_zero] at eX0
    rw [eC, eX0]
    refine ⟨r1, r2, fun m v hv => ?_⟩
    have hm := (List.getElem?_eq_some_iff.1 hv).1
    rw [Nat.add_assoc, eX (2 + m) (by omega), ← Nat.add_assoc]
    exact r3 m v hv
theorem alc_no {cl f : Int} (hb : alcB H cl f = false) : alcI H cl f = -1 ∧ alcH H cl f = H := by
  constructor
  · unfold alcI; rw [hb]; rfl
  · unfold alcH; rw [hb]; rfl
theorem row0_none {A : Mst} (h : A 0 = []) : firstR A 0 = -1 ∧ firstA A 0 1 = A := by
  constructor
  · unfold firstR; rw [h]
  · unfold firstA; rw [h]
set_option maxHeartbeats 8000000 in
theorem valloc_no (h : HQ w p n H B mp gw tb mt X) (cl f : Int) (c0 : -9223372036854775808 ≤ cl) (c1 : cl ≤ 9223372036854775807) (f0 : -9223372036854775808 ≤ f) (f1 : f ≤ 9223372036854775807) (hb : alcB H cl f = false) :
    Calls Tryz.prog 11 #[.pointer (some ⟨p, 0, none⟩), .int .i64 cl, .int .i64 f] w fun e w' => e = .returned (.int .i64 (-1)) ∧ Tn w w' p n H B mp gw tb mt X := by
  have PO := Lib.hid (of_c f f0 f1)
  have hfb := fo_bd f
  by_cases hf : fo f < 0
  · have d1 : decide (fo f < 0) = true := by simpa using hf
    generalize fo f = ff at *
    replace h := Lib.hid h
    clear hb
    go_enter Tryz.func11, Tryz.ntmps11
    go_wp2_with (first | (go_at_call 43; ((with_reducible refine (PO.out _).mono ?_); rintro e w1 ⟨rfl, hw1⟩; subst w1)))
    go_ret
    exact ⟨rfl, Tn.refl h.out⟩
  · obtain ⟨s, hs⟩ : ∃ s : Nat, fo f = (s : Int) := ⟨(fo f).toNat, by omega⟩
    have s5 : s < 5 := by omega
    have s5' : (s : Int) < 5 := by omega
    have hM0 : (0 ≤ cl ∧ cl ≤ 4095) → H.M s 0 = [] := fun hcl => by
      unfold alcB at hb
      rw [hs, decide_eq_true hcl, decide_eq_true (show 0 ≤ (s : Int) by omega)] at hb
      simpa using hb
    have hf62 : 0 ≤ f ∧ f ≤ 62 := by
      rcases fo_cases f with ⟨h, e⟩ | ⟨h1, h2, e⟩ | ⟨h1, h2, e⟩ | ⟨h1, h2, e⟩ | ⟨h1, h2, e⟩ | ⟨h1, h2, e⟩ <;> omega
    have d1 : decide ((s : Int) < 0) = false := by simp
    have cm := h.hp.cm s s5
    rw [hs] at PO
    by_cases h0 : n s = 0
    · rw [if_pos h0] at cm
      replace h := Lib.hid h
      clear hb hM0 hs hf
      go_enter Tryz.func11, Tryz.ntmps11
      go_wp2_with (first | (go_at_call 43; ((with_reducible refine (PO.out _).mono ?_); rintro e w1 ⟨rfl, hw1⟩; subst w1)))
      go_ret
      exact ⟨rfl, Tn.refl h.out⟩
    · rw [if_neg h0] at cm
      have PP := Lib.hid (Pack_c cl f (s : Int) c0 c1 f0 f1 (by omega) (by omega))
      by_cases hcl : 0 ≤ cl ∧ cl ≤ 4095
      · have hok : hok cl f (s : Int) = true := (hok_iff _ _ _).2 ⟨hcl, by omega, by omega⟩
        rw [hok] at PP
        obtain ⟨r1, r2⟩ := row0_none (hM0 hcl)
        have PM := Lib.hid (fun (wX : World) (hX : Below w.heap.size w wX) => KM.alloc ((h.keep hX).hp.mill s s5 (by omega)))
        have hcm := Lib.hid (fun (wX : World) (hX : Below w.heap.size w wX) => (h.keep hX).hp.cm s s5)
        simp only [if_neg h0] at hcm
        have hfin : Hid (∀ (wX wY : World) (F' : Nat → Prop), Below w.heap.size w wX → MA wY (mp s) (n s) (firstA (H.M s) 0 1) F' → Ch (B (3 + s)) wX wY → Newer (B (3 + s)) F' wX.heap.size → Tn w wY p n H B mp gw tb mt X) := Lib.hid (fun wX wY F' hX d1 d2 d3 => by
          have e : ({ H with M := upM H.M s (firstA (H.M s) 0 1) } : Hst) = H := by rw [r2, upM_self]
          have := (h.keep hX).mstep s5 (by omega) d1 d2 d3 (by rw [e]; exact h.inv)
          rw [e] at this
          exact Tn.pre hX this)
        rw [r1] at PM
        have hB : ∀ (w1 : World), w1 = w.alloc (.cells #[.int .i64 cl, .int .i64 f, .int .i64 s] 82) → Below w.heap.size w w1 := fun w1 e => by rw [e]; exact (Below.refl _ _).alloc (Nat.le_refl _) _
        replace hB := Lib.hid hB
        clear hb hM0 hs hf h r1 r2 hok h0
        generalize pk cl f (s : Int) = x0 at *
        go_enter Tryz.func11, Tryz.ntmps11
        go_wp2_with (first | (go_at_call 43; ((with_reducible refine (PO.out _).mono ?_); rintro e w1 ⟨rfl, hw1⟩; subst w1)) | (go_at_call 44; ((with_reducible refine (PP.out _).mono ?_); rintro e w2 ⟨rfl, hw2⟩; have hb2 := Lib.hid (hB.out _ hw2); clear hw2; have cm2 := hcm.out _ hb2.out)) | (go_at_call 45; ((with_reducible refine (PM.out _ hb2.out).mono ?_); rintro e w3 ⟨F', he, d1, d2, d3⟩; subst he; have hT := Lib.hid (hfin.out _ _ _ hb2.out d1 d2 d3); clear d1 d2 d3)))
        go_ret
        exact ⟨rfl, hT.out.keep ((Below.refl _ _).alloc (Nat.le_refl _) _)⟩
      · have hok : hok cl f (s : Int) = false := by
          cases hh : Wd.hok cl f (s : Int) with
          | false => rfl
          | true => exact absurd ((hok_iff _ _ _).1 hh).1 hcl
        rw [hok] at PP
        have hB : ∀ (w1 : World), w1 = w.alloc (.cells #[.int .i64 cl, .int .i64 f, .int .i64 s] 82) → Below w.heap.size w w1 := fun w1 e => by rw [e]; exact (Below.refl _ _).alloc (Nat.le_refl _) _
        replace hB := Lib.hid hB
        replace h := Lib.hid h
        clear hb hM0 hs hf hok h0
        generalize pk cl f (s : Int) = x0 at *
        go_enter Tryz.func11, Tryz.ntmps11
        go_wp2_with (first | (go_at_call 43; ((with_reducible refine (PO.out _).mono ?_); rintro e w1 ⟨rfl, hw1⟩; subst w1)) | (go_at_call 44; ((with_reducible refine (PP.out _).mono ?_); rintro e w2 ⟨rfl, hw2⟩; have hb2 := Lib.hid (hB.out _ hw2); clear hw2)))
        go_ret
        exact ⟨rfl, (Tn.refl h.out).keep hb2.out⟩
end
end Wd
end Go.Proofs.YtdaojohdmidemaaGreat

/- The landed memory: Alloc, where there is a cell. -/
namespace Go.Proofs.YtdaojohdmidemaaGreat
open Go.RowKit Go.Maps
set_option linter.unusedVariables false
set_option maxRecDepth 20000
namespace Wd
section
variable {w w' w1 w2 : World} {p : Nat} {n : Nat → Nat} {B B1 : Nat → Nat → Prop} {mp gw : Nat → Nat} {tb mt : Nat} {T T' : Tst} {M M' : Nat → Mst} {X X' : Nat → Nat → Int} {H H1 H2 : Hst} {i : Int} {s c j : Nat} {cl x0 : Int} {L : List Int}
theorem Newer.mono' {F F' : Nat → Prop} {s t : Nat} (h : Newer F F' t) (hst : s ≤ t) : Newer F F' s := fun k hk => by
  rcases h k hk with h | h
  · exact Or.inl h
  · exact Or.inr (Nat.le_trans hst h)
set_option maxHeartbeats 8000000 in
theorem valloc_yes (h : HQ w p n H B mp gw tb mt X) (cl f : Int) (hb : alcB H cl f = true) :
    Calls Tryz.prog 11 #[.pointer (some ⟨p, 0, none⟩), .int .i64 cl, .int .i64 f] w fun e w' => e = .returned (.int .i64 (alcI H cl f)) ∧ ∃ X', Tn w w' p n (alcH H cl f) B mp gw tb mt X' := by
  obtain ⟨s, k, i, R, s5, ef, f0, f1, c0, hM, k1, k2, k3, i0, ei, eH⟩ := h.inv.alc_of hb
  obtain ⟨c, rfl⟩ : ∃ c : Nat, i = c := ⟨i.toNat, by omega⟩
  have hr : firstR (H.M s) 0 = (c : Int) := by unfold firstR; rw [hM]
  have few := h.inv.few s s5
  have hn0 : ¬ (n s = 0) := by omega
  have eI : alcI H cl f = takeI H.T ((s : Int), (c : Int)) := by
    unfold alcI alcP
    rw [if_pos hb, ef, show ((s : Int)).toNat = s by simp, hr]
  have eT : (alcH H cl f).T = takeT H.T ((s : Int), (c : Int)) := by
    unfold alcH alcP
    rw [if_pos hb, ef, show ((s : Int)).toNat = s by simp, hr]
  have eM : (alcH H cl f).M = upM H.M s (firstA (H.M s) 0 1) := by rw [eH]
  have PO := Lib.hid (of_c f (by omega) (by omega))
  rw [ef] at PO
  have PP := Lib.hid (Pack_c cl f (s : Int) (by omega) (by omega) (by omega) (by omega) (by omega) (by omega))
  have hok : hok cl f (s : Int) = true := (hok_iff _ _ _).2 ⟨c0, by omega, by omega⟩
  obtain ⟨_, _, q2, _⟩ := pk_open _ _ _ hok
  have q2' : Wd.hs (pk cl f (s : Int)) = (f.toNat : Int) := by rw [q2]; omega
  have pkb := pk_bd cl f (s : Int)
  rw [hok] at PP
  have fit : f.toNat + 2 ≤ wN s := (len_fits s5 (by rw [show ((f.toNat : Nat) : Int) = f by omega]; exact ef)).1
  have PM := Lib.hid (fun (wX : World) (hX : Below w.heap.size w wX) => KM.alloc ((h.keep hX).hp.mill s s5 (by omega)))
  rw [hr] at PM
  have hcm := Lib.hid (fun (wX : World) (hX : Below w.heap.size w wX) => (h.keep hX).hp.cm s s5)
  simp only [if_neg hn0] at hcm
  have hfin : Hid (∀ (wX wY : World) (F' : Nat → Prop), Below w.heap.size w wX → MA wY (mp s) (n s) (firstA (H.M s) 0 1) F' → Ch (B (3 + s)) wX wY → Newer (B (3 + s)) F' wX.heap.size → FV w wY p n H.T (upM H.M s (firstA (H.M s) 0 1)) B mp gw tb mt X) := Lib.hid (fun wX wY F' hX d1 d2 d3 => by
    obtain ⟨a1, a2, a3⟩ := (h.keep hX).hp.mstep s5 (by omega) d1 d2 d3
    exact ⟨_, a1, (below_un hX).trans a2, Newer.mono' a3 hX.size⟩)
  have PWr := Lib.hid (fun (wX : World) (B3 : Nat → Nat → Prop) (h3 : HP wX p n B3 mp gw tb mt H.T (upM H.M s (firstA (H.M s) 0 1)) X) => vwrite_c h3 (c := c) s5 (by omega) few (pk cl f (s : Int)) pkb.1 pkb.2 q2' fit)
  have hpl : plOk ((s : Int), (c : Int)) := ⟨⟨by simp only; omega, by simp only; omega⟩, ⟨by simp only; omega, by simp only; omega⟩⟩
  have PT := Lib.hid (fun (wX : World) (B3 : Nat → Nat → Prop) (X' : Nat → Nat → Int) (h3 : HP wX p n B3 mp gw tb mt H.T (upM H.M s (firstA (H.M s) 0 1)) X') => KT.take ((s : Int), (c : Int)) h3.tbl hpl)
  have hend : Hid (∀ (wX wY : World) (B3 : Nat → Nat → Prop) (X' : Nat → Nat → Int) (F' : Nat → Prop), HP wX p n B3 mp gw tb mt H.T (upM H.M s (firstA (H.M s) 0 1)) X' → TA wY tb (takeT H.T ((s : Int), (c : Int))) F' → Ch (B3 2) wX wY → Newer (B3 2) F' wX.heap.size → X' s (c * wN s) = pk cl f (s : Int) → (∀ m, m < f.toNat → X' s (c * wN s + 2 + m) = 2) → (∀ s' k', ¬ (s' = s ∧ c * wN s ≤ k' ∧ k' < c * wN s + wN s) → X' s' k' = X s' k') → Tn wX wY p n (alcH H cl f) B3 mp gw tb mt X') := Lib.hid (fun wX wY B3 X' F' h3 d1 d2 d3 x1 x2 x3 => by
    obtain ⟨a1, a2, a3⟩ := h3.tstep d1 d2 d3
    rw [← eT, ← eM] at a1
    exact ⟨_, ⟨a1, wr_new h hb ef hr x1 x2 x3, h.inv.alc cl f⟩, a2, a3⟩)
  have hB : ∀ (w1 : World), w1 = w.alloc (.cells #[.int .i64 cl, .int .i64 f, .int .i64 s] 82) → Below w.heap.size w w1 := fun w1 e => by rw [e]; exact (Below.refl _ _).alloc (Nat.le_refl _) _
  replace hB := Lib.hid hB
  rw [eI]
  have cm := h.hp.cm s s5
  rw [if_neg hn0] at cm
  have s5' : (s : Int) < 5 := by omega
  have d1 : decide ((s : Int) < 0) = false := by simp
  have d2 : decide ((c : Int) < 0) = false := by simp
  unfold plV at PWr PT
  simp only at PWr PT
  clear eI eT eM hb eH ei k3 hM hr hok q2 q2' pkb h hn0 hpl ef
  generalize pk cl f (s : Int) = x0 at *
  generalize alcH H cl f = HN at *
  generalize takeI H.T ((s : Int), (c : Int)) = tk at *
  generalize takeT H.T ((s : Int), (c : Int)) = TN at *
  generalize upM H.M s (firstA (H.M s) 0 1) = MN at *
  generalize firstA (H.M s) 0 1 = AN at *
  generalize mp s = ms at *
  go_enter Tryz.func11, Tryz.ntmps11
  go_wp2_with (first | (go_at_call 43; ((with_reducible refine (PO.out _).mono ?_); rintro e w1 ⟨rfl, hw1⟩; subst w1)) | (go_at_call 44; ((with_reducible refine (PP.out _).mono ?_); rintro e w2 ⟨rfl, hw2⟩; have hb2 := Lib.hid (hB.out _ hw2); clear hw2; have cm2 := hcm.out _ hb2.out)) | (go_at_call 45; ((with_reducible refine (PM.out _ hb2.out).mono ?_); rintro e w3 ⟨F', he, d1, d2, d3⟩; subst he; obtain ⟨B3, h3, c3, n3⟩ := hfin.out _ _ _ hb2.out d1 d2 d3; have h4 := h3.keep ((Below.refl _ _).alloc (Nat.le_refl _) (.cells #[.int .i64 s, .int .i64 c] 83)); have nb := Lib.hid (fun (hx : un B3 w3.heap.size) => Nat.lt_irrefl _ (h3.ltu _ hx)); have PW2 := Lib.hid (PWr.out _ _ h4); replace c3 := Lib.hid c3; replace n3 := Lib.hid n3; clear d1 d2 d3 h3 h4)))
  clear PM PP PO PWr hfin hcm hB cm cm2
  have b0 : (w3.alloc (.cells #[.int .i64 s, .int .i64 c] 83)).cell? ⟨w3.heap.size, 0, none⟩ = some (.int .i64 s) := by simp
  have b1 : (w3.alloc (.cells #[.int .i64 s, .int .i64 c] 83)).cell? ⟨w3.heap.size, 1, none⟩ = some (.int .i64 c) := by simp
  have hb4 : Below w3.heap.size w3 (w3.alloc (.cells #[.int .i64 s, .int .i64 c] 83)) := (Below.refl _ _).alloc (Nat.le_refl _) _
  have hsz : w3.heap.size < (w3.alloc (.cells #[.int .i64 s, .int .i64 c] 83)).heap.size := by simp only [World.size_alloc]; omega
  generalize w3.alloc (.cells #[.int .i64 s, .int .i64 c] 83) = w4 at *
  replace hb4 := Lib.hid hb4
  go_wp2_with (first | (go_at_call 46; ((with_reducible refine (PW2.out).mono ?_); rintro e w5 ⟨rfl, X', g1, g2, g3, g4, g5⟩)))
  have e5 := g2.block w3.heap.size hsz nb.out
  have r0 := (World.cell?_of_block (a := ⟨w3.heap.size, 0, none⟩) e5).trans b0
  have r1 := (World.cell?_of_block (a := ⟨w3.heap.size, 1, none⟩) e5).trans b1
  have ct5 := g1.ct
  have g6 : HP w5.drew p n B3 mp gw tb mt H.T MN X' := g1.keep (Below.refl _ _).drew
  have PT2 := Lib.hid (PT.out _ _ _ g6)
  have hE := Lib.hid (fun wY F' d1 d2 d3 => hend.out _ wY _ _ F' g6 d1 d2 d3 g3 g4 g5)
  have g2' : Ch (un B3) w4 w5.drew := g2.trans (below_un (Below.refl _ _).drew)
  replace g2' := Lib.hid g2'
  clear b0 b1 e5 g1 g2 g3 g4 g5 g6 PT hend PW2
  go_still_tail 5, (by kernel_rfl)
  go_wp2_with (first | (go_at_call 47; ((with_reducible refine (PT2.out).mono ?_); rintro e w6 ⟨F', he, d1, d2, d3⟩; subst he; have hT := Lib.hid (hE.out _ _ d1 d2 d3); clear d1 d2 d3)))
  go_ret
  refine ⟨rfl, X', tn_then c3.out n3.out (Tn.pre hb4.out (tn_then g2'.out (newer_refl9 _ _) hT.out))⟩
end
end Wd
end Go.Proofs.YtdaojohdmidemaaGreat
