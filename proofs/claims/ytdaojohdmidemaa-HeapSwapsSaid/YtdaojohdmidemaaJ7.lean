/- Texts joined: VAlloc, VAllocY, VNew, VKK, EForgets, ESwaps. -/
import Derived.Test.YtdaojohdmidemaaJ2
import Derived.Test.YtdaojohdmidemaaJ6
/- The landed memory: Alloc. -/
namespace Go.Proofs.Ytdaojohdmidemaa
open Go.RowKit Go.Maps
set_option linter.unusedVariables false
set_option maxRecDepth 20000
namespace Wd
section
variable {w w' w1 w2 : World} {p : Nat} {n : Nat → Nat} {B B1 : Nat → Nat → Prop} {mp gw : Nat → Nat} {tb mt : Nat} {T T' : Tst} {M M' : Nat → Mst} {X X' : Nat → Nat → Int} {H H1 H2 : Hst} {i : Int} {s c j : Nat} {cl x0 : Int} {L : List Int}
/-- a new object: the words tell it -/
theorem wr_new (h : HQ w p n H B mp gw tb mt X) {cl f : Int} (hb : alcB H cl f = true) {s c : Nat} (hsf : fo f = (s : Int)) (hc0 : firstR (H.M s) 0 = (c : Int))
    (e0 : X' s (c * wN s) = pk cl f (s : Int)) (e1 : ∀ m, m < f.toNat → X' s (c * wN s + 2 + m) = 2) (e2 : ∀ s' k', ¬ (s' = s ∧ c * wN s ≤ k' ∧ k' < c * wN s + wN s) → X' s' k' = X s' k') :
    WR n (alcH H cl f).T (alcH H cl f).C X' := by
  obtain ⟨s2, k, i, R, s5, ef, f0, f1, c0, hM, k1, k2, k3, i0, ei, eH⟩ := h.inv.alc_of hb
  obtain rfl : s = s2 := by omega
  have hic : i = (c : Int) := by rw [← hc0]; unfold firstR; rw [hM]
  subst hic
  have hno : ∀ m, H.T m ≠ some ((s : Int), (c : Int)) := ofR_none h.inv.inv (h.inv.miss s5 (by rw [hM]; simp))
  have hok : hok cl f (s : Int) = true := (hok_iff _ _ _).2 ⟨c0, by omega, by omega⟩
  obtain ⟨_, q1, q2, _⟩ := pk_open _ _ _ hok
  rw [eH]
  intro k' s' c' hT s5' cn'
  have hT' : updT H.T k (some ((s : Int), (c : Int))) k' = some ((s' : Int), (c' : Int)) := hT
  show hc (X' s' (c' * wN s')) = (upC H.C ((s : Int), (c : Int)) (cl, List.replicate f.toNat 2) ((s' : Int), (c' : Int))).1 ∧ hs (X' s' (c' * wN s')) = ((upC H.C ((s : Int), (c : Int)) (cl, List.replicate f.toNat 2) ((s' : Int), (c' : Int))).2.length : Int) ∧ ∀ m v, (upC H.C ((s : Int), (c : Int)) (cl, List.replicate f.toNat 2) ((s' : Int), (c' : Int))).2[m]? = some v → X' s' (c' * wN s' + 2 + m) = v
  unfold updT at hT'
  split at hT'
  · simp only [Option.some.injEq, Prod.mk.injEq] at hT'
    obtain rfl : s' = s := by omega
    obtain rfl : c' = c := by omega
    have eC : upC H.C ((s' : Int), (c' : Int)) (cl, List.replicate f.toNat 2) ((s' : Int), (c' : Int)) = (cl, List.replicate f.toNat 2) := by unfold upC; rw [if_pos rfl]
    rw [eC, e0]
    refine ⟨q1, ?_, fun m v hv => ?_⟩
    · rw [q2, List.length_replicate]; omega
    · have hm := (List.getElem?_eq_some_iff.1 hv).1
      rw [List.length_replicate] at hm
      have := List.mem_of_getElem? hv
      have hv2 := List.eq_of_mem_replicate this
      rw [e1 m hm, hv2]
  · have hne : ¬ (s' = s ∧ c' = c) := fun e => hno k' (by rw [hT', e.1, e.2])
    have eC : upC H.C ((s : Int), (c : Int)) (cl, List.replicate f.toNat 2) ((s' : Int), (c' : Int)) = H.C ((s' : Int), (c' : Int)) := by
      unfold upC; rw [if_neg]; intro e; simp only [Prod.mk.injEq] at e; exact hne (by omega)
    obtain ⟨r1, r2, r3⟩ := h.wr k' s' c' hT' s5' cn'
    obtain ⟨g1, g2, g3⟩ := h.inv.cel k' _ hT'
    obtain ⟨t1, t2⟩ := len_fits s5' g1
    have eX : ∀ a, a < wN s' → X' s' (c' * wN s' + a) = X s' (c' * wN s' + a) := fun a ha => e2 _ _ (fun e => by
      obtain ⟨rfl, b1, b2⟩ := e
      obtain ⟨b, hb⟩ : ∃ b, c' * wN s' + a = c * wN s' + b := ⟨c' * wN s' + a - c * wN s', by omega⟩
      exact hne ⟨rfl, (cell_apart ha (by omega) hb).1⟩)
    have w4 := (wN_bd s5').1
    have eX0 := eX 0 (by omega)
    rw [Nat.add_zero] at eX0
    rw [eC, eX0]
    refine ⟨r1, r2, fun m v hv => ?_⟩
    have hm := (List.getElem?_eq_some_iff.1 hv).1
    rw [Nat.add_assoc, eX (2 + m) (by omega), ← Nat.add_assoc]
    exact r3 m v hv
theorem alc_no {cl f : Int} (hb : alcB H cl f = false) : alcI H cl f = -1 ∧ alcH H cl f = H := by
  constructor
  · unfold alcI; rw [hb]; rfl
  · unfold alcH; rw [hb]; rfl
theorem row0_none {A : Mst} (h : A 0 = []) : firstR A 0 = -1 ∧ firstA A 0 1 = A := by
  constructor
  · unfold firstR; rw [h]
  · unfold firstA; rw [h]
set_option maxHeartbeats 8000000 in
theorem valloc_no (h : HQ w p n H B mp gw tb mt X) (cl f : Int) (c0 : -9223372036854775808 ≤ cl) (c1 : cl ≤ 9223372036854775807) (f0 : -9223372036854775808 ≤ f) (f1 : f ≤ 9223372036854775807) (hb : alcB H cl f = false) :
    Calls Try.prog 7 #[.pointer (some ⟨p, 0, none⟩), .int .i64 cl, .int .i64 f] w fun e w' => e = .returned (.int .i64 (-1)) ∧ Tn w w' p n H B mp gw tb mt X := by
  have PO := Lib.hid (of_c f f0 f1)
  have hfb := fo_bd f
  by_cases hf : fo f < 0
  · have d1 : decide (fo f < 0) = true := by simpa using hf
    generalize fo f = ff at *
    replace h := Lib.hid h
    clear hb
    go_enter Try.func7, Try.ntmps7
    go_wp2_with (first | (go_at_call 25; ((with_reducible refine (PO.out _).mono ?_); rintro e w1 ⟨rfl, hw1⟩; subst w1)))
    go_ret
    exact ⟨rfl, Tn.refl h.out⟩
  · obtain ⟨s, hs⟩ : ∃ s : Nat, fo f = (s : Int) := ⟨(fo f).toNat, by omega⟩
    have s5 : s < 5 := by omega
    have s5' : (s : Int) < 5 := by omega
    have hM0 : (0 ≤ cl ∧ cl ≤ 4095) → H.M s 0 = [] := fun hcl => by
      unfold alcB at hb
      rw [hs, decide_eq_true hcl, decide_eq_true (show 0 ≤ (s : Int) by omega)] at hb
      simpa using hb
    have hf62 : 0 ≤ f ∧ f ≤ 62 := by
      rcases fo_cases f with ⟨h, e⟩ | ⟨h1, h2, e⟩ | ⟨h1, h2, e⟩ | ⟨h1, h2, e⟩ | ⟨h1, h2, e⟩ | ⟨h1, h2, e⟩ <;> omega
    have d1 : decide ((s : Int) < 0) = false := by simp
    have cm := h.hp.cm s s5
    rw [hs] at PO
    by_cases h0 : n s = 0
    · rw [if_pos h0] at cm
      replace h := Lib.hid h
      clear hb hM0 hs hf
      go_enter Try.func7, Try.ntmps7
      go_wp2_with (first | (go_at_call 25; ((with_reducible refine (PO.out _).mono ?_); rintro e w1 ⟨rfl, hw1⟩; subst w1)))
      go_ret
      exact ⟨rfl, Tn.refl h.out⟩
    · rw [if_neg h0] at cm
      have PP := Lib.hid (Pack_c cl f (s : Int) c0 c1 f0 f1 (by omega) (by omega))
      by_cases hcl : 0 ≤ cl ∧ cl ≤ 4095
      · have hok : hok cl f (s : Int) = true := (hok_iff _ _ _).2 ⟨hcl, by omega, by omega⟩
        rw [hok] at PP
        obtain ⟨r1, r2⟩ := row0_none (hM0 hcl)
        have PM := Lib.hid (fun (wX : World) (hX : Below w.heap.size w wX) => KM.alloc ((h.keep hX).hp.mill s s5 (by omega)))
        have hcm := Lib.hid (fun (wX : World) (hX : Below w.heap.size w wX) => (h.keep hX).hp.cm s s5)
        simp only [if_neg h0] at hcm
        have hfin : Hid (∀ (wX wY : World) (F' : Nat → Prop), Below w.heap.size w wX → MA wY (mp s) (n s) (firstA (H.M s) 0 1) F' → Ch (B (3 + s)) wX wY → Newer (B (3 + s)) F' wX.heap.size → Tn w wY p n H B mp gw tb mt X) := Lib.hid (fun wX wY F' hX d1 d2 d3 => by
          have e : ({ H with M := upM H.M s (firstA (H.M s) 0 1) } : Hst) = H := by rw [r2, upM_self]
          have := (h.keep hX).mstep s5 (by omega) d1 d2 d3 (by rw [e]; exact h.inv)
          rw [e] at this
          exact Tn.pre hX this)
        rw [r1] at PM
        have hB : ∀ (w1 : World), w1 = w.alloc (.cells #[.int .i64 cl, .int .i64 f, .int .i64 s] 61) → Below w.heap.size w w1 := fun w1 e => by rw [e]; exact (Below.refl _ _).alloc (Nat.le_refl _) _
        replace hB := Lib.hid hB
        clear hb hM0 hs hf h r1 r2 hok h0
        generalize pk cl f (s : Int) = x0 at *
        go_enter Try.func7, Try.ntmps7
        go_wp2_with (first | (go_at_call 25; ((with_reducible refine (PO.out _).mono ?_); rintro e w1 ⟨rfl, hw1⟩; subst w1)) | (go_at_call 26; ((with_reducible refine (PP.out _).mono ?_); rintro e w2 ⟨rfl, hw2⟩; have hb2 := Lib.hid (hB.out _ hw2); clear hw2; have cm2 := hcm.out _ hb2.out)) | (go_at_call 27; ((with_reducible refine (PM.out _ hb2.out).mono ?_); rintro e w3 ⟨F', he, d1, d2, d3⟩; subst he; have hT := Lib.hid (hfin.out _ _ _ hb2.out d1 d2 d3); clear d1 d2 d3)))
        go_ret
        exact ⟨rfl, hT.out.keep ((Below.refl _ _).alloc (Nat.le_refl _) _)⟩
      · have hok : hok cl f (s : Int) = false := by
          cases hh : Wd.hok cl f (s : Int) with
          | false => rfl
          | true => exact absurd ((hok_iff _ _ _).1 hh).1 hcl
        rw [hok] at PP
        have hB : ∀ (w1 : World), w1 = w.alloc (.cells #[.int .i64 cl, .int .i64 f, .int .i64 s] 61) → Below w.heap.size w w1 := fun w1 e => by rw [e]; exact (Below.refl _ _).alloc (Nat.le_refl _) _
        replace hB := Lib.hid hB
        replace h := Lib.hid h
        clear hb hM0 hs hf hok h0
        generalize pk cl f (s : Int) = x0 at *
        go_enter Try.func7, Try.ntmps7
        go_wp2_with (first | (go_at_call 25; ((with_reducible refine (PO.out _).mono ?_); rintro e w1 ⟨rfl, hw1⟩; subst w1)) | (go_at_call 26; ((with_reducible refine (PP.out _).mono ?_); rintro e w2 ⟨rfl, hw2⟩; have hb2 := Lib.hid (hB.out _ hw2); clear hw2)))
        go_ret
        exact ⟨rfl, (Tn.refl h.out).keep hb2.out⟩
end
end Wd
end Go.Proofs.Ytdaojohdmidemaa

/- The landed memory: Alloc, where there is a cell. -/
namespace Go.Proofs.Ytdaojohdmidemaa
open Go.RowKit Go.Maps
set_option linter.unusedVariables false
set_option maxRecDepth 20000
namespace Wd
section
variable {w w' w1 w2 : World} {p : Nat} {n : Nat → Nat} {B B1 : Nat → Nat → Prop} {mp gw : Nat → Nat} {tb mt : Nat} {T T' : Tst} {M M' : Nat → Mst} {X X' : Nat → Nat → Int} {H H1 H2 : Hst} {i : Int} {s c j : Nat} {cl x0 : Int} {L : List Int}
theorem Newer.mono' {F F' : Nat → Prop} {s t : Nat} (h : Newer F F' t) (hst : s ≤ t) : Newer F F' s := fun k hk => by
  rcases h k hk with h | h
  · exact Or.inl h
  · exact Or.inr (Nat.le_trans hst h)
set_option maxHeartbeats 8000000 in
theorem valloc_yes (h : HQ w p n H B mp gw tb mt X) (cl f : Int) (hb : alcB H cl f = true) :
    Calls Try.prog 7 #[.pointer (some ⟨p, 0, none⟩), .int .i64 cl, .int .i64 f] w fun e w' => e = .returned (.int .i64 (alcI H cl f)) ∧ ∃ X', Tn w w' p n (alcH H cl f) B mp gw tb mt X' := by
  obtain ⟨s, k, i, R, s5, ef, f0, f1, c0, hM, k1, k2, k3, i0, ei, eH⟩ := h.inv.alc_of hb
  obtain ⟨c, rfl⟩ : ∃ c : Nat, i = c := ⟨i.toNat, by omega⟩
  have hr : firstR (H.M s) 0 = (c : Int) := by unfold firstR; rw [hM]
  have few := h.inv.few s s5
  have hn0 : ¬ (n s = 0) := by omega
  have eI : alcI H cl f = takeI H.T ((s : Int), (c : Int)) := by
    unfold alcI alcP
    rw [if_pos hb, ef, show ((s : Int)).toNat = s by simp, hr]
  have eT : (alcH H cl f).T = takeT H.T ((s : Int), (c : Int)) := by
    unfold alcH alcP
    rw [if_pos hb, ef, show ((s : Int)).toNat = s by simp, hr]
  have eM : (alcH H cl f).M = upM H.M s (firstA (H.M s) 0 1) := by rw [eH]
  have PO := Lib.hid (of_c f (by omega) (by omega))
  rw [ef] at PO
  have PP := Lib.hid (Pack_c cl f (s : Int) (by omega) (by omega) (by omega) (by omega) (by omega) (by omega))
  have hok : hok cl f (s : Int) = true := (hok_iff _ _ _).2 ⟨c0, by omega, by omega⟩
  obtain ⟨_, _, q2, _⟩ := pk_open _ _ _ hok
  have q2' : Wd.hs (pk cl f (s : Int)) = (f.toNat : Int) := by rw [q2]; omega
  have pkb := pk_bd cl f (s : Int)
  rw [hok] at PP
  have fit : f.toNat + 2 ≤ wN s := (len_fits s5 (by rw [show ((f.toNat : Nat) : Int) = f by omega]; exact ef)).1
  have PM := Lib.hid (fun (wX : World) (hX : Below w.heap.size w wX) => KM.alloc ((h.keep hX).hp.mill s s5 (by omega)))
  rw [hr] at PM
  have hcm := Lib.hid (fun (wX : World) (hX : Below w.heap.size w wX) => (h.keep hX).hp.cm s s5)
  simp only [if_neg hn0] at hcm
  have hfin : Hid (∀ (wX wY : World) (F' : Nat → Prop), Below w.heap.size w wX → MA wY (mp s) (n s) (firstA (H.M s) 0 1) F' → Ch (B (3 + s)) wX wY → Newer (B (3 + s)) F' wX.heap.size → FV w wY p n H.T (upM H.M s (firstA (H.M s) 0 1)) B mp gw tb mt X) := Lib.hid (fun wX wY F' hX d1 d2 d3 => by
    obtain ⟨a1, a2, a3⟩ := (h.keep hX).hp.mstep s5 (by omega) d1 d2 d3
    exact ⟨_, a1, (below_un hX).trans a2, Newer.mono' a3 hX.size⟩)
  have PWr := Lib.hid (fun (wX : World) (B3 : Nat → Nat → Prop) (h3 : HP wX p n B3 mp gw tb mt H.T (upM H.M s (firstA (H.M s) 0 1)) X) => vwrite_c h3 (c := c) s5 (by omega) few (pk cl f (s : Int)) pkb.1 pkb.2 q2' fit)
  have hpl : plOk ((s : Int), (c : Int)) := ⟨⟨by simp only; omega, by simp only; omega⟩, ⟨by simp only; omega, by simp only; omega⟩⟩
  have PT := Lib.hid (fun (wX : World) (B3 : Nat → Nat → Prop) (X' : Nat → Nat → Int) (h3 : HP wX p n B3 mp gw tb mt H.T (upM H.M s (firstA (H.M s) 0 1)) X') => KT.take ((s : Int), (c : Int)) h3.tbl hpl)
  have hend : Hid (∀ (wX wY : World) (B3 : Nat → Nat → Prop) (X' : Nat → Nat → Int) (F' : Nat → Prop), HP wX p n B3 mp gw tb mt H.T (upM H.M s (firstA (H.M s) 0 1)) X' → TA wY tb (takeT H.T ((s : Int), (c : Int))) F' → Ch (B3 2) wX wY → Newer (B3 2) F' wX.heap.size → X' s (c * wN s) = pk cl f (s : Int) → (∀ m, m < f.toNat → X' s (c * wN s + 2 + m) = 2) → (∀ s' k', ¬ (s' = s ∧ c * wN s ≤ k' ∧ k' < c * wN s + wN s) → X' s' k' = X s' k') → Tn wX wY p n (alcH H cl f) B3 mp gw tb mt X') := Lib.hid (fun wX wY B3 X' F' h3 d1 d2 d3 x1 x2 x3 => by
    obtain ⟨a1, a2, a3⟩ := h3.tstep d1 d2 d3
    rw [← eT, ← eM] at a1
    exact ⟨_, ⟨a1, wr_new h hb ef hr x1 x2 x3, h.inv.alc cl f⟩, a2, a3⟩)
  have hB : ∀ (w1 : World), w1 = w.alloc (.cells #[.int .i64 cl, .int .i64 f, .int .i64 s] 61) → Below w.heap.size w w1 := fun w1 e => by rw [e]; exact (Below.refl _ _).alloc (Nat.le_refl _) _
  replace hB := Lib.hid hB
  rw [eI]
  have cm := h.hp.cm s s5
  rw [if_neg hn0] at cm
  have s5' : (s : Int) < 5 := by omega
  have d1 : decide ((s : Int) < 0) = false := by simp
  have d2 : decide ((c : Int) < 0) = false := by simp
  unfold plV at PWr PT
  simp only at PWr PT
  clear eI eT eM hb eH ei k3 hM hr hok q2 q2' pkb h hn0 hpl ef
  generalize pk cl f (s : Int) = x0 at *
  generalize alcH H cl f = HN at *
  generalize takeI H.T ((s : Int), (c : Int)) = tk at *
  generalize takeT H.T ((s : Int), (c : Int)) = TN at *
  generalize upM H.M s (firstA (H.M s) 0 1) = MN at *
  generalize firstA (H.M s) 0 1 = AN at *
  generalize mp s = ms at *
  go_enter Try.func7, Try.ntmps7
  go_wp2_with (first | (go_at_call 25; ((with_reducible refine (PO.out _).mono ?_); rintro e w1 ⟨rfl, hw1⟩; subst w1)) | (go_at_call 26; ((with_reducible refine (PP.out _).mono ?_); rintro e w2 ⟨rfl, hw2⟩; have hb2 := Lib.hid (hB.out _ hw2); clear hw2; have cm2 := hcm.out _ hb2.out)) | (go_at_call 27; ((with_reducible refine (PM.out _ hb2.out).mono ?_); rintro e w3 ⟨F', he, d1, d2, d3⟩; subst he; obtain ⟨B3, h3, c3, n3⟩ := hfin.out _ _ _ hb2.out d1 d2 d3; have h4 := h3.keep ((Below.refl _ _).alloc (Nat.le_refl _) (.cells #[.int .i64 s, .int .i64 c] 63)); have nb := Lib.hid (fun (hx : un B3 w3.heap.size) => Nat.lt_irrefl _ (h3.ltu _ hx)); have PW2 := Lib.hid (PWr.out _ _ h4); replace c3 := Lib.hid c3; replace n3 := Lib.hid n3; clear d1 d2 d3 h3 h4)))
  clear PM PP PO PWr hfin hcm hB cm cm2
  have b0 : (w3.alloc (.cells #[.int .i64 s, .int .i64 c] 63)).cell? ⟨w3.heap.size, 0, none⟩ = some (.int .i64 s) := by simp
  have b1 : (w3.alloc (.cells #[.int .i64 s, .int .i64 c] 63)).cell? ⟨w3.heap.size, 1, none⟩ = some (.int .i64 c) := by simp
  have hb4 : Below w3.heap.size w3 (w3.alloc (.cells #[.int .i64 s, .int .i64 c] 63)) := (Below.refl _ _).alloc (Nat.le_refl _) _
  have hsz : w3.heap.size < (w3.alloc (.cells #[.int .i64 s, .int .i64 c] 63)).heap.size := by simp only [World.size_alloc]; omega
  generalize w3.alloc (.cells #[.int .i64 s, .int .i64 c] 63) = w4 at *
  replace hb4 := Lib.hid hb4
  go_wp2_with (first | (go_at_call 28; ((with_reducible refine (PW2.out).mono ?_); rintro e w5 ⟨rfl, X', g1, g2, g3, g4, g5⟩)))
  have e5 := g2.block w3.heap.size hsz nb.out
  have r0 := (World.cell?_of_block (a := ⟨w3.heap.size, 0, none⟩) e5).trans b0
  have r1 := (World.cell?_of_block (a := ⟨w3.heap.size, 1, none⟩) e5).trans b1
  have ct5 := g1.ct
  have g6 : HP w5.drew p n B3 mp gw tb mt H.T MN X' := g1.keep (Below.refl _ _).drew
  have PT2 := Lib.hid (PT.out _ _ _ g6)
  have hE := Lib.hid (fun wY F' d1 d2 d3 => hend.out _ wY _ _ F' g6 d1 d2 d3 g3 g4 g5)
  have g2' : Ch (un B3) w4 w5.drew := g2.trans (below_un (Below.refl _ _).drew)
  replace g2' := Lib.hid g2'
  clear b0 b1 e5 g1 g2 g3 g4 g5 g6 PT hend PW2
  go_still_tail 5, (by kernel_rfl)
  go_wp2_with (first | (go_at_call 29; ((with_reducible refine (PT2.out).mono ?_); rintro e w6 ⟨F', he, d1, d2, d3⟩; subst he; have hT := Lib.hid (hE.out _ _ d1 d2 d3); clear d1 d2 d3)))
  go_ret
  refine ⟨rfl, X', tn_then c3.out n3.out (Tn.pre hb4.out (tn_then g2'.out (newer_refl9 _ _) hT.out))⟩
end
end Wd
end Go.Proofs.Ytdaojohdmidemaa

/- The landed memory: it is made. -/
namespace Go.Proofs.Ytdaojohdmidemaa
open Go.RowKit Go.Maps
set_option linter.unusedVariables false
set_option maxRecDepth 20000
namespace Wd
theorem index5 (n : Nat → Nat) {s : Nat} (hs : s < 5) (w : World) : (Instr.index 25 (.agg #[.int .i64 (n 0 : Nat), .int .i64 (n 1 : Nat), .int .i64 (n 2 : Nat), .int .i64 (n 3 : Nat), .int .i64 (n 4 : Nat)]) (.int .i64 (s : Int))).run Try.prog w = .ok (.int .i64 (n s : Nat)) w := by
  rcases (show s = 0 ∨ s = 1 ∨ s = 2 ∨ s = 3 ∨ s = 4 by omega) with rfl | rfl | rfl | rfl | rfl <;> kernel_rfl
theorem upB_ap2 {B : Nat → Nat → Prop} {i0 : Nat} {F' : Nat → Prop} (ap : ∀ i j k, B i k → B j k → i = j) (hn : ∀ k, F' k → ¬ un B k) : ∀ i j k, upB B i0 F' i k → upB B i0 F' j k → i = j := by
  intro i j k h1 h2
  unfold upB at h1 h2
  split at h1
  · split at h2
    · omega
    · exact absurd ⟨_, h2⟩ (hn k h1)
  · split at h2
    · exact absurd ⟨_, h1⟩ (hn k h2)
    · exact ap _ _ k h1 h2
/-- while it is made: km mills, kw rows of words are there -/
structure NV (w : World) (n : Nat → Nat) (p tb mt : Nat) (km kw : Nat) (wr : World) (B : Nat → Nat → Prop) (mp gw : Nat → Nat) : Prop where
  bel : Below w.heap.size w wr
  far : ∀ i j, B i j → w.heap.size ≤ j
  cm : ∀ s, s < 5 → wr.cell? ⟨p, s, none⟩ = some (.pointer (if s < km then mv n mp s else none))
  ce : ∀ s, s < 5 → kw ≤ s → ∃ v, wr.cell? ⟨p, 5 + s, none⟩ = some v
  cw : ∀ s, s < 5 → s < kw → 1 ≤ n s → wr.cell? ⟨p, 5 + s, none⟩ = some (.slice (some ⟨gw s, 0, none⟩) (n s * wN s) (n s * wN s))
  ct : wr.cell? ⟨p, 10, none⟩ = some (.pointer (some ⟨tb, 0, none⟩))
  cc : wr.cell? ⟨p, 11, none⟩ = some (.pointer (some ⟨mt, 0, none⟩))
  zp : ∀ k, wr.frozen? ⟨p, k, none⟩ = false
  bp : B 0 p
  bm : B 1 mt
  bg : ∀ s, s < 5 → s < kw → 1 ≤ n s → B (8 + s) (gw s)
  mill : ∀ s, s < 5 → s < km → 1 ≤ n s → MA wr (mp s) (n s) (startA (n s)) (B (3 + s))
  tbl : TA wr tb noT (B 2)
  met : Mt wr mt
  row : ∀ s, s < 5 → s < kw → ∀ k, k < n s * wN s → wr.cell? ⟨gw s, k, none⟩ = some (.int .u32 0)
  zg : ∀ s, s < 5 → s < kw → 1 ≤ n s → ∀ k, wr.frozen? ⟨gw s, k, none⟩ = false
  ap : ∀ i j k, B i k → B j k → i = j
  lt : ∀ i k, B i k → k < wr.heap.size
section
variable {w wr w1 : World} {n : Nat → Nat} {p tb mt km kw k q g : Nat} {B : Nat → Nat → Prop} {mp gw : Nat → Nat} {F' : Nat → Prop}
theorem NV.keep (h : NV w n p tb mt km kw wr B mp gw) (hb : Below wr.heap.size wr w1) : NV w n p tb mt km kw w1 B mp gw := by
  have hk : ∀ i k, B i k → w1.heap[k]? = wr.heap[k]? := fun i k hB => hb.block k (h.lt i k hB)
  have e0 := hk 0 p h.bp
  refine ⟨h.bel.trans (hb.mono h.bel.size), h.far, fun s hs => (World.cell?_of_block (a := ⟨p, s, none⟩) e0).trans (h.cm s hs), fun s hs hw => ?_, fun s hs hw hn => (World.cell?_of_block (a := ⟨p, 5 + s, none⟩) e0).trans (h.cw s hs hw hn), (World.cell?_of_block (a := ⟨p, 10, none⟩) e0).trans h.ct, (World.cell?_of_block (a := ⟨p, 11, none⟩) e0).trans h.cc,
    fun k => (World.frozen?_of_block (a := ⟨p, k, none⟩) e0).trans (h.zp k), h.bp, h.bm, h.bg, fun s hs hm hn => KM.keep (h.mill s hs hm hn) (fun k hB => hk _ k hB), KT.keep h.tbl (fun k hB => hk _ k hB), h.met.same (hk 1 mt h.bm), fun s hs hw k hkk => ?_, fun s hs hw hn k => ?_, h.ap, fun i k hB => Nat.lt_of_lt_of_le (h.lt i k hB) hb.size⟩
  · obtain ⟨v, hv⟩ := h.ce s hs hw
    exact ⟨v, (World.cell?_of_block (a := ⟨p, 5 + s, none⟩) e0).trans hv⟩
  · exact (World.cell?_of_block (a := ⟨gw s, k, none⟩) (hk _ _ (h.bg s hs hw (n_pos hkk)))).trans (h.row s hs hw k hkk)
  · exact (World.frozen?_of_block (a := ⟨gw s, k, none⟩) (hk _ _ (h.bg s hs hw hn))).trans (h.zg s hs hw hn k)
/-- a cell of the memory's own block is written -/
theorem NV.own (h : NV w n p tb mt km kw wr B mp gw) {o : Nat} {v : Value} {i j : Nat} (hB : B i j) (hi : i ≠ 0) : (wr.setCell ⟨p, o, none⟩ v).heap[j]? = wr.heap[j]? :=
  Below.heap_setCell _ _ _ _ (fun e => hi (h.ap i 0 j hB (by rw [e]; exact h.bp)))
theorem NV.off (h : NV w n p tb mt km kw wr B mp gw) {o o' : Nat} {v : Value} (hne : o' ≠ o) : (wr.setCell ⟨p, o, none⟩ v).cell? ⟨p, o', none⟩ = wr.cell? ⟨p, o', none⟩ :=
  World.cell?_setCell_other _ _ _ _ (by intro e; injection e with _ h2; exact hne h2.symm)
theorem NV.bel' (h : NV w n p tb mt km kw wr B mp gw) (o : Nat) (v : Value) : Below w.heap.size w (wr.setCell ⟨p, o, none⟩ v) := below_set h.bel (h.far 0 p h.bp) _
theorem NV.mil (h : NV w n p tb mt k kw wr B mp gw) (hk : k < 5) (hn : 1 ≤ n k) (hM : MA wr q (n k) (startA (n k)) F') (hd : ∀ j, F' j → ¬ un B j) (hf : ∀ j, F' j → w.heap.size ≤ j) :
    NV w n p tb mt (k + 1) kw (wr.setCell ⟨p, k, none⟩ (.pointer (some ⟨q, 0, none⟩))) (upB B (3 + k) F') (upN mp k q) gw := by
  have ne : ∀ {j : Nat}, j ≠ 3 + k → upB B (3 + k) F' j = B j := fun hne => by unfold upB; rw [if_neg hne]
  have hp0 : ∀ j, F' j → j ≠ p := fun j hj e => hd j hj ⟨0, by rw [e]; exact h.bp⟩
  refine ⟨h.bel' _ _, fun i j hij => ?_, fun s hs => ?_, fun s hs hw => ?_, fun s hs hw hns => (h.off (by omega)).trans (h.cw s hs hw hns), (h.off (by omega)).trans h.ct, (h.off (by omega)).trans h.cc, fun k => by rw [World.frozen?_setCell]; exact h.zp k, ?_, ?_, fun s hs hw hns => ?_, fun s hs hm hns => ?_, ?_, ?_, fun s hs hw j hj => ?_, fun s hs hw hns j => by rw [World.frozen?_setCell]; exact h.zg s hs hw hns j, upB_ap2 h.ap hd, fun i j hij => ?_⟩
  · unfold upB at hij
    split at hij
    · exact hf j hij
    · exact h.far i j hij
  · by_cases e : s = k
    · subst e
      rw [World.cell?_setCell_same _ _ _ (h.cm s hs), if_pos (by omega)]
      unfold mv upN
      rw [if_neg (by omega), if_pos rfl]
    · rw [h.off e, h.cm s hs]
      by_cases e2 : s < k
      · rw [if_pos e2, if_pos (by omega)]
        unfold mv upN
        rw [if_neg e]
      · rw [if_neg e2, if_neg (by omega)]
  · obtain ⟨v, hv⟩ := h.ce s hs hw
    exact ⟨v, (h.off (by omega)).trans hv⟩
  · rw [ne (by omega)]; exact h.bp
  · rw [ne (by omega)]; exact h.bm
  · rw [ne (by omega)]; exact h.bg s hs hw hns
  · unfold upN
    by_cases e : s = k
    · subst e
      rw [if_pos rfl]
      unfold upB
      rw [if_pos rfl]
      exact KM.keep hM (fun j hj => Below.heap_setCell _ _ _ _ (hp0 j hj))
    · rw [if_neg e, ne (by omega)]
      exact KM.keep (h.mill s hs (by omega) hns) (fun j hj => h.own hj (by omega))
  · rw [ne (by omega)]
    exact KT.keep h.tbl (fun j hj => h.own hj (by omega))
  · exact h.met.same (h.own h.bm (by omega))
  · exact (World.cell?_of_block (a := ⟨gw s, j, none⟩) (h.own (h.bg s hs hw (n_pos hj)) (by omega))).trans (h.row s hs hw j hj)
  · rw [World.size_setCell]
    unfold upB at hij
    split at hij
    · exact KM.lt hM j hij
    · exact h.lt i j hij
theorem NV.nomil (h : NV w n p tb mt k kw wr B mp gw) (hk : k < 5) (hn : n k = 0) : NV w n p tb mt (k + 1) kw (wr.setCell ⟨p, k, none⟩ (.pointer none)) B mp gw := by
  refine ⟨h.bel' _ _, h.far, fun s hs => ?_, fun s hs hw => ?_, fun s hs hw hns => (h.off (by omega)).trans (h.cw s hs hw hns), (h.off (by omega)).trans h.ct, (h.off (by omega)).trans h.cc, fun k => by rw [World.frozen?_setCell]; exact h.zp k, h.bp, h.bm, h.bg, fun s hs hm hns => ?_, ?_, ?_, fun s hs hw j hj => ?_, fun s hs hw hns j => by rw [World.frozen?_setCell]; exact h.zg s hs hw hns j, h.ap, fun i j hij => by rw [World.size_setCell]; exact h.lt i j hij⟩
  · by_cases e : s = k
    · subst e
      rw [World.cell?_setCell_same _ _ _ (h.cm s hs), if_pos (by omega)]
      unfold mv
      rw [if_pos hn]
    · rw [h.off e, h.cm s hs]
      by_cases e2 : s < k
      · rw [if_pos e2, if_pos (by omega)]
      · rw [if_neg e2, if_neg (by omega)]
  · obtain ⟨v, hv⟩ := h.ce s hs hw
    exact ⟨v, (h.off (by omega)).trans hv⟩
  · have : s ≠ k := fun e => by subst e; omega
    exact KM.keep (h.mill s hs (by omega) hns) (fun j hj => h.own hj (by omega))
  · exact KT.keep h.tbl (fun j hj => h.own hj (by omega))
  · exact h.met.same (h.own h.bm (by omega))
  · exact (World.cell?_of_block (a := ⟨gw s, j, none⟩) (h.own (h.bg s hs hw (n_pos hj)) (by omega))).trans (h.row s hs hw j hj)
theorem NV.rows (h : NV w n p tb mt km k wr B mp gw) (hk : k < 5) (hr : ∀ j, j < n k * wN k → wr.cell? ⟨g, j, none⟩ = some (.int .u32 0)) (hz : ∀ j, wr.frozen? ⟨g, j, none⟩ = false) (hd : ¬ un B g) (hf : w.heap.size ≤ g) (hl : g < wr.heap.size) :
    NV w n p tb mt km (k + 1) (wr.setCell ⟨p, 5 + k, none⟩ (.slice (some ⟨g, 0, none⟩) (n k * wN k) (n k * wN k))) (upB B (8 + k) (fun j => j = g)) mp (upN gw k g) := by
  have ne : ∀ {j : Nat}, j ≠ 8 + k → upB B (8 + k) (fun j => j = g) j = B j := fun hne => by unfold upB; rw [if_neg hne]
  have hgp : g ≠ p := fun e => hd ⟨0, by rw [e]; exact h.bp⟩
  refine ⟨h.bel' _ _, fun i j hij => ?_, fun s hs => (h.off (by omega)).trans (h.cm s hs), fun s hs hw => ?_, fun s hs hw hns => ?_, (h.off (by omega)).trans h.ct, (h.off (by omega)).trans h.cc, fun k => by rw [World.frozen?_setCell]; exact h.zp k, ?_, ?_, fun s hs hw hns => ?_, fun s hs hm hns => ?_, ?_, ?_, fun s hs hw j hj => ?_, fun s hs hw hns j => ?_, upB_ap2 h.ap (fun j hj => by subst hj; exact hd), fun i j hij => ?_⟩
  · unfold upB at hij
    split at hij
    · subst hij; exact hf
    · exact h.far i j hij
  · obtain ⟨v, hv⟩ := h.ce s hs (by omega)
    exact ⟨v, (h.off (by omega)).trans hv⟩
  · by_cases e : s = k
    · subst e
      obtain ⟨v, hv⟩ := h.ce s hs (by omega)
      unfold upN
      rw [if_pos rfl]
      exact World.cell?_setCell_same _ _ _ hv
    · unfold upN
      rw [if_neg e]
      exact (h.off (by omega)).trans (h.cw s hs (by omega) hns)
  · rw [ne (by omega)]; exact h.bp
  · rw [ne (by omega)]; exact h.bm
  · unfold upN
    by_cases e : s = k
    · subst e; rw [if_pos rfl]; unfold upB; rw [if_pos rfl]
    · rw [if_neg e, ne (by omega)]; exact h.bg s hs (by omega) hns
  · rw [ne (by omega)]
    exact KM.keep (h.mill s hs hm hns) (fun j hj => h.own hj (by omega))
  · rw [ne (by omega)]
    exact KT.keep h.tbl (fun j hj => h.own hj (by omega))
  · exact h.met.same (h.own h.bm (by omega))
  · unfold upN
    by_cases e : s = k
    · subst e
      rw [if_pos rfl]
      exact (World.cell?_of_block (a := ⟨g, j, none⟩) (Below.heap_setCell _ _ _ _ hgp)).trans (hr j hj)
    · rw [if_neg e]
      exact (World.cell?_of_block (a := ⟨gw s, j, none⟩) (h.own (h.bg s hs (by omega) (n_pos hj)) (by omega))).trans (h.row s hs (by omega) j hj)
  · rw [World.frozen?_setCell]
    unfold upN
    by_cases e : s = k
    · subst e; rw [if_pos rfl]; exact hz j
    · rw [if_neg e]; exact h.zg s hs (by omega) hns j
  · rw [World.size_setCell]
    unfold upB at hij
    split at hij
    · subst hij; exact hl
    · exact h.lt i j hij
theorem NV.fin (h : NV w n p tb mt 5 5 wr B mp gw) (few : ∀ s, s < 5 → n s ≤ 512) (sum : n 0 + (n 1 + (n 2 + (n 3 + n 4))) ≤ 1020) : HQ wr p n (newH n) B mp gw tb mt (fun _ _ => 0) := by
  refine ⟨⟨fun s hs => ?_, fun s hs hn => h.cw s hs hs hn, h.ct, h.cc, h.bp, h.bm, fun s hs hn => h.bg s hs hs hn, fun s hs hn => h.mill s hs hs hn, h.tbl, h.met, fun s hs k hk => h.row s hs hs k hk, fun s hs hn k => h.zg s hs hs hn k, fun s k => by omega, h.ap, h.lt⟩, fun k s c hT => (by cases hT), HInv.new n few sum⟩
  have := h.cm s hs
  rw [if_pos hs] at this
  exact this
/-- the blocks of a memory without mills -/
def B0 (p mt : Nat) (F1 : Nat → Prop) : Nat → Nat → Prop := fun i k => if i = 0 then k = p else if i = 1 then k = mt else if i = 2 then F1 k else False
theorem NV.begin {w1 w2 : World} {F1 : Nat → Prop} (hb1 : Below w.heap.size w w1) (hT : TA w1 tb noT F1) (hF : ∀ k, F1 k → w.heap.size ≤ k) (hm : Mt w2 mt) (hmt : mt = w1.heap.size) (hb2 : Below w1.heap.size w1 w2) :
    NV w n w2.heap.size tb mt 0 0 (w2.alloc (.cells #[.pointer none, .pointer none, .pointer none, .pointer none, .pointer none, .slice none 0 0, .slice none 0 0, .slice none 0 0, .slice none 0 0, .slice none 0 0, .pointer (some ⟨tb, 0, none⟩), .pointer (some ⟨mt, 0, none⟩)] 57)) (B0 w2.heap.size mt F1) (fun _ => 0) (fun _ => 0) := by
  have hm2 : mt < w2.heap.size := by
    obtain ⟨⟨a, b, h1, _⟩, _⟩ := hm
    exact World.block_lt_of_cell? w2 _ h1
  have hF2 : ∀ k, F1 k → k < w1.heap.size := KT.lt hT
  have hs := hb2.size
  have hs1 := hb1.size
  have hB12 : Below w.heap.size w w2 := hb1.trans (hb2.mono hs1)
  have hal : ∀ o : Obj, Below w2.heap.size w2 (w2.alloc o) := fun o => (Below.refl _ _).alloc (Nat.le_refl _) _
  refine ⟨hB12.trans ((hal _).mono hB12.size), fun i j hij => ?_, fun s h5 => ?_, fun s h5 _ => ?_, fun s h5 h0 => absurd h0 (by omega), by simp, by simp, fun k => by simp, by unfold B0; rw [if_pos rfl], by unfold B0; rw [if_neg (by omega), if_pos rfl], fun s h5 h0 => absurd h0 (by omega), fun s h5 h0 => absurd h0 (by omega), ?_, ?_, fun s h5 h0 => absurd h0 (by omega), fun s h5 h0 => absurd h0 (by omega), fun i j k h1 h2 => ?_, fun i j hij => ?_⟩
  · unfold B0 at hij
    split at hij
    · omega
    · split at hij
      · omega
      · split at hij
        · exact hF j hij
        · exact hij.elim
  · rcases (show s = 0 ∨ s = 1 ∨ s = 2 ∨ s = 3 ∨ s = 4 by omega) with rfl | rfl | rfl | rfl | rfl <;> simp
  · rcases (show s = 0 ∨ s = 1 ∨ s = 2 ∨ s = 3 ∨ s = 4 by omega) with rfl | rfl | rfl | rfl | rfl <;> exact ⟨_, by simp; rfl⟩
  · have e : B0 w2.heap.size mt F1 2 = F1 := by unfold B0; funext k; rw [if_neg (by omega), if_neg (by omega), if_pos rfl]
    rw [e]
    refine KT.keep hT (fun k hk => ?_)
    have := hF2 k hk
    exact ((hal _).block k (by omega)).trans (hb2.block k this)
  · exact hm.same ((hal _).block mt hm2)
  · unfold B0 at h1 h2
    have f1 : F1 k → k < w1.heap.size := hF2 k
    by_cases a0 : i = 0 <;> by_cases b0 : j = 0
    · omega
    · rw [if_pos a0] at h1; rw [if_neg b0] at h2
      split at h2
      · omega
      · split at h2
        · have := f1 h2; omega
        · exact h2.elim
    · rw [if_neg a0] at h1; rw [if_pos b0] at h2
      split at h1
      · omega
      · split at h1
        · have := f1 h1; omega
        · exact h1.elim
    · rw [if_neg a0] at h1; rw [if_neg b0] at h2
      by_cases a1 : i = 1 <;> by_cases b1 : j = 1
      · omega
      · rw [if_pos a1] at h1; rw [if_neg b1] at h2
        split at h2
        · have := f1 h2; omega
        · exact h2.elim
      · rw [if_neg a1] at h1; rw [if_pos b1] at h2
        split at h1
        · have := f1 h1; omega
        · exact h1.elim
      · rw [if_neg a1] at h1; rw [if_neg b1] at h2
        split at h1
        · split at h2
          · omega
          · exact h2.elim
        · exact h1.elim
  · rw [World.size_alloc]
    unfold B0 at hij
    split at hij
    · omega
    · split at hij
      · omega
      · split at hij
        · have := hF2 j hij; omega
        · exact hij.elim
set_option maxHeartbeats 16000000 in
theorem vnew_none {w : World} (p : Int) (hp : i64 p) : Calls Try.prog 6 #[cfgV (fun _ => 0) p] w fun e w' => e = .returned (.pointer .none) ∧ Below w.heap.size w w' := by
  have PR := Lib.hid (right_c 0 0 0 0 0 p (by omega) (by omega) (by omega) (by omega) (by omega) (by omega) (by omega) (by omega) (by omega) (by omega) hp.1 hp.2)
  have er : rt 0 0 0 0 0 p = 18 := by unfold rt; simp
  rw [er] at PR
  show Calls Try.prog 6 #[.agg #[.int .i64 0, .int .i64 0, .int .i64 0, .int .i64 0, .int .i64 0, .int .i64 p]] w _
  have hal : ∀ o : Obj, Below w.heap.size w (w.alloc o) := fun o => (Below.refl _ _).alloc (Nat.le_refl _) _
  replace hal := Lib.hid hal
  go_enter Try.func6, Try.ntmps6
  go_wp2_with (first | (go_at_call 20; ((with_reducible refine (PR.out _).mono ?_); rintro e w1 ⟨rfl, hw1⟩; subst w1)))
  go_ret
  exact ⟨rfl, (hal.out _).trans (((Below.refl _ _).alloc (Nat.le_refl _) _).mono (hal.out _).size)⟩
set_option maxHeartbeats 16000000 in
theorem vnew_c {w : World} (n : Nat → Nat) (p : Int) (few : ∀ s, s < 5 → n s ≤ 512) (sum1 : 1 ≤ n 0 + (n 1 + (n 2 + (n 3 + n 4)))) (sum : n 0 + (n 1 + (n 2 + (n 3 + n 4))) ≤ 1020) (p1 : 1 ≤ p) (p2 : p ≤ 16) :
    Calls Try.prog 6 #[cfgV n p] w fun e w' => ∃ q F, e = .returned (.pointer (some ⟨q, 0, none⟩)) ∧ HA w' q n (newH n) F ∧ (∀ k, F k → w.heap.size ≤ k) ∧ Below w.heap.size w w' := by
  have h0 := few 0 (by omega)
  have h1 := few 1 (by omega)
  have h2 := few 2 (by omega)
  have h3 := few 3 (by omega)
  have h4 := few 4 (by omega)
  have PR := Lib.hid (right_c (n 0 : Nat) (n 1 : Nat) (n 2 : Nat) (n 3 : Nat) (n 4 : Nat) p (by omega) (by omega) (by omega) (by omega) (by omega) (by omega) (by omega) (by omega) (by omega) (by omega) (by omega) (by omega))
  have er : rt (n 0 : Nat) (n 1 : Nat) (n 2 : Nat) (n 3 : Nat) (n 4 : Nat) p = 0 := (rt_zero _ _ _ _ _ _).2 (by omega)
  rw [er] at PR
  have hix := Lib.hid (fun (s : Nat) (hs : s < 5) (w : World) => index5 n hs w)
  unfold cfgV
  have hal : ∀ (w : World) (o : Obj), Below w.heap.size w (w.alloc o) := fun w o => (Below.refl _ _).alloc (Nat.le_refl _) _
  replace hal := Lib.hid hal
  clear er h0 h1 h2 h3 h4 sum1 p1 p2
  go_enter Try.func6, Try.ntmps6
  go_wp2_with (first | (go_at_call 20; ((with_reducible refine (PR.out _).mono ?_); rintro e w1 ⟨rfl, hw1⟩; subst w1)))
  have q : ∀ j, j < 5 → ((w.alloc (.cells #[.int .i64 (n 0 : Nat), .int .i64 (n 1 : Nat), .int .i64 (n 2 : Nat), .int .i64 (n 3 : Nat), .int .i64 (n 4 : Nat), .int .i64 p] 27)).alloc (.cells #[.int .i64 (n 0 : Nat), .int .i64 (n 1 : Nat), .int .i64 (n 2 : Nat), .int .i64 (n 3 : Nat), .int .i64 (n 4 : Nat), .int .i64 p] 27)).cell? ⟨w.heap.size, j, none⟩ = some (.int .i64 (n j : Nat)) := fun j hj => by
    rcases (show j = 0 ∨ j = 1 ∨ j = 2 ∨ j = 3 ∨ j = 4 by omega) with rfl | rfl | rfl | rfl | rfl <;> simp
  have hbW := (hal.out w (.cells #[.int .i64 (n 0 : Nat), .int .i64 (n 1 : Nat), .int .i64 (n 2 : Nat), .int .i64 (n 3 : Nat), .int .i64 (n 4 : Nat), .int .i64 p] 27)).trans ((hal.out (w.alloc (.cells #[.int .i64 (n 0 : Nat), .int .i64 (n 1 : Nat), .int .i64 (n 2 : Nat), .int .i64 (n 3 : Nat), .int .i64 (n 4 : Nat), .int .i64 p] 27)) (.cells #[.int .i64 (n 0 : Nat), .int .i64 (n 1 : Nat), .int .i64 (n 2 : Nat), .int .i64 (n 3 : Nat), .int .i64 (n 4 : Nat), .int .i64 p] 27)).mono (hal.out w _).size)
  have hlw : w.heap.size < ((w.alloc (.cells #[.int .i64 (n 0 : Nat), .int .i64 (n 1 : Nat), .int .i64 (n 2 : Nat), .int .i64 (n 3 : Nat), .int .i64 (n 4 : Nat), .int .i64 p] 27)).alloc (.cells #[.int .i64 (n 0 : Nat), .int .i64 (n 1 : Nat), .int .i64 (n 2 : Nat), .int .i64 (n 3 : Nat), .int .i64 (n 4 : Nat), .int .i64 p] 27)).heap.size := by simp only [World.size_alloc]; omega
  generalize (w.alloc (.cells #[.int .i64 (n 0 : Nat), .int .i64 (n 1 : Nat), .int .i64 (n 2 : Nat), .int .i64 (n 3 : Nat), .int .i64 (n 4 : Nat), .int .i64 p] 27)).alloc (.cells #[.int .i64 (n 0 : Nat), .int .i64 (n 1 : Nat), .int .i64 (n 2 : Nat), .int .i64 (n 3 : Nat), .int .i64 (n 4 : Nat), .int .i64 p] 27) = w1 at *
  with_reducible refine KT.new.mono ?_
  rintro e w2 ⟨tb, F1, rfl, t1, t2, t3⟩
  have q2 : ∀ j, j < 5 → w2.cell? ⟨w.heap.size, j, none⟩ = some (.int .i64 (n j : Nat)) := fun j hj => (t3.cell hlw).trans (q j hj)
  have hb2 := hbW.trans (t3.mono hbW.size)
  have hF1 : ∀ k, F1 k → w.heap.size ≤ k := fun k hk => Nat.le_trans hbW.size (t2 k hk)
  have hl2 : w.heap.size < w2.heap.size := Nat.lt_of_lt_of_le hlw t3.size
  replace hb2 := Lib.hid hb2
  replace hF1 := Lib.hid hF1
  replace t1 := Lib.hid t1
  clear t2 t3 hbW q PR hlw
  go_wp2_with (first | (go_at_call 22; ((with_reducible refine (cnew_c _).mono ?_); rintro e w3 ⟨mt, rfl, m1, m2, m3⟩; have S0 := Lib.hid (NV.begin (n := n) hb2.out t1.out hF1.out m1 m2 m3); have q3 : ∀ (o : Obj) j, j < 5 → (w3.alloc o).cell? ⟨w.heap.size, j, none⟩ = some (.int .i64 (n j : Nat)) := (fun o j hj => ((hal.out w3 o).cell (Nat.lt_of_lt_of_le hl2 m3.size)).trans ((m3.cell hl2).trans (q2 j hj))); have c0 := fun o => q3 o 0 (by omega); have c1 := fun o => q3 o 1 (by omega); have c2 := fun o => q3 o 2 (by omega); have c3 := fun o => q3 o 3 (by omega); have c4 := fun o => q3 o 4 (by omega); replace q3 := Lib.hid q3; replace m2 := Lib.hid m2; clear m1 m3)))
  replace q2 := Lib.hid q2
  clear c0 c1 c2 c3 c4 q3 hl2 hb2 hF1 t1 q2
  generalize w3.alloc (.cells #[.pointer none, .pointer none, .pointer none, .pointer none, .pointer none, .slice none 0 0, .slice none 0 0, .slice none 0 0, .slice none 0 0, .slice none 0 0, .pointer (some ⟨tb, 0, none⟩), .pointer (some ⟨mt, 0, none⟩)] 57) = w4 at *
  generalize w3.heap.size = P at *
  obtain ⟨i0, hi0, hz0, hz1, hz2⟩ := info_parts infoW
  have hmk : Hid (∀ m : Nat, m ≤ 32768 → ∀ w, (Instr.makeSlice 36 (.int .i64 (m : Int)) (.int .i64 (m : Int))).run Try.prog w = .ok (.slice (some ⟨w.heap.size, 0, none⟩) m m) (w.alloc (.cells (madeCells #[.int .u32 0] m) 29))) := Lib.hid (fun m hm w => by
    have := run_make (P := Try.prog) w 36 29 i0 (.int .u32 0) Try.underlying36 hi0 hz0 .i64 .i64 m m (by omega) (by omega) (by rw [hz2]; omega) (by omega)
    rw [hz1] at this
    simpa [Value.cells] using this)
  clear hi0 hz0 hz1 hz2
  go_loopw [15] (fun i' wr => ∃ k : Nat, k ≤ 5 ∧ i' = .int .i64 k ∧ ∃ B mp gw, NV w n P tb mt k k wr B mp gw) (fun i' _ => 5 - (intOf i').toNat)
  case atStart => exact ⟨0, by omega, rfl, _, _, _, S0.out⟩
  case round =>
    clear S0
    obtain ⟨k, hk, rfl, B, mp, gw, hR⟩ := hrel
    by_cases hlt : k < 5
    · have hlt5 : decide ((k : Int) < 5) = true := by simp; omega
      have hlt5' : (k : Int) < 5 := by omega
      have hw1 : IntKind.i64.wrap ((k : Int) + 1) = (k : Int) + 1 := by rw [IntKind.wrap_i64]; omega
      have hx := hix.out k hlt wr
      have hfew := few k hlt
      have hcx : Hid (∀ wX, Below wr.heap.size wr wX → wX.cell? ⟨P, k, none⟩ = some (.pointer none) ∧ wX.frozen? ⟨P, k, none⟩ = false) := Lib.hid (fun wX hb => by
        have h := hR.keep hb
        have := h.cm k hlt
        rw [if_neg (by omega)] at this
        exact ⟨this, h.zp k⟩)
      by_cases h0 : n k = 0
      · have PN := Lib.hid (fun (wX : World) => KM.none (w := wX) (n k : Nat) (by omega) (by omega) (Or.inl (by omega)))
        have hnx : Hid (∀ wX, Below wr.heap.size wr wX → NV w n P tb mt (k + 1) k (wX.setCell ⟨P, k, none⟩ (.pointer none)) B mp gw) := Lib.hid (fun wX hb => (hR.keep hb).nomil hlt h0)
        clear hR h0
        go_wp2
        go_region_with (first | (go_at_call 23; ((with_reducible refine (PN.out _).mono ?_); rintro e w5 ⟨rfl, hb5⟩; have hb5' : Below wr.heap.size wr w5 := ⟨hb5.os, hb5.tape, hb5.output, hb5.size, hb5.block⟩; obtain ⟨x1, z1⟩ := hcx.out w5 hb5')))
        have hN1 := hnx.out _ hb5'
        have hPl : P < (w5.setCell ⟨P, k, none⟩ (.pointer none)).heap.size := hN1.lt _ _ hN1.bp
        obtain ⟨v0, x2⟩ := hN1.ce k hlt (Nat.le_refl _)
        have z2 := hN1.zp (5 + k)
        clear x1 z1 hb5 hb5' hnx PN hcx
        replace hN1 := Lib.hid hN1
        generalize w5.setCell ⟨P, k, none⟩ (.pointer none) = w6 at *
        have PW := Lib.hid (words_c (k : Int) (by omega) (by omega))
        rw [wd_wN hlt] at PW
        have hWb := wN_bd hlt
        have hmb : n k * wN k ≤ 32768 := Nat.mul_le_mul hfew hWb.2
        have hml : IntKind.i64.wrap ((n k : Int) * (wN k : Int)) = ((n k * wN k : Nat) : Int) := by rw [← Int.natCast_mul, IntKind.wrap_i64]; omega
        have hmk2 := hmk.out _ hmb
        have hnx2 : Hid (∀ (g : Nat) (Z : Array Value), Z = madeCells #[.int .u32 0] (n k * wN k) → g = w6.heap.size → NV w n P tb mt (k + 1) (k + 1) ((w6.alloc (.cells Z 29)).setCell ⟨P, 5 + k, none⟩ (.slice (some ⟨g, 0, none⟩) (n k * wN k) (n k * wN k))) (upB B (8 + k) (fun j => j = g)) mp (upN gw k g)) := Lib.hid (fun g Z hZ hg => by
          subst hg
          refine (hN1.out.keep ((Below.refl _ _).alloc (Nat.le_refl _) _)).rows hlt (fun j hj => ?_) (fun j => by simp) (fun ⟨i, hi⟩ => Nat.lt_irrefl _ (hN1.out.lt i _ hi)) (hN1.out.bel.size) (by simp)
          have : (madeCells #[Value.int .u32 0] (n k * wN k)).toList[j]? = some (.int .u32 0) := by rw [toList_madeCells_one]; simp [hj]
          rw [hZ]
          simp only [World.cell?, heap_alloc_new]
          rw [← Array.getElem?_toList, this]
          rfl)
        obtain ⟨Z, hZ⟩ : ∃ Z, Z = madeCells #[.int .u32 0] (n k * wN k) := ⟨_, rfl⟩
        rw [← hZ] at hmk2
        have hnx3 := Lib.hid (fun g hg => hnx2.out g Z hZ hg)
        clear hN1 hnx2 hZ
        generalize n k * wN k = N at *
        generalize wN k = W at *
        go_wp2
        go_region_with (first | (go_at_call 24; ((with_reducible refine (PW.out _).mono ?_); rintro e w7 ⟨rfl, hw7⟩; subst w7)))
        have hN2 := hnx3.out w6.heap.size rfl
        rw [World.setCell_alloc_past _ _ _ _ hPl] at hN2
        have hN3 := hN2.keep (Below.refl _ _).drew
        generalize ((w6.setCell ⟨P, 5 + k, none⟩ (.slice (some ⟨w6.heap.size, 0, none⟩) N N)).alloc (.cells Z 29)).drew = w8 at *
        replace hN3 := Lib.hid hN3
        clear hN2 hnx3 hmk2 PW x2 z2 hml hmb
        generalize w6.heap.size = g6 at *
        (try simp only [Exit.inBlock, Exit.then])
        go_wp2
        go_roundw
        case rel => exact ⟨k + 1, by omega, by go_num, _, _, _, hN3.out⟩
        case measure => simp [intOf]; omega
      · have PN := Lib.hid (fun (wX : World) => KM.new (w := wX) (n k) (by omega) hfew)
        have hlB := Lib.hid (fun i j hB => hR.lt i j hB)
        have hsz := hR.bel.size
        have hnx0 : Hid (∀ wX q5 F5, Below wr.heap.size wr wX → MA wX q5 (n k) (startA (n k)) F5 → (∀ j, F5 j → wr.heap.size ≤ j) → NV w n P tb mt (k + 1) k (wX.setCell ⟨P, k, none⟩ (.pointer (some ⟨q5, 0, none⟩))) (upB B (3 + k) F5) (upN mp k q5) gw) := Lib.hid (fun wX q5 F5 hb hM hF => (hR.keep hb).mil hlt (by omega) hM (fun j hj ⟨i, hi⟩ => by have := hlB.out i j hi; have := hF j hj; omega) (fun j hj => by have := hF j hj; omega))
        clear hR h0
        go_wp2
        go_region_with (first | (go_at_call 23; ((with_reducible refine (PN.out _).mono ?_); rintro e w5 ⟨q5, F5, he, mm, mf, hb5⟩; subst he; have hb5' : Below wr.heap.size wr w5 := ⟨hb5.os, hb5.tape, hb5.output, hb5.size, hb5.block⟩; have mf' : ∀ j, F5 j → wr.heap.size ≤ j := mf; obtain ⟨x1, z1⟩ := hcx.out w5 hb5')))
        have hnx := Lib.hid (fun (wX : World) (_ : Below wr.heap.size wr w5) => hnx0.out w5 q5 F5 hb5' mm mf')
        have hnx : Hid (∀ wX, wX = w5 → NV w n P tb mt (k + 1) k (wX.setCell ⟨P, k, none⟩ (.pointer (some ⟨q5, 0, none⟩))) (upB B (3 + k) F5) (upN mp k q5) gw) := Lib.hid (fun wX e => by subst e; exact hnx0.out wX q5 F5 hb5' mm mf')
        clear hnx0 mm mf mf' hlB hsz
        have hN1 := hnx.out _ rfl
        have hPl : P < (w5.setCell ⟨P, k, none⟩ (.pointer (some ⟨q5, 0, none⟩))).heap.size := hN1.lt _ _ hN1.bp
        obtain ⟨v0, x2⟩ := hN1.ce k hlt (Nat.le_refl _)
        have z2 := hN1.zp (5 + k)
        clear x1 z1 hb5 hb5' hnx PN hcx
        replace hN1 := Lib.hid hN1
        generalize w5.setCell ⟨P, k, none⟩ (.pointer (some ⟨q5, 0, none⟩)) = w6 at *
        have PW := Lib.hid (words_c (k : Int) (by omega) (by omega))
        rw [wd_wN hlt] at PW
        have hWb := wN_bd hlt
        have hmb : n k * wN k ≤ 32768 := Nat.mul_le_mul hfew hWb.2
        have hml : IntKind.i64.wrap ((n k : Int) * (wN k : Int)) = ((n k * wN k : Nat) : Int) := by rw [← Int.natCast_mul, IntKind.wrap_i64]; omega
        have hmk2 := hmk.out _ hmb
        have hnx2 : Hid (∀ (g : Nat) (Z : Array Value), Z = madeCells #[.int .u32 0] (n k * wN k) → g = w6.heap.size → NV w n P tb mt (k + 1) (k + 1) ((w6.alloc (.cells Z 29)).setCell ⟨P, 5 + k, none⟩ (.slice (some ⟨g, 0, none⟩) (n k * wN k) (n k * wN k))) (upB (upB B (3 + k) F5) (8 + k) (fun j => j = g)) (upN mp k q5) (upN gw k g)) := Lib.hid (fun g Z hZ hg => by
          subst hg
          refine (hN1.out.keep ((Below.refl _ _).alloc (Nat.le_refl _) _)).rows hlt (fun j hj => ?_) (fun j => by simp) (fun ⟨i, hi⟩ => Nat.lt_irrefl _ (hN1.out.lt i _ hi)) (hN1.out.bel.size) (by simp)
          have : (madeCells #[Value.int .u32 0] (n k * wN k)).toList[j]? = some (.int .u32 0) := by rw [toList_madeCells_one]; simp [hj]
          rw [hZ]
          simp only [World.cell?, heap_alloc_new]
          rw [← Array.getElem?_toList, this]
          rfl)
        obtain ⟨Z, hZ⟩ : ∃ Z, Z = madeCells #[.int .u32 0] (n k * wN k) := ⟨_, rfl⟩
        rw [← hZ] at hmk2
        have hnx3 := Lib.hid (fun g hg => hnx2.out g Z hZ hg)
        clear hN1 hnx2 hZ
        generalize n k * wN k = N at *
        generalize wN k = W at *
        go_wp2
        go_region_with (first | (go_at_call 24; ((with_reducible refine (PW.out _).mono ?_); rintro e w7 ⟨rfl, hw7⟩; subst w7)))
        have hN2 := hnx3.out w6.heap.size rfl
        rw [World.setCell_alloc_past _ _ _ _ hPl] at hN2
        have hN3 := hN2.keep (Below.refl _ _).drew
        generalize ((w6.setCell ⟨P, 5 + k, none⟩ (.slice (some ⟨w6.heap.size, 0, none⟩) N N)).alloc (.cells Z 29)).drew = w8 at *
        replace hN3 := Lib.hid hN3
        clear hN2 hnx3 hmk2 PW x2 z2 hml hmb
        generalize w6.heap.size = g6 at *
        (try simp only [Exit.inBlock, Exit.then])
        go_wp2
        go_roundw
        case rel => exact ⟨k + 1, by omega, by go_num, _, _, _, hN3.out⟩
        case measure => simp [intOf]; omega
    · have e : k = 5 := by omega
      subst e
      have hQ := Lib.hid (hR.fin few sum)
      have hbl := Lib.hid hR.bel
      have hfr := Lib.hid hR.far
      clear hR
      go_wp2
      go_ret
      exact ⟨_, _, rfl, ⟨_, _, _, _, _, _, rfl, hQ.out⟩, fun g ⟨i, hi⟩ => hfr.out i g hi, hbl.out⟩
end
end Wd
end Go.Proofs.Ytdaojohdmidemaa

/- The landed memory does what the laws ask of it. -/
namespace Go.Proofs.Ytdaojohdmidemaa
open Go.RowKit Go.Maps
set_option linter.unusedVariables false
set_option maxRecDepth 20000
namespace Wd
theorem tn_left {w w' : World} {p : Nat} {n : Nat → Nat} {H' : Hst} {B : Nat → Nat → Prop} {mp gw : Nat → Nat} {tb mt : Nat} {X : Nat → Nat → Int} (t : Tn w w' p n H' B mp gw tb mt X) : ∃ F', Left HA w w' p n H' (un B) F' := by
  obtain ⟨B', h1, h2, h3⟩ := t
  exact ⟨un B', ⟨B', mp, gw, tb, mt, X, rfl, h1⟩, h2, h3⟩
theorem below_left {w w' : World} {p : Nat} {n : Nat → Nat} {H : Hst} {F : Nat → Prop} (h : HA w p n H F) (b : Below w.heap.size w w') : Left HA w w' p n H F F :=
  ⟨h.keep b, below_un b, newer_refl9 _ _⟩
theorem KK : HeapK HA := by
  constructor
  case lt => exact fun h => h.lt
  case keep => exact fun h hs hk => h.same hs hk
  case inv => exact fun h => h.inv
  case alloc =>
    rintro w p n H F cl f ⟨B, mp, gw, tb, mt, X, rfl, h⟩ hcl hf
    cases hb : alcB H cl f with
    | false =>
      obtain ⟨e1, e2⟩ := alc_no hb
      rw [e1, e2]
      refine (valloc_no h cl f hcl.1 hcl.2 hf.1 hf.2 hb).mono ?_
      rintro e w' ⟨rfl, t⟩
      obtain ⟨F', l⟩ := tn_left t
      exact ⟨F', rfl, l⟩
    | true =>
      refine (valloc_yes h cl f hb).mono ?_
      rintro e w' ⟨rfl, X', t⟩
      obtain ⟨F', l⟩ := tn_left t
      exact ⟨F', rfl, l⟩
  case get =>
    rintro w p n H F i j ⟨B, mp, gw, tb, mt, X, rfl, h⟩ hi hj
    refine (vget_c h i j hi.1 hi.2 hj.1 hj.2).mono ?_
    rintro e w' ⟨rfl, h1, h2⟩
    exact ⟨_, rfl, ⟨B, mp, gw, tb, mt, X, rfl, h1⟩, h2, newer_refl9 _ _⟩
  case put =>
    rintro w p n H F i j x ⟨B, mp, gw, tb, mt, X, rfl, h⟩ hi hj x0 x1
    refine (vput_c h i j x hi.1 hi.2 hj.1 hj.2 x0 x1).mono ?_
    rintro e w' ⟨rfl, X', t⟩
    obtain ⟨F', l⟩ := tn_left t
    exact ⟨F', rfl, l⟩
  case cls =>
    rintro w p n H F i ⟨B, mp, gw, tb, mt, X, rfl, h⟩ hi
    refine (vclass_c h i hi.1 hi.2).mono ?_
    rintro e w' ⟨rfl, h1, h2⟩
    exact ⟨_, rfl, ⟨B, mp, gw, tb, mt, X, rfl, h1⟩, h2, newer_refl9 _ _⟩
  case fld =>
    rintro w p n H F i ⟨B, mp, gw, tb, mt, X, rfl, h⟩ hi
    refine (vfields_c h i hi.1 hi.2).mono ?_
    rintro e w' ⟨rfl, h1, h2⟩
    exact ⟨_, rfl, ⟨B, mp, gw, tb, mt, X, rfl, h1⟩, h2, newer_refl9 _ _⟩
  case col =>
    rintro w p n H F i h hi
    have h0 := h
    obtain ⟨B, mp, gw, tb, mt, X, rfl, h⟩ := h
    refine (vcolor_c h i hi.1 hi.2).mono ?_
    rintro e w' ⟨rfl, hb⟩
    exact ⟨_, rfl, below_left h0 hb⟩
  case swap =>
    rintro w p n H F i j ⟨B, mp, gw, tb, mt, X, rfl, h⟩ hi hj
    refine (vswap_c h i j hi.1 hi.2 hj.1 hj.2).mono ?_
    rintro e w' ⟨rfl, t⟩
    obtain ⟨F', l⟩ := tn_left t
    exact ⟨F', rfl, l⟩
  case hold =>
    rintro w p n H F u l ⟨B, mp, gw, tb, mt, X, rfl, h⟩ hu hl hlen hfar
    refine (vhold_c h hu hl hlen hfar).mono ?_
    rintro e w' ⟨rfl, t⟩
    obtain ⟨F', l⟩ := tn_left t
    exact ⟨F', rfl, l⟩
  case scan =>
    rintro w p n H F x ⟨B, mp, gw, tb, mt, X, rfl, h⟩ hx
    refine (vscan_c h x).mono ?_
    rintro e w' ⟨rfl, t⟩
    obtain ⟨F', l⟩ := tn_left t
    exact ⟨F', rfl, l⟩
  case done =>
    rintro w p n H F h
    have h0 := h
    obtain ⟨B, mp, gw, tb, mt, X, rfl, h⟩ := h
    refine (vdone_c h).mono ?_
    rintro e w' ⟨rfl, hb⟩
    exact ⟨_, rfl, below_left h0 hb⟩
  case flip =>
    rintro w p n H F ⟨B, mp, gw, tb, mt, X, rfl, h⟩
    refine (vflip_c h).mono ?_
    rintro e w' ⟨rfl, t⟩
    obtain ⟨F', l⟩ := tn_left t
    exact ⟨F', rfl, l⟩
  case ids =>
    rintro w p n H F h
    have h0 := h
    obtain ⟨B, mp, gw, tb, mt, X, rfl, h⟩ := h
    refine (vids_c h).mono ?_
    rintro e w' ⟨u, rfl, hu, hb, hf⟩
    exact ⟨u, _, rfl, hu, fun g hg => ⟨hf g hg, fun hF => by have := h0.lt g hF; have := hf g hg; omega⟩, below_left h0 hb⟩
  case cost =>
    rintro w p n H F h
    have h0 := h
    obtain ⟨B, mp, gw, tb, mt, X, rfl, h⟩ := h
    refine (vcost_c h).mono ?_
    rintro e w' ⟨rfl, rfl⟩
    exact ⟨_, _, rfl, below_left h0 (Below.refl _ _)⟩
  case new =>
    rintro w n p few sum1 sum p1 p2
    exact vnew_c n p few sum1 sum p1 p2
  case none' =>
    rintro w p hp
    exact vnew_none p hp
end Wd
end Go.Proofs.Ytdaojohdmidemaa

/- What the laws ask of a memory, whoever keeps it: HeapForgets. -/
namespace Go.Proofs.Ytdaojohdmidemaa
open Go.RowKit Go.Maps
set_option linter.unusedVariables false
namespace Wd
def nF : Nat → Nat := fun s => if s < 5 then 16 else 0
set_option maxHeartbeats 16000000 in
set_option maxRecDepth 20000 in
theorem forgets_any {HA : HAt} (K : HeapK HA) (a : Int) (a0 : -9223372036854775808 ≤ a) (a1 : a ≤ 9223372036854775807) (b : Int) (b0 : -9223372036854775808 ≤ b) (b1 : b ≤ 9223372036854775807) (w : World) :
    Calls Try.prog 4 #[.int .i64 a, .int .i64 b] w fun e w' => e = .returned (.bool true) ∧ Below w.heap.size w w' := by
  have KN := Lib.hid (fun (wX : World) => K.new (w := wX) nF 1 (fun s hs => by unfold nF; split <;> omega) (by decide) (by decide) (by omega) (by omega))
  have eN : cfgV nF 1 = .agg #[.int .i64 16, .int .i64 16, .int .i64 16, .int .i64 16, .int .i64 16, .int .i64 1] := rfl
  rw [eN] at KN
  clear eN
  have W1 := Lib.hid (within_c a 0 15 a0 a1 (by omega) (by omega) (by omega))
  have W2 := Lib.hid (within_c b 0 62 b0 b1 (by omega) (by omega) (by omega))
  obtain ⟨k1, hk1⟩ : ∃ k1 : Nat, within a 0 15 = k1 := ⟨(within a 0 15).toNat, by have := within_bd a 0 15 (by omega); omega⟩
  have hk2 : k1 ≤ 15 := by have := within_bd a 0 15 (by omega); omega
  have hf0 := within_bd b 0 62 (by omega)
  rw [hk1] at W1
  generalize within b 0 62 = f at *
  clear hk1
  have hkk : IntKind.i64.wrap (1 + (k1 : Int)) = ((k1 + 1 : Nat) : Int) := by rw [IntKind.wrap_i64]; omega
  obtain ⟨s, hs, hfs⟩ := fo_pos hf0.1 hf0.2
  have hi0 : HInv nF (newH nF) := HInv.new nF (fun s hs => by unfold nF; split <;> omega) (by decide)
  have f0 : Hid (FS nF (newH nF) s 0) := Lib.hid ⟨hi0, by show (startA (nF s) 1).length = 0; simp [startA, upA], fun t ht _ => by show startA (nF t) 1 = []; simp [startA, upA], fun t ht => by show startA (nF t) 2 = []; simp [startA, upA], fun t ht => by show startA (nF t) 3 = []; simp [startA, upA]⟩
  have hns : nF s = 16 := by unfold nF; rw [if_pos hs]
  obtain ⟨kk, hkkd⟩ : ∃ kk, k1 + 1 = kk := ⟨_, rfl⟩
  rw [hkkd] at hkk
  have hk16 : kk ≤ 16 := by omega
  clear hi0 hkkd hk2
  go_enter Try.func4, Try.ntmps4
  go_wp2_with (first | (go_at_call 18; first | ((with_reducible refine (W1.out _).mono ?_); rintro e w9 ⟨rfl, hw9⟩; subst w9) | ((with_reducible refine (W2.out _).mono ?_); rintro e w9 ⟨rfl, hw9⟩; subst w9)))
  refine (KN.out _).mono ?_
  rintro e w1 ⟨p, F, rfl, hm, hF, hb⟩
  have h0 : Hid (PH HA w w1 p nF (newH nF) F) := Lib.hid ⟨hm, hb, hF⟩
  clear hm hF hb KN W1 W2
  go_wp2_with fail
  go_loopw [8] (fun i wr => ∃ t : Nat, t ≤ 3 ∧ i = .int .i64 t ∧ ∃ H F, Hid (PH HA w wr p nF H F) ∧ Hid (FS nF H s 0)) (fun i _ => 3 - (intOf i).toNat)
  case atStart => exact ⟨0, by omega, rfl, _, _, h0, f0⟩
  case round =>
    obtain ⟨t, ht, rfl, H, F1, hq, hfS⟩ := hrel
    clear h0 f0
    by_cases hlt : t < 3
    · have hlt' : decide ((t : Int) < 3) = true := by simp; omega
      have hw : IntKind.i64.wrap ((t : Int) + 1) = (t : Int) + 1 := by rw [IntKind.wrap_i64]; omega
      go_wp2_with fail
      go_loopw [9] (fun i wr => ∃ j : Nat, j ≤ kk ∧ i = .int .i64 j ∧ ∃ H F, Hid (PH HA w wr p nF H F) ∧ Hid (FS nF H s j)) (fun i _ => kk - (intOf i).toNat)
      case atStart => exact ⟨0, by omega, rfl, _, _, hq, hfS⟩
      case round =>
        obtain ⟨j, hj, rfl, H2, F2, h2, f2⟩ := hrel
        clear hq hfS
        by_cases hjk : j < kk
        · have hjd : decide ((j : Int) < (kk : Int)) = true := by simp; omega
          have hwj : IntKind.i64.wrap ((j : Int) + 1) = (j : Int) + 1 := by rw [IntKind.wrap_i64]; omega
          obtain ⟨ha, f3⟩ := f2.out.alloc hs hns (by omega) (cl := 2) (f := f) (by omega) (by omega) hfs
          have P0 := Lib.hid (K.alloc 2 f h2.out.ha (by omega) (by omega))
          replace f3 := Lib.hid f3
          generalize alcI H2 2 f = id at *
          have hd : decide (id < 0) = false := by simpa using ha
          clear f2
          go_wp2_with fail
          with_reducible refine P0.out.mono ?_
          rintro e y1 ⟨J1, rfl, hL⟩
          have h3 := Lib.hid (h2.out.step hL)
          clear hL P0 h2
          go_wp2
          go_roundw
          case rel => exact ⟨j + 1, by omega, by go_num, _, _, h3, f3⟩
          case measure => simp [intOf]; omega
        · have e : j = kk := by omega
          subst e
          have hjd : decide ((j : Int) < (j : Int)) = false := by simp
          obtain ⟨e1, f3⟩ := f2.out.flip hs
          obtain ⟨e2, f4, e4⟩ := f3.flip hs
          have P1 := Lib.hid (K.flip h2.out.ha)
          rw [e1] at P1
          replace f4 := Lib.hid f4
          replace e2 := Lib.hid e2
          replace e4 := Lib.hid e4
          clear e1 f2 f3
          go_wp2_with fail
          with_reducible refine P1.out.mono ?_
          rintro e y1 ⟨J1, rfl, hL⟩
          have h3 := Lib.hid (h2.out.step hL)
          clear hL P1 h2
          have P2 := Lib.hid (K.flip h3.out.ha)
          rw [e2.out] at P2
          go_wp2_with fail
          with_reducible refine P2.out.mono ?_
          rintro e y2 ⟨J2, rfl, hL⟩
          have h4 := Lib.hid (h3.out.step hL)
          clear hL P2 h3
          go_wp2_with fail
          with_reducible refine (K.ids h4.out.ha).mono ?_
          rintro e y3 ⟨u, J3, rfl, hu, hfu, hL⟩
          rw [e4.out] at hu
          have h5 := Lib.hid (h4.out.step hL)
          obtain ⟨ua, uc, rfl⟩ := hu.form
          clear hL h4 hu hfu e2 e4
          go_wp2
          go_roundw
          case rel => exact ⟨t + 1, by omega, by go_num, _, _, h5, f4⟩
          case measure => simp [intOf]; omega
    · have e : t = 3 := by omega
      subst e
      have hdn := hfS.out.done
      have P1 := Lib.hid (K.done hq.out.ha)
      rw [hdn] at P1
      clear hdn
      go_wp2_with fail
      with_reducible refine P1.out.mono ?_
      rintro e y1 ⟨J1, rfl, hL⟩
      have h3 := Lib.hid (hq.out.step hL)
      clear hL P1 hq
      go_wp2_with fail
      refine (known_c K _).mono ?_
      rintro e y30 ⟨rfl, hb⟩
      go_wp2
      go_ret
      exact ⟨rfl, h3.out.bel.trans (hb.mono h3.out.bel.size)⟩
end Wd
end Go.Proofs.Ytdaojohdmidemaa

/- What the laws ask of a memory, whoever keeps it: HeapSwaps. -/
namespace Go.Proofs.Ytdaojohdmidemaa
open Go.RowKit Go.Maps
set_option linter.unusedVariables false
namespace Wd
theorem fs_set {m : Nat} (h : 0 < m) (x : Int) : ∃ t, (List.replicate m (2 : Int)).set 0 x = x :: t := by
  obtain ⟨k, rfl⟩ : ∃ k, m = k + 1 := ⟨m - 1, by omega⟩
  exact ⟨List.replicate k 2, by rw [List.replicate_succ]; rfl⟩
set_option maxHeartbeats 16000000 in
set_option maxRecDepth 20000 in
theorem swaps_any {HA : HAt} (K : HeapK HA) (a : Int) (a0 : -9223372036854775808 ≤ a) (a1 : a ≤ 9223372036854775807) (b : Int) (b0 : -9223372036854775808 ≤ b) (b1 : b ≤ 9223372036854775807) (v : Int) (v0 : -9223372036854775808 ≤ v) (v1 : v ≤ 9223372036854775807) (u : Int) (u0 : -9223372036854775808 ≤ u) (u1 : u ≤ 9223372036854775807) (w : World) :
    Calls Try.prog 5 #[.int .i64 a, .int .i64 b, .int .i64 v, .int .i64 u] w fun e w' => e = .returned (.bool true) ∧ Below w.heap.size w w' := by
  have KN := Lib.hid (fun (wX : World) => K.new (w := wX) nS 1 (fun s hs => by unfold nS; split <;> omega) (by decide) (by decide) (by omega) (by omega))
  have eN : cfgV nS 1 = .agg #[.int .i64 4, .int .i64 4, .int .i64 4, .int .i64 4, .int .i64 4, .int .i64 1] := rfl
  rw [eN] at KN
  clear eN
  have W1 := Lib.hid (within_c a 0 60 a0 a1 (by omega) (by omega) (by omega))
  have W2 := Lib.hid (within_c b 0 60 b0 b1 (by omega) (by omega) (by omega))
  obtain ⟨x1, hx1⟩ : ∃ x1 : Nat, within a 0 60 = x1 := ⟨(within a 0 60).toNat, by have := within_bd a 0 60 (by omega); omega⟩
  obtain ⟨y1, hy1⟩ : ∃ y1 : Nat, within b 0 60 = y1 := ⟨(within b 0 60).toNat, by have := within_bd b 0 60 (by omega); omega⟩
  have hx2 : x1 ≤ 60 := by have := within_bd a 0 60 (by omega); omega
  have hy2 : y1 ≤ 60 := by have := within_bd b 0 60 (by omega); omega
  rw [hx1] at W1
  rw [hy1] at W2
  clear hx1 hy1
  have hxx : IntKind.i64.wrap (1 + (x1 : Int)) = 1 + (x1 : Int) := by rw [IntKind.wrap_i64]; omega
  have hyy : IntKind.i64.wrap (1 + (y1 : Int)) = 1 + (y1 : Int) := by rw [IntKind.wrap_i64]; omega
  have cv : 0 ≤ IntKind.u32.wrap v ∧ IntKind.u32.wrap v ≤ 4294967295 := by rw [IntKind.wrap_u32']; omega
  have cu : 0 ≤ IntKind.u32.wrap u ∧ IntKind.u32.wrap u ≤ 4294967295 := by rw [IntKind.wrap_u32']; omega
  obtain ⟨ov1, ov2, ov3⟩ := wor_odd cv.1 cv.2
  obtain ⟨ou1, ou2, ou3⟩ := wor_odd cu.1 cu.2
  have hi0 : HInv nS (newH nS) := HInv.new nS (fun s hs => by unfold nS; split <;> omega) (by decide)
  obtain ⟨A1, A2, P, Q, T0⟩ := two_made hi0 (fun s hs => by unfold nS; rw [if_pos hs]) (x := x1 + 1) (y := y1 + 1) (by omega) (by omega)
  have ex : ((x1 + 1 : Nat) : Int) = 1 + (x1 : Int) := by omega
  have ey : ((y1 + 1 : Nat) : Int) = 1 + (y1 : Int) := by omega
  rw [ex] at A1 A2 T0
  rw [ey] at A2 T0
  generalize hvv : IntKind.u32.wrap v = vv at *
  generalize huu : IntKind.u32.wrap u = uu at *
  obtain ⟨B1, T1⟩ := T0.put4 (x := bits .or .u32 vv 1) (by simp) ov1 ov3
  obtain ⟨B2, T2⟩ := T1.put5 (x := bits .or .u32 uu 1) (by simp) ou1 ou3
  obtain ⟨t1, ht1⟩ := fs_set (m := x1 + 1) (by omega) (bits .or .u32 vv 1)
  obtain ⟨t2, ht2⟩ := fs_set (m := y1 + 1) (by omega) (bits .or .u32 uu 1)
  have l1 : (bits .or .u32 vv 1 :: t1).length = x1 + 1 := by rw [← ht1]; simp
  have l2 : (bits .or .u32 uu 1 :: t2).length = y1 + 1 := by rw [← ht2]; simp
  simp only [ht1, ht2] at T2
  obtain ⟨S1, T3⟩ := T2.swap45
  obtain ⟨S2, T4⟩ := T3.swap54
  obtain ⟨S3, T5⟩ := T4.swap44
  obtain ⟨S4, S5⟩ := T5.swap9
  have g4 := T3.v4
  have g5 := T3.v5
  have g6 := T4.v4
  have g7 := T4.v5
  have g8 := T5.v4
  have G4 := get_0 g4.2.2
  have G5 := get_0 g5.2.2
  have G6 := get_0 g6.2.2
  rw [l2] at g4 g7
  rw [l1] at g5
  have c4 := g4.1
  have c5 := g5.1
  have f4 := g4.2.1
  have f5 := g5.2.1
  have c6 := g6.1
  have f7 := g7.2.1
  have c8 := g8.1
  simp only at c4 c5 f4 f5 c6 f7 c8
  rw [ey] at f4 f7
  rw [ex] at f5
  clear g4 g5 g6 g7 g8 T0 T1 T2 T3 T4 T5 cv cu hi0 ht1 ht2 l1 l2 ex ey
  generalize hov : bits .or .u32 vv 1 = ov at *
  generalize hou : bits .or .u32 uu 1 = ou at *
  replace A1 := Lib.hid A1
  replace A2 := Lib.hid A2
  replace B1 := Lib.hid B1
  replace B2 := Lib.hid B2
  replace S1 := Lib.hid S1
  replace S2 := Lib.hid S2
  replace S3 := Lib.hid S3
  replace S4 := Lib.hid S4
  replace S5 := Lib.hid S5
  replace G4 := Lib.hid G4
  replace G5 := Lib.hid G5
  replace G6 := Lib.hid G6
  replace c4 := Lib.hid c4
  replace c5 := Lib.hid c5
  replace f4 := Lib.hid f4
  replace f5 := Lib.hid f5
  replace c6 := Lib.hid c6
  replace f7 := Lib.hid f7
  replace c8 := Lib.hid c8
  go_enter Try.func5, Try.ntmps5
  go_wp2_with fail
  refine (KN.out _).mono ?_
  rintro e w1 ⟨p, F, rfl, hm, hF, hb⟩
  have hs : Hid (PH HA w w1 p nS (newH nS) F) := Lib.hid ⟨hm, hb, hF⟩
  clear hm hF hb KN
  go_wp2_with (first | (go_at_call 18; first | ((with_reducible refine (W1.out _).mono ?_); rintro e w9 ⟨rfl, hw9⟩; subst w9) | ((with_reducible refine (W2.out _).mono ?_); rintro e w9 ⟨rfl, hw9⟩; subst w9)))
  have P0 := K.alloc 7 (1 + (x1 : Int)) hs.out.ha (by unfold i64; omega) (by unfold i64; omega)
  rw [A1.out] at P0
  with_reducible refine P0.mono ?_
  clear P0
  rintro e y3 ⟨J3, rfl, hL⟩
  replace hs := Lib.hid (hs.out.step hL)
  clear hL
  go_wp2_with fail
  have P0 := K.alloc 8 (1 + (y1 : Int)) hs.out.ha (by unfold i64; omega) (by unfold i64; omega)
  rw [A2.out] at P0
  with_reducible refine P0.mono ?_
  clear P0
  rintro e y4 ⟨J4, rfl, hL⟩
  replace hs := Lib.hid (hs.out.step hL)
  clear hL
  go_wp2_with fail
  have P0 := K.put 4 0 ov hs.out.ha (by unfold i64; omega) (by unfold i64; omega) (by omega) (by omega)
  rw [B1.out] at P0
  with_reducible refine P0.mono ?_
  clear P0
  rintro e y5 ⟨J5, rfl, hL⟩
  replace hs := Lib.hid (hs.out.step hL)
  clear hL
  go_wp2_with fail
  have P0 := K.put 5 0 ou hs.out.ha (by unfold i64; omega) (by unfold i64; omega) (by omega) (by omega)
  rw [B2.out] at P0
  with_reducible refine P0.mono ?_
  clear P0
  rintro e y6 ⟨J6, rfl, hL⟩
  replace hs := Lib.hid (hs.out.step hL)
  clear hL
  go_wp2_with fail
  have P0 := K.swap 4 5 hs.out.ha (by unfold i64; omega) (by unfold i64; omega)
  rw [S1.out] at P0
  with_reducible refine P0.mono ?_
  clear P0
  rintro e y7 ⟨J7, rfl, hL⟩
  replace hs := Lib.hid (hs.out.step hL)
  clear hL
  go_wp2_with fail
  have P0 := K.get 4 0 hs.out.ha (by unfold i64; omega) (by unfold i64; omega)
  rw [G4.out.1, G4.out.2] at P0
  with_reducible refine P0.mono ?_
  clear P0
  rintro e y8 ⟨J8, rfl, hL⟩
  replace hs := Lib.hid (hs.out.step hL)
  clear hL
  go_wp2_with fail
  have P0 := K.get 5 0 hs.out.ha (by unfold i64; omega) (by unfold i64; omega)
  rw [G5.out.1, G5.out.2] at P0
  with_reducible refine P0.mono ?_
  clear P0
  rintro e y9 ⟨J9, rfl, hL⟩
  replace hs := Lib.hid (hs.out.step hL)
  clear hL
  go_wp2_with fail
  have P0 := K.cls 4 hs.out.ha (by unfold i64; omega)
  rw [c4.out] at P0
  with_reducible refine P0.mono ?_
  clear P0
  rintro e y10 ⟨J10, rfl, hL⟩
  replace hs := Lib.hid (hs.out.step hL)
  clear hL
  go_wp2_with fail
  have P0 := K.cls 5 hs.out.ha (by unfold i64; omega)
  rw [c5.out] at P0
  with_reducible refine P0.mono ?_
  clear P0
  rintro e y11 ⟨J11, rfl, hL⟩
  replace hs := Lib.hid (hs.out.step hL)
  clear hL
  go_wp2_with fail
  have P0 := K.fld 4 hs.out.ha (by unfold i64; omega)
  rw [f4.out] at P0
  with_reducible refine P0.mono ?_
  clear P0
  rintro e y12 ⟨J12, rfl, hL⟩
  replace hs := Lib.hid (hs.out.step hL)
  clear hL
  go_wp2_with fail
  have P0 := K.fld 5 hs.out.ha (by unfold i64; omega)
  rw [f5.out] at P0
  with_reducible refine P0.mono ?_
  clear P0
  rintro e y13 ⟨J13, rfl, hL⟩
  replace hs := Lib.hid (hs.out.step hL)
  clear hL
  go_wp2_with fail
  have P0 := K.swap 5 4 hs.out.ha (by unfold i64; omega) (by unfold i64; omega)
  rw [S2.out] at P0
  with_reducible refine P0.mono ?_
  clear P0
  rintro e y14 ⟨J14, rfl, hL⟩
  replace hs := Lib.hid (hs.out.step hL)
  clear hL
  go_wp2_with fail
  have P0 := K.get 4 0 hs.out.ha (by unfold i64; omega) (by unfold i64; omega)
  rw [G6.out.1, G6.out.2] at P0
  with_reducible refine P0.mono ?_
  clear P0
  rintro e y15 ⟨J15, rfl, hL⟩
  replace hs := Lib.hid (hs.out.step hL)
  clear hL
  go_wp2_with fail
  have P0 := K.cls 4 hs.out.ha (by unfold i64; omega)
  rw [c6.out] at P0
  with_reducible refine P0.mono ?_
  clear P0
  rintro e y16 ⟨J16, rfl, hL⟩
  replace hs := Lib.hid (hs.out.step hL)
  clear hL
  go_wp2_with fail
  have P0 := K.fld 5 hs.out.ha (by unfold i64; omega)
  rw [f7.out] at P0
  with_reducible refine P0.mono ?_
  clear P0
  rintro e y17 ⟨J17, rfl, hL⟩
  replace hs := Lib.hid (hs.out.step hL)
  clear hL
  go_wp2_with fail
  have P0 := K.swap 4 4 hs.out.ha (by unfold i64; omega) (by unfold i64; omega)
  rw [S3.out] at P0
  with_reducible refine P0.mono ?_
  clear P0
  rintro e y18 ⟨J18, rfl, hL⟩
  replace hs := Lib.hid (hs.out.step hL)
  clear hL
  go_wp2_with fail
  have P0 := K.cls 4 hs.out.ha (by unfold i64; omega)
  rw [c8.out] at P0
  with_reducible refine P0.mono ?_
  clear P0
  rintro e y19 ⟨J19, rfl, hL⟩
  replace hs := Lib.hid (hs.out.step hL)
  clear hL
  go_wp2_with fail
  have P0 := K.swap 4 99 hs.out.ha (by unfold i64; omega) (by unfold i64; omega)
  rw [S4.out, S5.out] at P0
  with_reducible refine P0.mono ?_
  clear P0
  rintro e y20 ⟨J20, rfl, hL⟩
  replace hs := Lib.hid (hs.out.step hL)
  clear hL
  go_wp2_with fail
  refine (known_c K _).mono ?_
  rintro e y30 ⟨rfl, hb⟩
  go_wp2
  go_ret
  exact ⟨rfl, hs.out.bel.trans (hb.mono hs.out.bel.size)⟩
end Wd
end Go.Proofs.Ytdaojohdmidemaa
