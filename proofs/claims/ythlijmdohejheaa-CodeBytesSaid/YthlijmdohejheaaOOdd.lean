/- A method with one thing turned. -/
import Derived.Test.YthlijmdohejheaaOOdS
namespace Go.Proofs.Ythlijmdohejheaa
open Go.RowKit
set_option linter.unusedVariables false
set_option maxRecDepth 20000
namespace Wd
def lenAt (v : Option Value) : Nat := match v with | some (.slice _ n _) => n | _ => 0
theorem bys_app (A B : List Int) : bys (A ++ B) = bys A ++ bys B := by simp [bys]
theorem rd_val (w : World) (x y : Int) : ∀ j u, (pr2 [(x, y)])[j]? = some u → (w.alloc (.cells #[.int .i64 x, .int .i64 y] 41)).cell? ((⟨w.heap.size, 0, none⟩ : Addr).add j) = some u := by
  intro j u hu
  have hj : j < 2 := by have := (List.getElem?_eq_some_iff.1 hu).1; simpa [pr2_len] using this
  rw [Addr.add_lit, Nat.zero_add]
  rcases (show j = 0 ∨ j = 1 by omega) with rfl | rfl <;> (simp [pr2] at hu; subst hu; simp)
theorem bys_len (L : List Int) : (bys L).length = L.length := by simp [bys]
theorem OdV.pack {w w1 : World} {a t : Int} {lv cv : Value} {L : List (Int × Int)} {C : List Int} {nl : Nat} (h : OdV w w1 a t lv cv L C) (h1 : C.length ≤ 300) (h2 : L.length ≤ nl + 1) :
    ∃ (a t : Int) (la : Option Addr) (lc : Nat) (ca : Option Addr) (cc : Nat) (L : List (Int × Int)) (C : List Int), C.length ≤ 300 ∧ L.length ≤ nl + 1 ∧ OdV w w1 a t (.slice la L.length lc) (.slice ca C.length cc) L C := by
  obtain ⟨la, lc, e1, _⟩ := h.l.form
  obtain ⟨ca, cc, e2, _⟩ := h.c.form
  rw [e1, e2] at h
  exact ⟨a, t, la, lc, ca, cc, L, C, h1, h2, h⟩
theorem wr8_bd' (x : Int) : 0 ≤ IntKind.u8.wrap x ∧ IntKind.u8.wrap x ≤ 255 := wr8_bd x
set_option maxHeartbeats 64000000 in
theorem odd_c {w : World} {v : Value} {m : MethA} (h : MeV w v m) (hn : m.code.length ≤ 300) (hl : m.lits.length ≤ 100) (what at_ n : Int) (hw : In64 what) (ha : In64 at_) (hn64 : In64 n) :
    Calls Try.prog 11 #[v, .int .i64 what, .int .i64 at_, .int .i64 n] w fun e w' => ∃ v', e = .returned v' ∧ ∃ m' : MethA, MeV w' v' m' ∧ m'.code.length ≤ 300 ∧ m'.lits.length ≤ m.lits.length + 1 ∧ Below w.heap.size w w' := by
  obtain ⟨i0, hi0, hz0, hz1, hz2⟩ := info_parts infoB8
  obtain ⟨i1, hi1, hy0, hy1, hy2⟩ := info_parts infoVal
  have hmx : 100000 ≤ maxLen := by decide
  obtain ⟨la, lc, ca, cc, rfl, hpl, hpc⟩ := h.ex
  have a64 := Lib.hid h.a64
  have t64 := Lib.hid h.t64
  have h0 : Hid (OdB w ((w.alloc (.cells #[.int .i64 m.args, .int .i64 m.temps, .slice la m.lits.length lc, .slice ca m.code.length cc] 37)).alloc (.cells #[.int .i64 0, .int .i64 0, .slice none 0 0, .slice none 0 0] 37)) m.args m.temps (.slice la m.lits.length lc) (.slice ca m.code.length cc)) := Lib.hid OdB.born
  replace hpl := Lib.hid hpl
  replace hpc := Lib.hid hpc
  generalize hnl : m.lits.length = nl at *
  generalize hnc : m.code.length = nc at *
  replace hnl := Lib.hid hnl
  replace hnc := Lib.hid hnc
  have PW := Lib.hid (within40_c what 0 7 hw.1 hw.2 (by omega) (by omega) (by omega))
  have hqa := within_bd what 0 7 (by omega)
  generalize within what 0 7 = q at *
  clear h
  have hsz := Lib.hid h0.out.sz
  go_enter Try.func11, Try.ntmps11
  go_upto_region 1 with fail
  generalize (w.alloc (.cells #[.int .i64 m.args, .int .i64 m.temps, .slice la nl lc, .slice ca nc cc] 37)).alloc (.cells #[.int .i64 0, .int .i64 0, .slice none 0 0, .slice none 0 0] 37) = W0 at *
  have hrc : Hid (Rd (W0.alloc (.cells #[] 5)) (.slice ca nc cc) nc (bys m.code)) := by
    have := (hpc.out.rd.up h0.out.bel).up ((Below.refl W0.heap.size W0).alloc (Nat.le_refl _) (.cells #[] 5))
    rw [hnc.out] at this
    exact Lib.hid this
  have k30 : (W0.alloc (.cells #[] 5)).cell? ⟨w.heap.size, 3, none⟩ = some (.slice ca nc cc) := (h0.out.up ((Below.refl _ _).alloc (Nat.le_refl _) _)).b3
  go_upto_region 2 with (first | (at_builtin; refine wpList_app_any rfl (.tmp 9) (.tmp 11) 35 rfl (w.heap.size + 2) 5 i0 (.int .u8 0) 1 1 Try.underlying35 hi0 hz0 hz1 hz2 rfl (by decide) (.slice (some ⟨W0.heap.size, 0, none⟩) 0 0) (.slice ca nc cc) 0 nc [] (bys m.code) (by simp [Act.eval]) (by simp [Act.eval]) (made_none W0 5 1 _ hsz.out) (hrc.out) (by have := hnc.out; rw [bys_len]; omega) (bys_one _) (by omega) (by omega) (by have := hsz.out; simp only [World.size_alloc]; omega) ?_; intro v1 w1 hown1 hgrow1 hat1; rw [Nat.zero_add, List.nil_append] at hown1; obtain ⟨a1, c1, rfl⟩ := row_shape hown1; obtain ⟨k3, z3, hA, hcA⟩ := h0.out.copyc (grow_new hgrow1) hown1; replace hA := Lib.hid hA; replace hcA := Lib.hid hcA; clear hown1 hgrow1 hat1))
  generalize w1.setCell ⟨w.heap.size, 3, none⟩ (.slice a1 nc c1) = WA at *
  clear k30 k3 z3 h0 hrc hsz
  have hszA := Lib.hid hA.out.sz
  have hrl : Hid (Rd (WA.alloc (.cells #[] 41)) (.slice la nl lc) nl (pr2 m.lits)) := by
    have := (hpl.out.rd.up hA.out.bel).up ((Below.refl WA.heap.size WA).alloc (Nat.le_refl _) (.cells #[] 41))
    rw [hnl.out] at this
    exact Lib.hid this
  have k20 : (WA.alloc (.cells #[] 41)).cell? ⟨w.heap.size, 2, none⟩ = some (.slice la nl lc) := (hA.out.up ((Below.refl _ _).alloc (Nat.le_refl _) _)).b2
  go_upto_region 3 with (first | (at_builtin; refine wpList_app_any rfl (.tmp 14) (.tmp 16) 34 rfl (w.heap.size + 2) 41 i1 (.agg #[.int .i64 0, .int .i64 0]) 2 16 Try.underlying34 hi1 hy0 hy1 hy2 rfl (by decide) (.slice (some ⟨WA.heap.size, 0, none⟩) 0 0) (.slice la nl lc) 0 nl [] (pr2 m.lits) (by simp [Act.eval]) (by simp [Act.eval]) (made_none WA 41 2 _ hszA.out) (hrl.out) (by have := hnl.out; rw [pr2_len]; omega) (pr2_one _) (by omega) (by omega) (by have := hszA.out; simp only [World.size_alloc]; omega) ?_; intro v2 w2 hown2 hgrow2 hat2; rw [Nat.zero_add, List.nil_append] at hown2; obtain ⟨a2, c2, rfl⟩ := row_shape hown2; obtain ⟨k2, z2, hS⟩ := hA.out.copyl (C := m.code) (L := m.lits) (by rw [hnc.out]; exact hcA.out) (grow_new hgrow2) (by rw [hnl.out]; exact hown2) (new_at hat2) hpl.out.b64 hpc.out.b8 a64.out t64.out; replace hS := Lib.hid hS; clear hown2 hgrow2 hat2))
  generalize w2.setCell ⟨w.heap.size, 2, none⟩ (.slice a2 nl c2) = W at *
  clear k20 k2 z2 hrl hA hcA hszA hpl hpc
  go_upto_block 0 with (first | (go_at_call 13; ((with_reducible refine (PW.out _).mono ?_); rintro e w3 ⟨rfl, hw3⟩; subst w3)))
  clear PW
  go_cut [] (fun wx => Hid (∃ (a t : Int) (la : Option Addr) (lc : Nat) (ca : Option Addr) (cc : Nat) (L : List (Int × Int)) (C : List Int), C.length ≤ 300 ∧ L.length ≤ nl + 1 ∧ OdV w wx a t (.slice la L.length lc) (.slice ca C.length cc) L C))
  case first =>
    rcases (show q = 0 ∨ q = 1 ∨ q = 2 ∨ q = 3 ∨ q = 4 ∨ q = 5 ∨ q = 6 ∨ q = 7 by omega) with rfl | rfl | rfl | rfl | rfl | rfl | rfl | rfl
    · have x0 := hS.out.b.b0
      have zz := hS.out.b.z 0
      have hD := Lib.hid ((hS.out.seta n hn64).v.pack (nl := nl) (by have := hnc.out; omega) (by have := hnl.out; omega))
      go_wp2
      go_meet
      exact hD
    · have x0 := hS.out.b.b1
      have zz := hS.out.b.z 1
      have hD := Lib.hid ((hS.out.sett n hn64).v.pack (nl := nl) (by have := hnc.out; omega) (by have := hnl.out; omega))
      go_wp2
      go_meet
      exact hD
    · have x3 := hS.out.b.b3
      by_cases hz : nc = 0
      · have d0 : decide ((nc : Int) > 0) = false := by simp; omega
        have d1 : ¬ ((nc : Int) > 0) := by omega
        have hD := Lib.hid (hS.out.v.pack (nl := nl) (by have := hnc.out; omega) (by have := hnl.out; omega))
        clear hz
        go_wp2
        go_meet
        exact hD
      have d0 : decide ((nc : Int) > 0) = true := by simp; omega
      have d1 : (nc : Int) > 0 := by omega
      have wm : IntKind.i64.wrap ((nc : Int) - 1) = (nc : Int) - 1 := by rw [IntKind.wrap_i64]; omega
      have PA := Lib.hid (within40_c at_ 0 ((nc : Int) - 1) ha.1 ha.2 (by omega) (by omega) (by omega))
      have hka := within_bd at_ 0 ((nc : Int) - 1) (by omega)
      generalize within at_ 0 ((nc : Int) - 1) = kk at *
      obtain ⟨k, rfl⟩ : ∃ k : Nat, kk = (k : Int) := ⟨kk.toNat, by omega⟩
      have k0 : (0 : Int) ≤ (k : Int) := by omega
      have k1 : (k : Int) < (nc : Int) := by omega
      have hcr := hS.out.c
      rw [hnc.out] at hcr
      obtain ⟨g, rfl⟩ := row_some hcr (by omega)
      go_upto_region 11 with fail
      have hy := wr8_bd' n
      generalize hyn : IntKind.u8.wrap n = y at *
      refine wp_region_still_tail 11 (by kernel_rfl) (by kernel_rfl) ?_
      simp only [List.take_succ_cons, List.take_zero, List.drop_succ_cons, List.drop_zero]
      iterate 7 still_step
      still_call (PA.out _)
      iterate 3 still_step
      refine wpStill_nil ?_
      change wpList _ _ _ _ _ W.drew
      have hSd := hS.out.up ((Below.refl _ _).drew)
      have hcd := hSd.c
      rw [hnc.out] at hcd
      have hcell : W.drew.cell? ⟨g, k, none⟩ = some (.int .u8 (byAt m.code k)) := (hcd.cellAt k (by omega)).trans (by have := byAt_some (C := m.code) (k := k) (by have := hnc.out; omega); simp [bys, this])
      have hfro := hcd.frozenAt k
      have hD := Lib.hid ((hSd.byte hnc.out.symm k y hy).v.pack (nl := nl) (by rw [List.length_set]; have := hnc.out; omega) (by have := hnl.out; omega))
      clear hSd hcd hcr PA hyn
      generalize W.drew = Wd at *
      go_wp2
      go_meet
      exact hD
    · have x3 := hS.out.b.b3
      have PA := Lib.hid (within40_c at_ 0 (nc : Int) ha.1 ha.2 (by omega) (by omega) (by omega))
      have hka := within_bd at_ 0 (nc : Int) (by omega)
      generalize within at_ 0 (nc : Int) = kk at *
      obtain ⟨k, rfl⟩ : ∃ k : Nat, kk = (k : Int) := ⟨kk.toNat, by omega⟩
      have k0 : (0 : Int) ≤ (k : Int) := by omega
      have k1 : (k : Int) ≤ (nc : Int) := by omega
      have kc : k ≤ c1 := by
        obtain ⟨ad', cap', e, h1, _⟩ := hS.out.v.c.form
        cases e
        have := hnc.out
        omega
      go_upto_region 13 with fail
      refine wp_region_still_tail 9 (by kernel_rfl) (by kernel_rfl) ?_
      simp only [List.take_succ_cons, List.take_zero, List.drop_succ_cons, List.drop_zero]
      iterate 6 still_step
      still_call (PA.out _)
      iterate 2 still_step
      refine wpStill_nil ?_
      change wpList _ _ _ _ _ W.drew
      have hSd := hS.out.up ((Below.refl _ _).drew)
      have x3 := hSd.b.b3
      have zz := hSd.b.z 3
      have hD := Lib.hid ((hSd.cutc k (by have := hnc.out; omega)).pack (nl := nl) (by rw [List.length_take]; have := hnc.out; omega) (by have := hnl.out; omega))
      clear hSd PA
      generalize W.drew = Wd at *
      go_wp2
      go_meet
      exact hD
    · have x2 := hS.out.b.b2
      have hlr := hS.out.l
      rw [hnl.out] at hlr
      replace hlr := Lib.hid (row_bel hlr ((Below.refl W.heap.size W).alloc (Nat.le_refl _) (.cells #[.int .i64 n, .int .i64 at_] 41)))
      have hsz := Lib.hid hS.out.b.sz
      go_wp2_with (first | (at_builtin; refine wpList_app_any rfl (.tmp 69) (.tmp 73) 34 rfl (w.heap.size + 2) 41 i1 (.agg #[.int .i64 0, .int .i64 0]) 2 16 Try.underlying34 hi1 hy0 hy1 hy2 rfl (by decide) (.slice a2 nl c2) (.slice (some ⟨W.heap.size, 0, none⟩) 1 1) nl 1 (pr2 m.lits) (pr2 [(n, at_)]) (by simp [Act.eval]) (by simp [Act.eval]) (hlr.out) (Or.inr ⟨_, _, rfl, rd_val W n at_⟩) rfl (pr2_one _) (by omega) (by omega) (by have := hsz.out; simp only [World.size_alloc]; omega) ?_; intro v2 w2 hown2 hgrow2 hat2; obtain ⟨a3, c3, rfl⟩ := row_shape hown2; obtain ⟨k2, z2, hT⟩ := hS.out.addl (x := (n, at_)) ⟨hn64, ha⟩ ((Below.refl W.heap.size W).alloc (Nat.le_refl _) (.cells #[.int .i64 n, .int .i64 at_] 41)) (by rw [hnl.out]; exact hown2) hgrow2 hat2; have hD := Lib.hid (hT.v.pack (nl := nl) (by have := hnc.out; omega) (by rw [List.length_append, hnl.out]; exact Nat.le_refl _)); clear hown2 hgrow2 hat2 hT))
      go_meet
      exact hD
    · have x2 := hS.out.b.b2
      by_cases hz : nl = 0
      · have d0 : decide ((nl : Int) > 0) = false := by simp; omega
        have d1 : ¬ ((nl : Int) > 0) := by omega
        have hD := Lib.hid (hS.out.v.pack (nl := nl) (by have := hnc.out; omega) (by have := hnl.out; omega))
        clear hz
        go_wp2
        go_meet
        exact hD
      have d0 : decide ((nl : Int) > 0) = true := by simp; omega
      have d1 : (nl : Int) > 0 := by omega
      have wm : IntKind.i64.wrap ((nl : Int) - 1) = (nl : Int) - 1 := by rw [IntKind.wrap_i64]; omega
      have PA := Lib.hid (within40_c at_ 0 ((nl : Int) - 1) ha.1 ha.2 (by omega) (by omega) (by omega))
      have hka := within_bd at_ 0 ((nl : Int) - 1) (by omega)
      generalize within at_ 0 ((nl : Int) - 1) = kk at *
      obtain ⟨k, rfl⟩ : ∃ k : Nat, kk = (k : Int) := ⟨kk.toNat, by omega⟩
      have k0 : (0 : Int) ≤ (k : Int) := by omega
      have k1 : (k : Int) < (nl : Int) := by omega
      have hlr := hS.out.l
      rw [hnl.out] at hlr
      obtain ⟨g, rfl⟩ := row_some hlr (by omega)
      go_upto_region 18 with fail
      refine wp_region_still_tail 11 (by kernel_rfl) (by kernel_rfl) ?_
      simp only [List.take_succ_cons, List.take_zero, List.drop_succ_cons, List.drop_zero]
      iterate 7 still_step
      still_call (PA.out _)
      iterate 3 still_step
      refine wpStill_nil ?_
      change wpList _ _ _ _ _ W.drew
      have hSd := hS.out.up ((Below.refl _ _).drew)
      have hcd := hSd.l
      rw [hnl.out] at hcd
      obtain ⟨⟨lk, lx⟩, hx⟩ : ∃ x, m.lits[k]? = some x := ⟨m.lits[k]'(by have := hnl.out; omega), by simp⟩
      have hcell : W.drew.cell? ⟨g, k * 2 + 1, none⟩ = some (.int .i64 lx) := (hcd.cellAt (k * 2 + 1) (by omega)).trans (pr2_get _ _ _ hx).2
      have hfro := hcd.frozenAt (k * 2 + 1)
      have hD := Lib.hid ((hSd.lit hnl.out.symm hx n hn64).v.pack (nl := nl) (by have := hnc.out; omega) (by rw [List.length_set]; have := hnl.out; omega))
      clear hSd hcd hlr PA hx
      generalize W.drew = Wd at *
      go_wp2
      go_meet
      exact hD
    · obtain ⟨r, hr, hr2⟩ : ∃ r : Nat, bits .and .i64 n 1 = (r : Int) ∧ r < 2 := ⟨(n % 2).toNat, by rw [mask1]; omega, by omega⟩
      have hy : 0 ≤ at_ % 256 ∧ at_ % 256 ≤ 255 := by omega
      generalize hyn : at_ % 256 = y at *
      have wr1 : IntKind.i64.wrap (2 * (r : Int)) = 2 * (r : Int) := by rw [IntKind.wrap_i64]; omega
      have wr2 : IntKind.i64.wrap (128 + 2 * (r : Int)) = 128 + 2 * (r : Int) := by rw [IntKind.wrap_i64]; omega
      have hst : Hid (∃ (ca' : Option Addr) (cc' : Nat) (C : List Int), C.length ≤ 300 ∧ OdS w W m.args m.temps (.slice a2 nl c2) (.slice ca' C.length cc') m.lits C) := Lib.hid ⟨a1, c1, m.code, by have := hnc.out; omega, by rw [hnc.out]; exact hS.out⟩
      clear hS
      go_wp2
      go_loopw [] (fun wr => Hid (∃ (ca' : Option Addr) (cc' : Nat) (C : List Int), C.length ≤ 300 ∧ OdS w wr m.args m.temps (.slice a2 nl c2) (.slice ca' C.length cc') m.lits C)) (fun wr => 300 - lenAt (wr.cell? ⟨w.heap.size, 3, none⟩))
      case atStart => exact hst
      case round =>
        clear hst
        obtain ⟨ca', cc', C, hC3, hS6⟩ := hrel.out
        clear hrel
        replace hS6 := Lib.hid hS6
        have x3 := hS6.out.b.b3
        have hmeas : Hid (lenAt (wr.cell? ⟨w.heap.size, 3, none⟩) = C.length) := Lib.hid (by rw [x3]; rfl)
        generalize hnC : C.length = nC at *
        replace hnC := Lib.hid hnC
        by_cases hlt : (nC : Int) < 128 + 2 * (r : Int)
        · have d1 : decide ((nC : Int) < 128 + 2 * (r : Int)) = true := by simpa using hlt
          have hsz := Lib.hid hS6.out.b.sz
          have hwA := (Below.refl wr.heap.size wr).alloc (Nat.le_refl _) (.cells #[.int .u8 y, .int .u8 0] 5)
          have hnew : Hid ((wr.alloc (.cells #[.int .u8 y, .int .u8 0] 5)).ownsRow (w.heap.size + 2) 5 1 (.slice (some ⟨wr.heap.size, 0, none⟩) 2 2) 2 (bys [y, 0])) := Lib.hid (row_of (sz := 1) (m := 2) (alloc_at wr (.cells #[.int .u8 y, .int .u8 0] 5) wr.heap.size rfl) hsz.out rfl (by decide))
          have hrdC : Hid (Rd (wr.alloc (.cells #[.int .u8 y, .int .u8 0] 5)) (.slice ca' nC cc') nC (bys C)) := by
            have := hS6.out.v.c.rd.up hwA
            rw [hnC.out] at this
            exact Lib.hid this
          have x3A : (wr.alloc (.cells #[.int .u8 y, .int .u8 0] 5)).cell? ⟨w.heap.size, 3, none⟩ = some (.slice ca' nC cc') := (hS6.out.b.up hwA).b3
          clear hwA
          go_wp2_with (first | (at_builtin; refine wpList_app_any rfl (.tmp 105) (.tmp 107) 35 rfl (w.heap.size + 2) 5 i0 (.int .u8 0) 1 1 Try.underlying35 hi0 hz0 hz1 hz2 rfl (by decide) (.slice (some ⟨wr.heap.size, 0, none⟩) 2 2) (.slice ca' nC cc') 2 nC (bys [y, 0]) (bys C) (by simp [Act.eval]) (by simp [Act.eval]) hnew.out hrdC.out (by have := hnC.out; rw [bys_len]; omega) (bys_one _) (by omega) (by omega) (by have := hsz.out; simp only [World.size_alloc]; omega) ?_; intro v2 w2 hown2 hgrow2 hat2; obtain ⟨a3, c3, rfl⟩ := row_shape hown2; obtain ⟨k3, z3, hT⟩ := hS6.out.newc (C' := [y, 0] ++ C) (grow_new hgrow2) (by have := hnC.out; rw [List.length_append, this, bys_app]; exact hown2) (new_at hat2) (by intro x hx; rcases List.mem_append.1 hx with hx | hx; (· simp only [List.mem_cons, List.not_mem_nil, or_false] at hx; rcases hx with rfl | rfl; (· exact hy); (· omega)); (· exact hS6.out.c8 x hx)); replace hT := Lib.hid hT; clear hown2 hgrow2 hat2))
          go_roundw
          case rel => exact Lib.hid ⟨a3, c3, [y, 0] ++ C, by have := hnC.out; rw [List.length_append]; simp only [List.length_cons, List.length_nil]; omega, by rw [List.length_append, hnC.out]; exact hT.out⟩
          case measure => rw [hT.out.b.b3, hmeas.out]; simp only [lenAt]; have := hnC.out; omega
        · have d1 : decide ((nC : Int) < 128 + 2 * (r : Int)) = false := by simpa using hlt
          have hD := Lib.hid (hS6.out.v.pack (nl := nl) (by have := hnC.out; omega) (by have := hnl.out; omega))
          go_wp2
          go_meet
          exact hD
    · have x2 := hS.out.b.b2
      have PA := Lib.hid (within40_c at_ 0 (nl : Int) ha.1 ha.2 (by omega) (by omega) (by omega))
      have hka := within_bd at_ 0 (nl : Int) (by omega)
      generalize within at_ 0 (nl : Int) = kk at *
      obtain ⟨k, rfl⟩ : ∃ k : Nat, kk = (k : Int) := ⟨kk.toNat, by omega⟩
      have k0 : (0 : Int) ≤ (k : Int) := by omega
      have k1 : (k : Int) ≤ (nl : Int) := by omega
      have kc : k ≤ c2 := by
        obtain ⟨ad', cap', e, h1, _⟩ := hS.out.v.l.form
        cases e
        have := hnl.out
        omega
      go_upto_region 4 with fail
      refine wp_region_still_tail 9 (by kernel_rfl) (by kernel_rfl) ?_
      simp only [List.take_succ_cons, List.take_zero, List.drop_succ_cons, List.drop_zero]
      iterate 6 still_step
      still_call (PA.out _)
      iterate 2 still_step
      refine wpStill_nil ?_
      change wpList _ _ _ _ _ W.drew
      have hSd := hS.out.up ((Below.refl _ _).drew)
      have x2 := hSd.b.b2
      have zz := hSd.b.z 2
      have hD := Lib.hid ((hSd.cutl k (by have := hnl.out; omega)).pack (nl := nl) (by have := hnc.out; omega) (by rw [List.length_take]; have := hnl.out; omega))
      clear hSd PA
      generalize W.drew = Wd at *
      go_wp2
      go_meet
      exact hD
  case rest =>
    clear hS
    obtain ⟨a, t, la', lc', ca', cc', L, C, hC, hL, hV⟩ := hcut.out
    replace hV := Lib.hid hV
    have x0 := hV.out.b.b0
    have x1 := hV.out.b.b1
    have x2 := hV.out.b.b2
    have x3 := hV.out.b.b3
    have hh := hV.out.b.r
    have y0 : wc.cell? ⟨w.heap.size + 1, 0, none⟩ = some (.int .i64 0) := cell_in hh rfl
    have y1 : wc.cell? ⟨w.heap.size + 1, 1, none⟩ = some (.int .i64 0) := cell_in hh rfl
    have y2 : wc.cell? ⟨w.heap.size + 1, 2, none⟩ = some (.slice none 0 0) := cell_in hh rfl
    have y3 : wc.cell? ⟨w.heap.size + 1, 3, none⟩ = some (.slice none 0 0) := cell_in hh rfl
    have q0 : wc.frozen? ⟨w.heap.size + 1, 0, none⟩ = false := loose_in hh
    have q1 : wc.frozen? ⟨w.heap.size + 1, 1, none⟩ = false := loose_in hh
    have q2 : wc.frozen? ⟨w.heap.size + 1, 2, none⟩ = false := loose_in hh
    have q3 : wc.frozen? ⟨w.heap.size + 1, 3, none⟩ = false := loose_in hh
    obtain ⟨r0, r1, r2, r3⟩ := set4_at (v0 := .int .i64 a) (v1 := .int .i64 t) (v2 := .slice la' L.length lc') (v3 := .slice ca' C.length cc') y0 y1 y2 y3
    obtain ⟨hM, hBel⟩ := hV.out.fin (.int .i64 a) (.int .i64 t) (.slice la' L.length lc') (.slice ca' C.length cc')
    replace hM := Lib.hid hM
    replace hBel := Lib.hid hBel
    clear hh
    go_wp2
    refine bodyPost_ret (by simp [results, Try.results11, go_sem, r0, r1, r2, r3]; try rfl) rfl ?_
    exact ⟨_, rfl, ⟨a, t, L, C⟩, hM.out, hC, hL, hBel.out⟩
end Wd
end Go.Proofs.Ythlijmdohejheaa
