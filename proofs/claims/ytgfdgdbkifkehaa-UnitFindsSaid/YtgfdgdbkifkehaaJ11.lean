/- Texts joined: UCO, ULW. -/
import Derived.Test.YtgfdgdbkifkehaaJ9
import Derived.Test.YtgfdgdbkifkehaaJ10
/- UnitCopies: a copy is its own. -/
namespace Go.Proofs.Ytgfdgdbkifkehaa
open Go.RowKit
set_option linter.unusedVariables false
set_option maxRecDepth 20000
namespace Wd
theorem cp_forms {w : World} {nv cv mv ov : Value} {U : UnitA} (hU : UnV w nv cv mv ov U) (hT : TapeU U) : ∃ na nc ka kc ma mc oa oc, nv = .slice na 6 nc ∧ cv = .slice ka U.classes.length kc ∧ mv = .slice ma 9 mc ∧ ov = .slice oa U.objects.length oc := by
  obtain ⟨na, nc, ka, kc, ma, mc, oa, oc, e0, e1, e2, e3⟩ := hU.forms
  have l0 : U.names.length = 6 := by rw [hT.names]; rfl
  rw [l0] at e0
  rw [hT.ml] at e2
  exact ⟨na, nc, ka, kc, ma, mc, oa, oc, e0, e1, e2, e3⟩
/-- the program, two copies of it, each in its box -/
structure CwA (w wx : World) (Q : Nat) (U : UnitA) (na ka ma oa : Option Addr) (nc kc mc oc s1 t1 s2 t2 b10 b11 : Nat) (v0 v1 v2 v3 u0 u1 u2 u3 : Value) : Prop where
  t : TpB w wx Q U na ka ma oa nc kc mc oc 6
  x : Bx5 wx b10 v0 v1 v2 v3 (.int .i64 6)
  y : Bx5 wx b11 u0 u1 u2 u3 (.int .i64 6)
  v : CpA s1 t1 wx v0 v1 v2 v3 U
  w : CpA s2 t2 wx u0 u1 u2 u3 U
  h12 : t1 ≤ s2
  q1 : Q < s1
  n10 : b10 < s1 ∨ t1 ≤ b10
  n11 : b11 < s1 ∨ t1 ≤ b11
  fv : ∃ na nc ka kc ma mc oa oc, v0 = .slice na 6 nc ∧ v1 = .slice ka U.classes.length kc ∧ v2 = .slice ma 9 mc ∧ v3 = .slice oa U.objects.length oc
  fu : ∃ na nc ka kc ma mc oa oc, u0 = .slice na 6 nc ∧ u1 = .slice ka U.classes.length kc ∧ u2 = .slice ma 9 mc ∧ u3 = .slice oa U.objects.length oc
theorem one5 (a0 a1 a2 a3 : Option Addr) (m0 m1 m2 m3 c0 c1 c2 c3 : Nat) (m : Int) : (#[Value.slice a0 m0 c0, .slice a1 m1 c1, .slice a2 m2 c2, .slice a3 m3 c3, .int .i64 m] : Array Value).all (·.oneCell') = true := all_oneCell_toArray (cs := [Value.slice a0 m0 c0, .slice a1 m1 c1, .slice a2 m2 c2, .slice a3 m3 c3, .int .i64 m]) (fun v hv => by simp only [List.mem_cons, List.not_mem_nil, or_false] at hv; rcases hv with rfl | rfl | rfl | rfl | rfl <;> rfl)
theorem block_up {w w1 : World} {b : Nat} {x : Obj} (h : w.heap[b]? = some x) (c : Below w.heap.size w w1) : w1.heap[b]? = some x := (c.block b (Array.getElem?_eq_some_iff.1 h).1).trans h
theorem block_lt {w : World} {b : Nat} {x : Obj} (h : w.heap[b]? = some x) : b < w.heap.size := (Array.getElem?_eq_some_iff.1 h).1
theorem CwA.up {w wx w1 : World} {Q : Nat} {U : UnitA} {na ka ma oa : Option Addr} {nc kc mc oc s1 t1 s2 t2 b10 b11 : Nat} {v0 v1 v2 v3 u0 u1 u2 u3 : Value} (h : CwA w wx Q U na ka ma oa nc kc mc oc s1 t1 s2 t2 b10 b11 v0 v1 v2 v3 u0 u1 u2 u3) (b : Below wx.heap.size wx w1) : CwA w w1 Q U na ka ma oa nc kc mc oc s1 t1 s2 t2 b10 b11 v0 v1 v2 v3 u0 u1 u2 u3 :=
  ⟨h.t.up b, h.x.up b, h.y.up b, h.v.up b, h.w.up b, h.h12, h.q1, h.n10, h.n11, h.fv, h.fu⟩
theorem unk6 {w : World} {nv cv mv ov : Value} {U : UnitA} (hT : TapeU U) (h : UnV w nv cv mv ov U) : UnK w (.agg #[nv, cv, mv, ov, .int .i64 6]) U := by
  have := h.unk
  rwa [hT.main] at this
theorem xor_u8 (a b : Int) : 0 ≤ bits .xor .u8 a b ∧ bits .xor .u8 a b ≤ 255 := wr8_bd _
theorem wrap_in64 (x : Int) : In64 (IntKind.i64.wrap x) := by
  rw [IntKind.wrap_i64]
  exact ⟨by omega, by omega⟩
/-- the first copy is being turned -/
structure CwS (W0 wr : World) (s1 t1 : Nat) : Prop where
  sk : SK W0 wr
  cg : Cg (fun q => s1 ≤ q ∧ q < t1) W0 wr
theorem CwS.set {W0 wr : World} {s1 t1 g o : Nat} {u x : Value} (h : CwS W0 wr s1 t1) (hc : wr.cell? ⟨g, o, none⟩ = some u) (hx : Alk u x) (hg : s1 ≤ g ∧ g < t1) : CwS W0 (wr.setCell ⟨g, o, none⟩ x) s1 t1 := ⟨h.sk.trans (SK.set hc hx), h.cg.set ⟨g, o, none⟩ hg x⟩
theorem sameU_nm {U V : UnitA} (h : ¬ U.names = V.names) : sameU U V = false := by
  cases e : sameU U V with
  | false => rfl
  | true => exact absurd (by rw [(sameU_iff U V).1 e]) h
/-- at the end: the first, the copy that was turned, the other one -/
structure CwL (w wr : World) (Q : Nat) (U : UnitA) (na ka ma oa : Option Addr) (nc kc mc oc b10 b11 : Nat) (V : UnitA) (a0 a2 a4 a6 : Option Addr) (a1 a3 a5 a7 : Nat) (e0 e2 e4 e6 : Option Addr) (e1 e3 e5 e7 : Nat) : Prop where
  t : TpB w wr Q U na ka ma oa nc kc mc oc 6
  x : Bx5 wr b10 (.slice a0 6 a1) (.slice a2 U.classes.length a3) (.slice a4 9 a5) (.slice a6 U.objects.length a7) (.int .i64 6)
  y : Bx5 wr b11 (.slice e0 6 e1) (.slice e2 U.classes.length e3) (.slice e4 9 e5) (.slice e6 U.objects.length e7) (.int .i64 6)
  v : UnK wr (.agg #[.slice a0 6 a1, .slice a2 U.classes.length a3, .slice a4 9 a5, .slice a6 U.objects.length a7, .int .i64 6]) V
  u : UnK wr (.agg #[.slice e0 6 e1, .slice e2 U.classes.length e3, .slice e4 9 e5, .slice e6 U.objects.length e7, .int .i64 6]) U
theorem CwL.up {w wr w1 : World} {Q : Nat} {U : UnitA} {na ka ma oa : Option Addr} {nc kc mc oc b10 b11 : Nat} {V : UnitA} {a0 a2 a4 a6 : Option Addr} {a1 a3 a5 a7 : Nat} {e0 e2 e4 e6 : Option Addr} {e1 e3 e5 e7 : Nat} (h : CwL w wr Q U na ka ma oa nc kc mc oc b10 b11 V a0 a2 a4 a6 a1 a3 a5 a7 e0 e2 e4 e6 e1 e3 e5 e7) (b : Below wr.heap.size wr w1) : CwL w w1 Q U na ka ma oa nc kc mc oc b10 b11 V a0 a2 a4 a6 a1 a3 a5 a7 e0 e2 e4 e6 e1 e3 e5 e7 := ⟨h.t.up b, h.x.up b, h.y.up b, h.v.up b, h.u.up b⟩
set_option maxHeartbeats 64000000 in
theorem copies_any (K : UnitK) {w : World} {ad : Option Addr} {n cap : Nat} (HA : NumA w ad n) (hn : n ≤ 4611686018427387904) (what at_ x : Int) (hw : In64 what) (ha : In64 at_) (hx : In64 x) :
    Calls Try.prog 4 #[.slice ad n cap, .int .i64 what, .int .i64 at_, .int .i64 x] w fun e w' => e = .returned (.bool true) ∧ Below w.heap.size w w' := by
  have PU := Lib.hid (unit_c (tape_tp (cap := cap) HA hn))
  have PN := Lib.hid (fun w => uknown_c K w)
  have PW := Lib.hid (fun w => within_c at_ 0 8 ha.1 ha.2 (by omega) (by omega) (by omega) w)
  have hkb := within_bd at_ 0 8 (by omega)
  generalize within at_ 0 8 = k0 at *
  obtain ⟨k, rfl⟩ : ∃ k : Nat, k0 = k := ⟨k0.toNat, by omega⟩
  clear HA
  go_enter Try.func4, Try.ntmps4
  go_wp2_with fail
  with_reducible refine PU.out.mono ?_
  rintro e wu ⟨nv, cv, mv, ov, rfl, U, hU, hT, _, hcg, _⟩
  have hBu := unit_bel hcg
  obtain ⟨na, nc, ka, kc, ma, mc, oa, oc, rfl, rfl, rfl, rfl, hS⟩ := tpb_born hU hT hBu
  clear PU hcg hU hBu
  replace hS := Lib.hid hS
  go_upto_region 2 with fail
  generalize wu.alloc (.cells #[.slice na 6 nc, .slice ka U.classes.length kc, .slice ma 9 mc, .slice oa U.objects.length oc, .int .i64 6] 28) = W at *
  obtain ⟨Q, hQ⟩ : ∃ Q, Q = wu.heap.size := ⟨_, rfl⟩
  rw [← hQ] at hS ⊢
  clear hQ
  have hT' := Lib.hid hT
  have PC := Lib.hid (fun (w' : World) (h : UnK w' (.agg #[.slice na 6 nc, .slice ka U.classes.length kc, .slice ma 9 mc, .slice oa U.objects.length oc, .int .i64 6]) U) => by
    have := K.copy h (hT.zb.sz (by omega))
    rw [hT.main] at this
    exact this)
  obtain ⟨dU, hdU, hrU⟩ := rowU
  replace hdU := Lib.hid hdU
  replace hrU := Lib.hid hrU
  go_cut [10, 11] (fun v10 v11 wx => ∃ s1 t1 s2 t2 b10 b11 v0 v1 v2 v3 u0 u1 u2 u3, v10 = .pointer (some ⟨b10, 0, none⟩) ∧ v11 = .pointer (some ⟨b11, 0, none⟩) ∧ Hid (CwA w wx Q U na ka ma oa nc kc mc oc s1 t1 s2 t2 b10 b11 v0 v1 v2 v3 u0 u1 u2 u3))
  case first =>
    have hS' := Lib.hid hS.out.drew
    clear hS
    have hS := Lib.hid hS'.out
    clear hS' hT
    refine wp_region_held_drew (S := (fun wr' => TpB w wr' Q U na ka ma oa nc kc mc oc 6)) (by kernel_rfl) ?_ (fun hHeld => ?_)
    · (try dsimp only); exact hS.out
    try simp only [Act.put, List.setIfInBounds_toArray, List.set_cons_zero, List.set_cons_succ]
    generalize W.drew = y0 at *
    refine wpAnyH_take (i := 0) (oi := { dst := some 20, op := Op.load 28 (Operand.tmp 9), type := 28, pos := "law.go:132", after := #[], guard := none }) (v := (.agg #[.slice na 6 nc, .slice ka U.classes.length kc, .slice ma 9 mc, .slice oa U.objects.length oc, .int .i64 6])) rfl (by kernel_rfl) (by kernel_rfl) (by kernel_rfl) (fun _ _ _ h => h) (yieldsIf_load_mid (by rfl) _ _ rfl Q 0 rfl [.slice na 6 nc, .slice ka U.classes.length kc, .slice ma 9 mc, .slice oa U.objects.length oc, .int .i64 6] dU (fun w hw => hw.rg) hdU.out hrU.out infoU) (by assumption) ?_
    try simp only [Act.put, List.setIfInBounds_toArray, List.set_cons_zero, List.set_cons_succ]
    refine wpAnyH_take (i := 2) (oi := { dst := some 22, op := Op.load 28 (Operand.tmp 9), type := 28, pos := "law.go:132", after := #[], guard := none }) (v := (.agg #[.slice na 6 nc, .slice ka U.classes.length kc, .slice ma 9 mc, .slice oa U.objects.length oc, .int .i64 6])) rfl (by kernel_rfl) (by kernel_rfl) (by kernel_rfl) (fun _ _ _ h => h) (yieldsIf_load_mid (by rfl) _ _ rfl Q 0 rfl [.slice na 6 nc, .slice ka U.classes.length kc, .slice ma 9 mc, .slice oa U.objects.length oc, .int .i64 6] dU (fun w hw => hw.rg) hdU.out hrU.out infoU) (by assumption) ?_
    try simp only [Act.put, List.setIfInBounds_toArray, List.set_cons_zero, List.set_cons_succ]
    refine wpAnyH_ready (rs := [1, 4, 5]) (by kernel_rfl) (by simp) ?_
    refine AllReadyH.cons (o := { dst := some 21, op := Op.call { callee := Callee.value (Operand.func 11), args := #[Operand.tmp 20], argTypes := #[28] }, type := 28, pos := "law.go:132", after := #[{ on := 0, ground := Ground.data }], guard := none }) rfl (fun K9 hK => ?_) ?_
    · go_simp
      with_reducible refine (PC.out _ hS.out.k6').mono ?_
      rintro e y1 ⟨nv, cv, mv, ov, rfl, hcp, hb⟩
      obtain ⟨a0, a1, a2, a3, a4, a5, a6, a7, rfl, rfl, rfl, rfl⟩ := cp_forms hcp.un hT'.out
      obtain ⟨s1, hs9⟩ : ∃ s, s = y0.heap.size := ⟨_, rfl⟩
      obtain ⟨t1, ht9⟩ : ∃ t, t = y1.heap.size := ⟨_, rfl⟩
      have hqs := hS.out.qlt
      have hq1 : Hid (Q < s1) := Lib.hid (by omega)
      replace hS := Lib.hid (hS.out.up hb)
      have hv : Hid (CpA s1 t1 y1 (.slice a0 6 a1) (.slice a2 U.classes.length a3) (.slice a4 9 a5) (.slice a6 U.objects.length a7) U) := Lib.hid (by rw [hs9, ht9]; exact CpA.born hcp)
      clear hs9 ht9 hqs hcp hb
      go_wp2_with fail
      refine hK.out _ _ ?_ ?_
      · (try dsimp only); exact hS.out
      clear hK K9 hHeld; intro hHeld
      try simp only [Act.put, List.setIfInBounds_toArray, List.set_cons_zero, List.set_cons_succ]
      refine wpAnyH_ready (rs := [3, 4, 5]) (by kernel_rfl) (by simp) ?_
      refine AllReadyH.cons (o := { dst := some 23, op := Op.call { callee := Callee.value (Operand.func 11), args := #[Operand.tmp 22], argTypes := #[28] }, type := 28, pos := "law.go:132", after := #[{ on := 2, ground := Ground.data }, { on := 1, ground := Ground.chain }], guard := none }) rfl (fun K9 hK => ?_) ?_
      · go_simp
        with_reducible refine (PC.out _ hS.out.k6').mono ?_
        rintro e y2 ⟨nv, cv, mv, ov, rfl, hcp, hb⟩
        obtain ⟨e0, e1, e2, e3, e4, e5, e6, e7, rfl, rfl, rfl, rfl⟩ := cp_forms hcp.un hT'.out
        obtain ⟨s2, hs9⟩ : ∃ s, s = y1.heap.size := ⟨_, rfl⟩
        obtain ⟨t2, ht9⟩ : ∃ t, t = y2.heap.size := ⟨_, rfl⟩
        have hqs := hS.out.qlt
        have h12 : Hid (t1 ≤ s2) := Lib.hid (by have := hv.out.tle; omega)
        replace hS := Lib.hid (hS.out.up hb)
        replace hv := Lib.hid (hv.out.up hb)
        have hw2 : Hid (CpA s2 t2 y2 (.slice e0 6 e1) (.slice e2 U.classes.length e3) (.slice e4 9 e5) (.slice e6 U.objects.length e7) U) := Lib.hid (by rw [hs9, ht9]; exact CpA.born hcp)
        clear hs9 ht9 hqs hcp hb
        go_wp2_with fail
        refine hK.out _ _ ?_ ?_
        · (try dsimp only); exact hS.out
        clear hK K9 hHeld; intro hHeld
        try simp only [Act.put, List.setIfInBounds_toArray, List.set_cons_zero, List.set_cons_succ]
        refine wpAnyH_ready (rs := [4, 5]) (by kernel_rfl) (by simp) ?_
        refine AllReadyH.cons (o := { dst := some 10, op := Op.alloc 28, type := 0, pos := "law.go:132", after := #[], guard := none }) rfl (fun K9 hK => ?_) ?_
        · go_simp
          have hba := (Below.refl y2.heap.size y2).alloc (Nat.le_refl _) (.cells #[.slice none 0 0, .slice none 0 0, .slice none 0 0, .slice none 0 0, .int .i64 0] 28)
          have hqs := hS.out.qlt
          have hq10 : Hid (Q < y2.heap.size) := Lib.hid hqs
          have n10 : Hid (y2.heap.size < s1 ∨ t1 ≤ y2.heap.size) := Lib.hid (Or.inr hv.out.tle)
          have m10 : Hid (y2.heap.size < s2 ∨ t2 ≤ y2.heap.size) := Lib.hid (Or.inr hw2.out.tle)
          replace hS := Lib.hid (hS.out.up hba)
          replace hv := Lib.hid (hv.out.up hba)
          replace hw2 := Lib.hid (hw2.out.up hba)
          have hz10 : Hid ((y2.alloc (.cells #[.slice none 0 0, .slice none 0 0, .slice none 0 0, .slice none 0 0, .int .i64 0] 28)).heap[y2.heap.size]? = some uz5) := Lib.hid (heap_alloc_new y2 _)
          clear hba hqs
          generalize hgy : y2.alloc (.cells #[.slice none 0 0, .slice none 0 0, .slice none 0 0, .slice none 0 0, .int .i64 0] 28) = y3 at *
          clear hgy
          generalize y2.heap.size = b10 at *
          refine hK.out _ _ ?_ ?_
          · (try dsimp only); exact hS.out
          clear hK K9 hHeld; intro hHeld
          try simp only [Act.put, List.setIfInBounds_toArray, List.set_cons_zero, List.set_cons_succ]
          refine wpAnyH_ready (rs := [5]) (by kernel_rfl) (by simp) ?_
          refine AllReadyH.cons (o := { dst := some 11, op := Op.alloc 28, type := 0, pos := "law.go:132", after := #[], guard := none }) rfl (fun K9 hK => ?_) ?_
          · go_simp
            have hba := (Below.refl y3.heap.size y3).alloc (Nat.le_refl _) (.cells #[.slice none 0 0, .slice none 0 0, .slice none 0 0, .slice none 0 0, .int .i64 0] 28)
            have hqs := hS.out.qlt
            have hq11 : Hid (Q < y3.heap.size) := Lib.hid hqs
            have n11 : Hid (y3.heap.size < s1 ∨ t1 ≤ y3.heap.size) := Lib.hid (Or.inr hv.out.tle)
            have m11 : Hid (y3.heap.size < s2 ∨ t2 ≤ y3.heap.size) := Lib.hid (Or.inr hw2.out.tle)
            have nex : Hid (b10 ≠ y3.heap.size) := Lib.hid (fun e => by have := block_lt hz10.out; omega)
            replace hS := Lib.hid (hS.out.up hba)
            replace hz10 := Lib.hid (block_up hz10.out hba)
            replace hv := Lib.hid (hv.out.up hba)
            replace hw2 := Lib.hid (hw2.out.up hba)
            have hz11 : Hid ((y3.alloc (.cells #[.slice none 0 0, .slice none 0 0, .slice none 0 0, .slice none 0 0, .int .i64 0] 28)).heap[y3.heap.size]? = some uz5) := Lib.hid (heap_alloc_new y3 _)
            clear hba hqs
            generalize hgy : y3.alloc (.cells #[.slice none 0 0, .slice none 0 0, .slice none 0 0, .slice none 0 0, .int .i64 0] 28) = y4 at *
            clear hgy
            generalize y3.heap.size = b11 at *
            refine hK.out _ _ ?_ ?_
            · (try dsimp only); exact hS.out
            clear hK K9 hHeld; intro hHeld
            try simp only [Act.put, List.setIfInBounds_toArray, List.set_cons_zero, List.set_cons_succ]
            refine wpAnyH_ready (rs := [6]) (by kernel_rfl) (by simp) ?_
            refine AllReadyH.cons (o := { dst := none, op := Op.store 28 (Operand.tmp 10) (Operand.tmp 21), type := 0, pos := "law.go:132", after := #[{ on := 4, ground := Ground.data }, { on := 1, ground := Ground.data }, { on := 3, ground := Ground.chain }, { on := 0, ground := Ground.phase }, { on := 1, ground := Ground.phase }, { on := 2, ground := Ground.textOnly Departure.lateStores }, { on := 3, ground := Ground.textOnly Departure.lateStoresUnsure }, { on := 4, ground := Ground.phase }, { on := 5, ground := Ground.phase }], guard := none }) rfl (fun K9 hK => ?_) ?_
            · obtain ⟨hth, hx10, hcg⟩ := box_store hz10.out (.slice a0 6 a1) (.slice a2 U.classes.length a3) (.slice a4 9 a5) (.slice a6 U.objects.length a7) (.int .i64 6)
              refine step_store_mid rfl 28 (.tmp 10) (.tmp 21) rfl b10 0 #[.slice a0 6 a1, .slice a2 U.classes.length a3, .slice a4 9 a5, .slice a6 U.objects.length a7, .int .i64 6] (by simp [Act.eval]) (by simp [Act.eval]) hth infoU (one5 _ _ _ _ _ _ _ _ _ _ _ _ _) ?_
              show K9 _ (y4.setCells b10 0 [.slice a0 6 a1, .slice a2 U.classes.length a3, .slice a4 9 a5, .slice a6 U.objects.length a7, .int .i64 6])
              replace hS := Lib.hid (hS.out.cg hcg (fun q e => by subst e; exact hq10.out))
              replace hv := Lib.hid (hv.out.step hcg (fun q e => by subst e; exact n10.out))
              replace hw2 := Lib.hid (hw2.out.step hcg (fun q e => by subst e; exact m10.out))
              replace hz11 := Lib.hid ((hcg.block b11 (block_lt hz11.out) (fun e => nex.out e.symm)).trans hz11.out)
              replace hx10 := Lib.hid hx10
              clear hth hcg hz10
              generalize hgy : y4.setCells b10 0 [.slice a0 6 a1, .slice a2 U.classes.length a3, .slice a4 9 a5, .slice a6 U.objects.length a7, .int .i64 6] = y5 at *
              clear hgy
              refine hK.out _ _ ?_ ?_
              · (try dsimp only); exact hS.out
              clear hK K9 hHeld; intro hHeld
              try simp only [Act.put]
              refine wpAnyH_ready (rs := [7]) (by kernel_rfl) (by simp) ?_
              refine AllReadyH.cons (o := { dst := none, op := Op.store 28 (Operand.tmp 11) (Operand.tmp 23), type := 0, pos := "law.go:132", after := #[{ on := 5, ground := Ground.data }, { on := 3, ground := Ground.data }, { on := 6, ground := Ground.chain }, { on := 0, ground := Ground.phase }, { on := 1, ground := Ground.phase }, { on := 2, ground := Ground.phase }, { on := 3, ground := Ground.phase }, { on := 4, ground := Ground.phase }, { on := 5, ground := Ground.phase }, { on := 6, ground := Ground.phase }], guard := none }) rfl (fun K9 hK => ?_) ?_
              · obtain ⟨hth, hx11, hcg⟩ := box_store hz11.out (.slice e0 6 e1) (.slice e2 U.classes.length e3) (.slice e4 9 e5) (.slice e6 U.objects.length e7) (.int .i64 6)
                refine step_store_mid rfl 28 (.tmp 11) (.tmp 23) rfl b11 0 #[.slice e0 6 e1, .slice e2 U.classes.length e3, .slice e4 9 e5, .slice e6 U.objects.length e7, .int .i64 6] (by simp [Act.eval]) (by simp [Act.eval]) hth infoU (one5 _ _ _ _ _ _ _ _ _ _ _ _ _) ?_
                show K9 _ (y5.setCells b11 0 [.slice e0 6 e1, .slice e2 U.classes.length e3, .slice e4 9 e5, .slice e6 U.objects.length e7, .int .i64 6])
                replace hS := Lib.hid (hS.out.cg hcg (fun q e => by subst e; exact hq11.out))
                replace hv := Lib.hid (hv.out.step hcg (fun q e => by subst e; exact n11.out))
                replace hw2 := Lib.hid (hw2.out.step hcg (fun q e => by subst e; exact m11.out))
                replace hx10 := Lib.hid (hx10.out.cg hcg (fun e => nex.out e))
                replace hx11 := Lib.hid hx11
                clear hth hcg hz11
                generalize hgy : y5.setCells b11 0 [.slice e0 6 e1, .slice e2 U.classes.length e3, .slice e4 9 e5, .slice e6 U.objects.length e7, .int .i64 6] = y6 at *
                clear hgy
                refine hK.out _ _ ?_ ?_
                · (try dsimp only); exact hS.out
                clear hK K9 hHeld; intro hHeld
                try simp only [Act.put]
                refine wpAnyH_done (by kernel_rfl) ?_ _
                go_wp2
                go_meet
                exact ⟨s1, t1, s2, t2, b10, b11, _, _, _, _, _, _, _, _, rfl, rfl, Lib.hid ⟨hS.out, hx10.out, hx11.out, hv.out, hw2.out, h12.out, hq1.out, n10.out, n11.out, ⟨_, _, _, _, _, _, _, _, rfl, rfl, rfl, rfl⟩, ⟨_, _, _, _, _, _, _, _, rfl, rfl, rfl, rfl⟩⟩⟩
              exact AllReadyH.nil
            exact AllReadyH.nil
          exact AllReadyH.nil
        refine AllReadyH.cons (o := { dst := some 11, op := Op.alloc 28, type := 0, pos := "law.go:132", after := #[], guard := none }) rfl (fun K9 hK => ?_) ?_
        · go_simp
          have hba := (Below.refl y2.heap.size y2).alloc (Nat.le_refl _) (.cells #[.slice none 0 0, .slice none 0 0, .slice none 0 0, .slice none 0 0, .int .i64 0] 28)
          have hqs := hS.out.qlt
          have hq11 : Hid (Q < y2.heap.size) := Lib.hid hqs
          have n11 : Hid (y2.heap.size < s1 ∨ t1 ≤ y2.heap.size) := Lib.hid (Or.inr hv.out.tle)
          have m11 : Hid (y2.heap.size < s2 ∨ t2 ≤ y2.heap.size) := Lib.hid (Or.inr hw2.out.tle)
          replace hS := Lib.hid (hS.out.up hba)
          replace hv := Lib.hid (hv.out.up hba)
          replace hw2 := Lib.hid (hw2.out.up hba)
          have hz11 : Hid ((y2.alloc (.cells #[.slice none 0 0, .slice none 0 0, .slice none 0 0, .slice none 0 0, .int .i64 0] 28)).heap[y2.heap.size]? = some uz5) := Lib.hid (heap_alloc_new y2 _)
          clear hba hqs
          generalize hgy : y2.alloc (.cells #[.slice none 0 0, .slice none 0 0, .slice none 0 0, .slice none 0 0, .int .i64 0] 28) = y3 at *
          clear hgy
          generalize y2.heap.size = b11 at *
          refine hK.out _ _ ?_ ?_
          · (try dsimp only); exact hS.out
          clear hK K9 hHeld; intro hHeld
          try simp only [Act.put, List.setIfInBounds_toArray, List.set_cons_zero, List.set_cons_succ]
          refine wpAnyH_ready (rs := [4]) (by kernel_rfl) (by simp) ?_
          refine AllReadyH.cons (o := { dst := some 10, op := Op.alloc 28, type := 0, pos := "law.go:132", after := #[], guard := none }) rfl (fun K9 hK => ?_) ?_
          · go_simp
            have hba := (Below.refl y3.heap.size y3).alloc (Nat.le_refl _) (.cells #[.slice none 0 0, .slice none 0 0, .slice none 0 0, .slice none 0 0, .int .i64 0] 28)
            have hqs := hS.out.qlt
            have hq10 : Hid (Q < y3.heap.size) := Lib.hid hqs
            have n10 : Hid (y3.heap.size < s1 ∨ t1 ≤ y3.heap.size) := Lib.hid (Or.inr hv.out.tle)
            have m10 : Hid (y3.heap.size < s2 ∨ t2 ≤ y3.heap.size) := Lib.hid (Or.inr hw2.out.tle)
            have nex : Hid (b11 ≠ y3.heap.size) := Lib.hid (fun e => by have := block_lt hz11.out; omega)
            replace hS := Lib.hid (hS.out.up hba)
            replace hz11 := Lib.hid (block_up hz11.out hba)
            replace hv := Lib.hid (hv.out.up hba)
            replace hw2 := Lib.hid (hw2.out.up hba)
            have hz10 : Hid ((y3.alloc (.cells #[.slice none 0 0, .slice none 0 0, .slice none 0 0, .slice none 0 0, .int .i64 0] 28)).heap[y3.heap.size]? = some uz5) := Lib.hid (heap_alloc_new y3 _)
            clear hba hqs
            generalize hgy : y3.alloc (.cells #[.slice none 0 0, .slice none 0 0, .slice none 0 0, .slice none 0 0, .int .i64 0] 28) = y4 at *
            clear hgy
            generalize y3.heap.size = b10 at *
            refine hK.out _ _ ?_ ?_
            · (try dsimp only); exact hS.out
            clear hK K9 hHeld; intro hHeld
            try simp only [Act.put, List.setIfInBounds_toArray, List.set_cons_zero, List.set_cons_succ]
            refine wpAnyH_ready (rs := [6]) (by kernel_rfl) (by simp) ?_
            refine AllReadyH.cons (o := { dst := none, op := Op.store 28 (Operand.tmp 10) (Operand.tmp 21), type := 0, pos := "law.go:132", after := #[{ on := 4, ground := Ground.data }, { on := 1, ground := Ground.data }, { on := 3, ground := Ground.chain }, { on := 0, ground := Ground.phase }, { on := 1, ground := Ground.phase }, { on := 2, ground := Ground.textOnly Departure.lateStores }, { on := 3, ground := Ground.textOnly Departure.lateStoresUnsure }, { on := 4, ground := Ground.phase }, { on := 5, ground := Ground.phase }], guard := none }) rfl (fun K9 hK => ?_) ?_
            · obtain ⟨hth, hx10, hcg⟩ := box_store hz10.out (.slice a0 6 a1) (.slice a2 U.classes.length a3) (.slice a4 9 a5) (.slice a6 U.objects.length a7) (.int .i64 6)
              refine step_store_mid rfl 28 (.tmp 10) (.tmp 21) rfl b10 0 #[.slice a0 6 a1, .slice a2 U.classes.length a3, .slice a4 9 a5, .slice a6 U.objects.length a7, .int .i64 6] (by simp [Act.eval]) (by simp [Act.eval]) hth infoU (one5 _ _ _ _ _ _ _ _ _ _ _ _ _) ?_
              show K9 _ (y4.setCells b10 0 [.slice a0 6 a1, .slice a2 U.classes.length a3, .slice a4 9 a5, .slice a6 U.objects.length a7, .int .i64 6])
              replace hS := Lib.hid (hS.out.cg hcg (fun q e => by subst e; exact hq10.out))
              replace hv := Lib.hid (hv.out.step hcg (fun q e => by subst e; exact n10.out))
              replace hw2 := Lib.hid (hw2.out.step hcg (fun q e => by subst e; exact m10.out))
              replace hz11 := Lib.hid ((hcg.block b11 (block_lt hz11.out) (fun e => nex.out e)).trans hz11.out)
              replace hx10 := Lib.hid hx10
              clear hth hcg hz10
              generalize hgy : y4.setCells b10 0 [.slice a0 6 a1, .slice a2 U.classes.length a3, .slice a4 9 a5, .slice a6 U.objects.length a7, .int .i64 6] = y5 at *
              clear hgy
              refine hK.out _ _ ?_ ?_
              · (try dsimp only); exact hS.out
              clear hK K9 hHeld; intro hHeld
              try simp only [Act.put]
              refine wpAnyH_ready (rs := [7]) (by kernel_rfl) (by simp) ?_
              refine AllReadyH.cons (o := { dst := none, op := Op.store 28 (Operand.tmp 11) (Operand.tmp 23), type := 0, pos := "law.go:132", after := #[{ on := 5, ground := Ground.data }, { on := 3, ground := Ground.data }, { on := 6, ground := Ground.chain }, { on := 0, ground := Ground.phase }, { on := 1, ground := Ground.phase }, { on := 2, ground := Ground.phase }, { on := 3, ground := Ground.phase }, { on := 4, ground := Ground.phase }, { on := 5, ground := Ground.phase }, { on := 6, ground := Ground.phase }], guard := none }) rfl (fun K9 hK => ?_) ?_
              · obtain ⟨hth, hx11, hcg⟩ := box_store hz11.out (.slice e0 6 e1) (.slice e2 U.classes.length e3) (.slice e4 9 e5) (.slice e6 U.objects.length e7) (.int .i64 6)
                refine step_store_mid rfl 28 (.tmp 11) (.tmp 23) rfl b11 0 #[.slice e0 6 e1, .slice e2 U.classes.length e3, .slice e4 9 e5, .slice e6 U.objects.length e7, .int .i64 6] (by simp [Act.eval]) (by simp [Act.eval]) hth infoU (one5 _ _ _ _ _ _ _ _ _ _ _ _ _) ?_
                show K9 _ (y5.setCells b11 0 [.slice e0 6 e1, .slice e2 U.classes.length e3, .slice e4 9 e5, .slice e6 U.objects.length e7, .int .i64 6])
                replace hS := Lib.hid (hS.out.cg hcg (fun q e => by subst e; exact hq11.out))
                replace hv := Lib.hid (hv.out.step hcg (fun q e => by subst e; exact n11.out))
                replace hw2 := Lib.hid (hw2.out.step hcg (fun q e => by subst e; exact m11.out))
                replace hx10 := Lib.hid (hx10.out.cg hcg (fun e => nex.out e.symm))
                replace hx11 := Lib.hid hx11
                clear hth hcg hz11
                generalize hgy : y5.setCells b11 0 [.slice e0 6 e1, .slice e2 U.classes.length e3, .slice e4 9 e5, .slice e6 U.objects.length e7, .int .i64 6] = y6 at *
                clear hgy
                refine hK.out _ _ ?_ ?_
                · (try dsimp only); exact hS.out
                clear hK K9 hHeld; intro hHeld
                try simp only [Act.put]
                refine wpAnyH_done (by kernel_rfl) ?_ _
                go_wp2
                go_meet
                exact ⟨s1, t1, s2, t2, b10, b11, _, _, _, _, _, _, _, _, rfl, rfl, Lib.hid ⟨hS.out, hx10.out, hx11.out, hv.out, hw2.out, h12.out, hq1.out, n10.out, n11.out, ⟨_, _, _, _, _, _, _, _, rfl, rfl, rfl, rfl⟩, ⟨_, _, _, _, _, _, _, _, rfl, rfl, rfl, rfl⟩⟩⟩
              exact AllReadyH.nil
            exact AllReadyH.nil
          exact AllReadyH.nil
        exact AllReadyH.nil
      refine AllReadyH.cons (o := { dst := some 10, op := Op.alloc 28, type := 0, pos := "law.go:132", after := #[], guard := none }) rfl (fun K9 hK => ?_) ?_
      · go_simp
        have hba := (Below.refl y1.heap.size y1).alloc (Nat.le_refl _) (.cells #[.slice none 0 0, .slice none 0 0, .slice none 0 0, .slice none 0 0, .int .i64 0] 28)
        have hqs := hS.out.qlt
        have hq10 : Hid (Q < y1.heap.size) := Lib.hid hqs
        have n10 : Hid (y1.heap.size < s1 ∨ t1 ≤ y1.heap.size) := Lib.hid (Or.inr hv.out.tle)
        replace hS := Lib.hid (hS.out.up hba)
        replace hv := Lib.hid (hv.out.up hba)
        have hz10 : Hid ((y1.alloc (.cells #[.slice none 0 0, .slice none 0 0, .slice none 0 0, .slice none 0 0, .int .i64 0] 28)).heap[y1.heap.size]? = some uz5) := Lib.hid (heap_alloc_new y1 _)
        clear hba hqs
        generalize hgy : y1.alloc (.cells #[.slice none 0 0, .slice none 0 0, .slice none 0 0, .slice none 0 0, .int .i64 0] 28) = y2 at *
        clear hgy
        generalize y1.heap.size = b10 at *
        refine hK.out _ _ ?_ ?_
        · (try dsimp only); exact hS.out
        clear hK K9 hHeld; intro hHeld
        try simp only [Act.put, List.setIfInBounds_toArray, List.set_cons_zero, List.set_cons_succ]
        refine wpAnyH_ready (rs := [3, 5]) (by kernel_rfl) (by simp) ?_
        refine AllReadyH.cons (o := { dst := some 23, op := Op.call { callee := Callee.value (Operand.func 11), args := #[Operand.tmp 22], argTypes := #[28] }, type := 28, pos := "law.go:132", after := #[{ on := 2, ground := Ground.data }, { on := 1, ground := Ground.chain }], guard := none }) rfl (fun K9 hK => ?_) ?_
        · go_simp
          with_reducible refine (PC.out _ hS.out.k6').mono ?_
          rintro e y3 ⟨nv, cv, mv, ov, rfl, hcp, hb⟩
          obtain ⟨e0, e1, e2, e3, e4, e5, e6, e7, rfl, rfl, rfl, rfl⟩ := cp_forms hcp.un hT'.out
          obtain ⟨s2, hs9⟩ : ∃ s, s = y2.heap.size := ⟨_, rfl⟩
          obtain ⟨t2, ht9⟩ : ∃ t, t = y3.heap.size := ⟨_, rfl⟩
          have hqs := hS.out.qlt
          have h12 : Hid (t1 ≤ s2) := Lib.hid (by have := hv.out.tle; omega)
          have m10 : Hid (b10 < s2 ∨ t2 ≤ b10) := Lib.hid (Or.inl (by have := block_lt hz10.out; omega))
          replace hS := Lib.hid (hS.out.up hb)
          replace hz10 := Lib.hid (block_up hz10.out hb)
          replace hv := Lib.hid (hv.out.up hb)
          have hw2 : Hid (CpA s2 t2 y3 (.slice e0 6 e1) (.slice e2 U.classes.length e3) (.slice e4 9 e5) (.slice e6 U.objects.length e7) U) := Lib.hid (by rw [hs9, ht9]; exact CpA.born hcp)
          clear hs9 ht9 hqs hcp hb
          go_wp2_with fail
          refine hK.out _ _ ?_ ?_
          · (try dsimp only); exact hS.out
          clear hK K9 hHeld; intro hHeld
          try simp only [Act.put, List.setIfInBounds_toArray, List.set_cons_zero, List.set_cons_succ]
          refine wpAnyH_ready (rs := [5]) (by kernel_rfl) (by simp) ?_
          refine AllReadyH.cons (o := { dst := some 11, op := Op.alloc 28, type := 0, pos := "law.go:132", after := #[], guard := none }) rfl (fun K9 hK => ?_) ?_
          · go_simp
            have hba := (Below.refl y3.heap.size y3).alloc (Nat.le_refl _) (.cells #[.slice none 0 0, .slice none 0 0, .slice none 0 0, .slice none 0 0, .int .i64 0] 28)
            have hqs := hS.out.qlt
            have hq11 : Hid (Q < y3.heap.size) := Lib.hid hqs
            have n11 : Hid (y3.heap.size < s1 ∨ t1 ≤ y3.heap.size) := Lib.hid (Or.inr hv.out.tle)
            have m11 : Hid (y3.heap.size < s2 ∨ t2 ≤ y3.heap.size) := Lib.hid (Or.inr hw2.out.tle)
            have nex : Hid (b10 ≠ y3.heap.size) := Lib.hid (fun e => by have := block_lt hz10.out; omega)
            replace hS := Lib.hid (hS.out.up hba)
            replace hz10 := Lib.hid (block_up hz10.out hba)
            replace hv := Lib.hid (hv.out.up hba)
            replace hw2 := Lib.hid (hw2.out.up hba)
            have hz11 : Hid ((y3.alloc (.cells #[.slice none 0 0, .slice none 0 0, .slice none 0 0, .slice none 0 0, .int .i64 0] 28)).heap[y3.heap.size]? = some uz5) := Lib.hid (heap_alloc_new y3 _)
            clear hba hqs
            generalize hgy : y3.alloc (.cells #[.slice none 0 0, .slice none 0 0, .slice none 0 0, .slice none 0 0, .int .i64 0] 28) = y4 at *
            clear hgy
            generalize y3.heap.size = b11 at *
            refine hK.out _ _ ?_ ?_
            · (try dsimp only); exact hS.out
            clear hK K9 hHeld; intro hHeld
            try simp only [Act.put, List.setIfInBounds_toArray, List.set_cons_zero, List.set_cons_succ]
            refine wpAnyH_ready (rs := [6]) (by kernel_rfl) (by simp) ?_
            refine AllReadyH.cons (o := { dst := none, op := Op.store 28 (Operand.tmp 10) (Operand.tmp 21), type := 0, pos := "law.go:132", after := #[{ on := 4, ground := Ground.data }, { on := 1, ground := Ground.data }, { on := 3, ground := Ground.chain }, { on := 0, ground := Ground.phase }, { on := 1, ground := Ground.phase }, { on := 2, ground := Ground.textOnly Departure.lateStores }, { on := 3, ground := Ground.textOnly Departure.lateStoresUnsure }, { on := 4, ground := Ground.phase }, { on := 5, ground := Ground.phase }], guard := none }) rfl (fun K9 hK => ?_) ?_
            · obtain ⟨hth, hx10, hcg⟩ := box_store hz10.out (.slice a0 6 a1) (.slice a2 U.classes.length a3) (.slice a4 9 a5) (.slice a6 U.objects.length a7) (.int .i64 6)
              refine step_store_mid rfl 28 (.tmp 10) (.tmp 21) rfl b10 0 #[.slice a0 6 a1, .slice a2 U.classes.length a3, .slice a4 9 a5, .slice a6 U.objects.length a7, .int .i64 6] (by simp [Act.eval]) (by simp [Act.eval]) hth infoU (one5 _ _ _ _ _ _ _ _ _ _ _ _ _) ?_
              show K9 _ (y4.setCells b10 0 [.slice a0 6 a1, .slice a2 U.classes.length a3, .slice a4 9 a5, .slice a6 U.objects.length a7, .int .i64 6])
              replace hS := Lib.hid (hS.out.cg hcg (fun q e => by subst e; exact hq10.out))
              replace hv := Lib.hid (hv.out.step hcg (fun q e => by subst e; exact n10.out))
              replace hw2 := Lib.hid (hw2.out.step hcg (fun q e => by subst e; exact m10.out))
              replace hz11 := Lib.hid ((hcg.block b11 (block_lt hz11.out) (fun e => nex.out e.symm)).trans hz11.out)
              replace hx10 := Lib.hid hx10
              clear hth hcg hz10
              generalize hgy : y4.setCells b10 0 [.slice a0 6 a1, .slice a2 U.classes.length a3, .slice a4 9 a5, .slice a6 U.objects.length a7, .int .i64 6] = y5 at *
              clear hgy
              refine hK.out _ _ ?_ ?_
              · (try dsimp only); exact hS.out
              clear hK K9 hHeld; intro hHeld
              try simp only [Act.put]
              refine wpAnyH_ready (rs := [7]) (by kernel_rfl) (by simp) ?_
              refine AllReadyH.cons (o := { dst := none, op := Op.store 28 (Operand.tmp 11) (Operand.tmp 23), type := 0, pos := "law.go:132", after := #[{ on := 5, ground := Ground.data }, { on := 3, ground := Ground.data }, { on := 6, ground := Ground.chain }, { on := 0, ground := Ground.phase }, { on := 1, ground := Ground.phase }, { on := 2, ground := Ground.phase }, { on := 3, ground := Ground.phase }, { on := 4, ground := Ground.phase }, { on := 5, ground := Ground.phase }, { on := 6, ground := Ground.phase }], guard := none }) rfl (fun K9 hK => ?_) ?_
              · obtain ⟨hth, hx11, hcg⟩ := box_store hz11.out (.slice e0 6 e1) (.slice e2 U.classes.length e3) (.slice e4 9 e5) (.slice e6 U.objects.length e7) (.int .i64 6)
                refine step_store_mid rfl 28 (.tmp 11) (.tmp 23) rfl b11 0 #[.slice e0 6 e1, .slice e2 U.classes.length e3, .slice e4 9 e5, .slice e6 U.objects.length e7, .int .i64 6] (by simp [Act.eval]) (by simp [Act.eval]) hth infoU (one5 _ _ _ _ _ _ _ _ _ _ _ _ _) ?_
                show K9 _ (y5.setCells b11 0 [.slice e0 6 e1, .slice e2 U.classes.length e3, .slice e4 9 e5, .slice e6 U.objects.length e7, .int .i64 6])
                replace hS := Lib.hid (hS.out.cg hcg (fun q e => by subst e; exact hq11.out))
                replace hv := Lib.hid (hv.out.step hcg (fun q e => by subst e; exact n11.out))
                replace hw2 := Lib.hid (hw2.out.step hcg (fun q e => by subst e; exact m11.out))
                replace hx10 := Lib.hid (hx10.out.cg hcg (fun e => nex.out e))
                replace hx11 := Lib.hid hx11
                clear hth hcg hz11
                generalize hgy : y5.setCells b11 0 [.slice e0 6 e1, .slice e2 U.classes.length e3, .slice e4 9 e5, .slice e6 U.objects.length e7, .int .i64 6] = y6 at *
                clear hgy
                refine hK.out _ _ ?_ ?_
                · (try dsimp only); exact hS.out
                clear hK K9 hHeld; intro hHeld
                try simp only [Act.put]
                refine wpAnyH_done (by kernel_rfl) ?_ _
                go_wp2
                go_meet
                exact ⟨s1, t1, s2, t2, b10, b11, _, _, _, _, _, _, _, _, rfl, rfl, Lib.hid ⟨hS.out, hx10.out, hx11.out, hv.out, hw2.out, h12.out, hq1.out, n10.out, n11.out, ⟨_, _, _, _, _, _, _, _, rfl, rfl, rfl, rfl⟩, ⟨_, _, _, _, _, _, _, _, rfl, rfl, rfl, rfl⟩⟩⟩
              exact AllReadyH.nil
            exact AllReadyH.nil
          exact AllReadyH.nil
        refine AllReadyH.cons (o := { dst := some 11, op := Op.alloc 28, type := 0, pos := "law.go:132", after := #[], guard := none }) rfl (fun K9 hK => ?_) ?_
        · go_simp
          have hba := (Below.refl y2.heap.size y2).alloc (Nat.le_refl _) (.cells #[.slice none 0 0, .slice none 0 0, .slice none 0 0, .slice none 0 0, .int .i64 0] 28)
          have hqs := hS.out.qlt
          have hq11 : Hid (Q < y2.heap.size) := Lib.hid hqs
          have n11 : Hid (y2.heap.size < s1 ∨ t1 ≤ y2.heap.size) := Lib.hid (Or.inr hv.out.tle)
          have nex : Hid (b10 ≠ y2.heap.size) := Lib.hid (fun e => by have := block_lt hz10.out; omega)
          replace hS := Lib.hid (hS.out.up hba)
          replace hz10 := Lib.hid (block_up hz10.out hba)
          replace hv := Lib.hid (hv.out.up hba)
          have hz11 : Hid ((y2.alloc (.cells #[.slice none 0 0, .slice none 0 0, .slice none 0 0, .slice none 0 0, .int .i64 0] 28)).heap[y2.heap.size]? = some uz5) := Lib.hid (heap_alloc_new y2 _)
          clear hba hqs
          generalize hgy : y2.alloc (.cells #[.slice none 0 0, .slice none 0 0, .slice none 0 0, .slice none 0 0, .int .i64 0] 28) = y3 at *
          clear hgy
          generalize y2.heap.size = b11 at *
          refine hK.out _ _ ?_ ?_
          · (try dsimp only); exact hS.out
          clear hK K9 hHeld; intro hHeld
          try simp only [Act.put, List.setIfInBounds_toArray, List.set_cons_zero, List.set_cons_succ]
          refine wpAnyH_ready (rs := [3]) (by kernel_rfl) (by simp) ?_
          refine AllReadyH.cons (o := { dst := some 23, op := Op.call { callee := Callee.value (Operand.func 11), args := #[Operand.tmp 22], argTypes := #[28] }, type := 28, pos := "law.go:132", after := #[{ on := 2, ground := Ground.data }, { on := 1, ground := Ground.chain }], guard := none }) rfl (fun K9 hK => ?_) ?_
          · go_simp
            with_reducible refine (PC.out _ hS.out.k6').mono ?_
            rintro e y4 ⟨nv, cv, mv, ov, rfl, hcp, hb⟩
            obtain ⟨e0, e1, e2, e3, e4, e5, e6, e7, rfl, rfl, rfl, rfl⟩ := cp_forms hcp.un hT'.out
            obtain ⟨s2, hs9⟩ : ∃ s, s = y3.heap.size := ⟨_, rfl⟩
            obtain ⟨t2, ht9⟩ : ∃ t, t = y4.heap.size := ⟨_, rfl⟩
            have hqs := hS.out.qlt
            have h12 : Hid (t1 ≤ s2) := Lib.hid (by have := hv.out.tle; omega)
            have m10 : Hid (b10 < s2 ∨ t2 ≤ b10) := Lib.hid (Or.inl (by have := block_lt hz10.out; omega))
            have m11 : Hid (b11 < s2 ∨ t2 ≤ b11) := Lib.hid (Or.inl (by have := block_lt hz11.out; omega))
            replace hS := Lib.hid (hS.out.up hb)
            replace hz10 := Lib.hid (block_up hz10.out hb)
            replace hz11 := Lib.hid (block_up hz11.out hb)
            replace hv := Lib.hid (hv.out.up hb)
            have hw2 : Hid (CpA s2 t2 y4 (.slice e0 6 e1) (.slice e2 U.classes.length e3) (.slice e4 9 e5) (.slice e6 U.objects.length e7) U) := Lib.hid (by rw [hs9, ht9]; exact CpA.born hcp)
            clear hs9 ht9 hqs hcp hb
            go_wp2_with fail
            refine hK.out _ _ ?_ ?_
            · (try dsimp only); exact hS.out
            clear hK K9 hHeld; intro hHeld
            try simp only [Act.put, List.setIfInBounds_toArray, List.set_cons_zero, List.set_cons_succ]
            refine wpAnyH_ready (rs := [6]) (by kernel_rfl) (by simp) ?_
            refine AllReadyH.cons (o := { dst := none, op := Op.store 28 (Operand.tmp 10) (Operand.tmp 21), type := 0, pos := "law.go:132", after := #[{ on := 4, ground := Ground.data }, { on := 1, ground := Ground.data }, { on := 3, ground := Ground.chain }, { on := 0, ground := Ground.phase }, { on := 1, ground := Ground.phase }, { on := 2, ground := Ground.textOnly Departure.lateStores }, { on := 3, ground := Ground.textOnly Departure.lateStoresUnsure }, { on := 4, ground := Ground.phase }, { on := 5, ground := Ground.phase }], guard := none }) rfl (fun K9 hK => ?_) ?_
            · obtain ⟨hth, hx10, hcg⟩ := box_store hz10.out (.slice a0 6 a1) (.slice a2 U.classes.length a3) (.slice a4 9 a5) (.slice a6 U.objects.length a7) (.int .i64 6)
              refine step_store_mid rfl 28 (.tmp 10) (.tmp 21) rfl b10 0 #[.slice a0 6 a1, .slice a2 U.classes.length a3, .slice a4 9 a5, .slice a6 U.objects.length a7, .int .i64 6] (by simp [Act.eval]) (by simp [Act.eval]) hth infoU (one5 _ _ _ _ _ _ _ _ _ _ _ _ _) ?_
              show K9 _ (y4.setCells b10 0 [.slice a0 6 a1, .slice a2 U.classes.length a3, .slice a4 9 a5, .slice a6 U.objects.length a7, .int .i64 6])
              replace hS := Lib.hid (hS.out.cg hcg (fun q e => by subst e; exact hq10.out))
              replace hv := Lib.hid (hv.out.step hcg (fun q e => by subst e; exact n10.out))
              replace hw2 := Lib.hid (hw2.out.step hcg (fun q e => by subst e; exact m10.out))
              replace hz11 := Lib.hid ((hcg.block b11 (block_lt hz11.out) (fun e => nex.out e.symm)).trans hz11.out)
              replace hx10 := Lib.hid hx10
              clear hth hcg hz10
              generalize hgy : y4.setCells b10 0 [.slice a0 6 a1, .slice a2 U.classes.length a3, .slice a4 9 a5, .slice a6 U.objects.length a7, .int .i64 6] = y5 at *
              clear hgy
              refine hK.out _ _ ?_ ?_
              · (try dsimp only); exact hS.out
              clear hK K9 hHeld; intro hHeld
              try simp only [Act.put]
              refine wpAnyH_ready (rs := [7]) (by kernel_rfl) (by simp) ?_
              refine AllReadyH.cons (o := { dst := none, op := Op.store 28 (Operand.tmp 11) (Operand.tmp 23), type := 0, pos := "law.go:132", after := #[{ on := 5, ground := Ground.data }, { on := 3, ground := Ground.data }, { on := 6, ground := Ground.chain }, { on := 0, ground := Ground.phase }, { on := 1, ground := Ground.phase }, { on := 2, ground := Ground.phase }, { on := 3, ground := Ground.phase }, { on := 4, ground := Ground.phase }, { on := 5, ground := Ground.phase }, { on := 6, ground := Ground.phase }], guard := none }) rfl (fun K9 hK => ?_) ?_
              · obtain ⟨hth, hx11, hcg⟩ := box_store hz11.out (.slice e0 6 e1) (.slice e2 U.classes.length e3) (.slice e4 9 e5) (.slice e6 U.objects.length e7) (.int .i64 6)
                refine step_store_mid rfl 28 (.tmp 11) (.tmp 23) rfl b11 0 #[.slice e0 6 e1, .slice e2 U.classes.length e3, .slice e4 9 e5, .slice e6 U.objects.length e7, .int .i64 6] (by simp [Act.eval]) (by simp [Act.eval]) hth infoU (one5 _ _ _ _ _ _ _ _ _ _ _ _ _) ?_
                show K9 _ (y5.setCells b11 0 [.slice e0 6 e1, .slice e2 U.classes.length e3, .slice e4 9 e5, .slice e6 U.objects.length e7, .int .i64 6])
                replace hS := Lib.hid (hS.out.cg hcg (fun q e => by subst e; exact hq11.out))
                replace hv := Lib.hid (hv.out.step hcg (fun q e => by subst e; exact n11.out))
                replace hw2 := Lib.hid (hw2.out.step hcg (fun q e => by subst e; exact m11.out))
                replace hx10 := Lib.hid (hx10.out.cg hcg (fun e => nex.out e))
                replace hx11 := Lib.hid hx11
                clear hth hcg hz11
                generalize hgy : y5.setCells b11 0 [.slice e0 6 e1, .slice e2 U.classes.length e3, .slice e4 9 e5, .slice e6 U.objects.length e7, .int .i64 6] = y6 at *
                clear hgy
                refine hK.out _ _ ?_ ?_
                · (try dsimp only); exact hS.out
                clear hK K9 hHeld; intro hHeld
                try simp only [Act.put]
                refine wpAnyH_done (by kernel_rfl) ?_ _
                go_wp2
                go_meet
                exact ⟨s1, t1, s2, t2, b10, b11, _, _, _, _, _, _, _, _, rfl, rfl, Lib.hid ⟨hS.out, hx10.out, hx11.out, hv.out, hw2.out, h12.out, hq1.out, n10.out, n11.out, ⟨_, _, _, _, _, _, _, _, rfl, rfl, rfl, rfl⟩, ⟨_, _, _, _, _, _, _, _, rfl, rfl, rfl, rfl⟩⟩⟩
              exact AllReadyH.nil
            exact AllReadyH.nil
          exact AllReadyH.nil
        exact AllReadyH.nil
      refine AllReadyH.cons (o := { dst := some 11, op := Op.alloc 28, type := 0, pos := "law.go:132", after := #[], guard := none }) rfl (fun K9 hK => ?_) ?_
      · go_simp
        have hba := (Below.refl y1.heap.size y1).alloc (Nat.le_refl _) (.cells #[.slice none 0 0, .slice none 0 0, .slice none 0 0, .slice none 0 0, .int .i64 0] 28)
        have hqs := hS.out.qlt
        have hq11 : Hid (Q < y1.heap.size) := Lib.hid hqs
        have n11 : Hid (y1.heap.size < s1 ∨ t1 ≤ y1.heap.size) := Lib.hid (Or.inr hv.out.tle)
        replace hS := Lib.hid (hS.out.up hba)
        replace hv := Lib.hid (hv.out.up hba)
        have hz11 : Hid ((y1.alloc (.cells #[.slice none 0 0, .slice none 0 0, .slice none 0 0, .slice none 0 0, .int .i64 0] 28)).heap[y1.heap.size]? = some uz5) := Lib.hid (heap_alloc_new y1 _)
        clear hba hqs
        generalize hgy : y1.alloc (.cells #[.slice none 0 0, .slice none 0 0, .slice none 0 0, .slice none 0 0, .int .i64 0] 28) = y2 at *
        clear hgy
        generalize y1.heap.size = b11 at *
        refine hK.out _ _ ?_ ?_
        · (try dsimp only); exact hS.out
        clear hK K9 hHeld; intro hHeld
        try simp only [Act.put, List.setIfInBounds_toArray, List.set_cons_zero, List.set_cons_succ]
        refine wpAnyH_ready (rs := [3, 4]) (by kernel_rfl) (by simp) ?_
        refine AllReadyH.cons (o := { dst := some 23, op := Op.call { callee := Callee.value (Operand.func 11), args := #[Operand.tmp 22], argTypes := #[28] }, type := 28, pos := "law.go:132", after := #[{ on := 2, ground := Ground.data }, { on := 1, ground := Ground.chain }], guard := none }) rfl (fun K9 hK => ?_) ?_
        · go_simp
          with_reducible refine (PC.out _ hS.out.k6').mono ?_
          rintro e y3 ⟨nv, cv, mv, ov, rfl, hcp, hb⟩
          obtain ⟨e0, e1, e2, e3, e4, e5, e6, e7, rfl, rfl, rfl, rfl⟩ := cp_forms hcp.un hT'.out
          obtain ⟨s2, hs9⟩ : ∃ s, s = y2.heap.size := ⟨_, rfl⟩
          obtain ⟨t2, ht9⟩ : ∃ t, t = y3.heap.size := ⟨_, rfl⟩
          have hqs := hS.out.qlt
          have h12 : Hid (t1 ≤ s2) := Lib.hid (by have := hv.out.tle; omega)
          have m11 : Hid (b11 < s2 ∨ t2 ≤ b11) := Lib.hid (Or.inl (by have := block_lt hz11.out; omega))
          replace hS := Lib.hid (hS.out.up hb)
          replace hz11 := Lib.hid (block_up hz11.out hb)
          replace hv := Lib.hid (hv.out.up hb)
          have hw2 : Hid (CpA s2 t2 y3 (.slice e0 6 e1) (.slice e2 U.classes.length e3) (.slice e4 9 e5) (.slice e6 U.objects.length e7) U) := Lib.hid (by rw [hs9, ht9]; exact CpA.born hcp)
          clear hs9 ht9 hqs hcp hb
          go_wp2_with fail
          refine hK.out _ _ ?_ ?_
          · (try dsimp only); exact hS.out
          clear hK K9 hHeld; intro hHeld
          try simp only [Act.put, List.setIfInBounds_toArray, List.set_cons_zero, List.set_cons_succ]
          refine wpAnyH_ready (rs := [4]) (by kernel_rfl) (by simp) ?_
          refine AllReadyH.cons (o := { dst := some 10, op := Op.alloc 28, type := 0, pos := "law.go:132", after := #[], guard := none }) rfl (fun K9 hK => ?_) ?_
          · go_simp
            have hba := (Below.refl y3.heap.size y3).alloc (Nat.le_refl _) (.cells #[.slice none 0 0, .slice none 0 0, .slice none 0 0, .slice none 0 0, .int .i64 0] 28)
            have hqs := hS.out.qlt
            have hq10 : Hid (Q < y3.heap.size) := Lib.hid hqs
            have n10 : Hid (y3.heap.size < s1 ∨ t1 ≤ y3.heap.size) := Lib.hid (Or.inr hv.out.tle)
            have m10 : Hid (y3.heap.size < s2 ∨ t2 ≤ y3.heap.size) := Lib.hid (Or.inr hw2.out.tle)
            have nex : Hid (b11 ≠ y3.heap.size) := Lib.hid (fun e => by have := block_lt hz11.out; omega)
            replace hS := Lib.hid (hS.out.up hba)
            replace hz11 := Lib.hid (block_up hz11.out hba)
            replace hv := Lib.hid (hv.out.up hba)
            replace hw2 := Lib.hid (hw2.out.up hba)
            have hz10 : Hid ((y3.alloc (.cells #[.slice none 0 0, .slice none 0 0, .slice none 0 0, .slice none 0 0, .int .i64 0] 28)).heap[y3.heap.size]? = some uz5) := Lib.hid (heap_alloc_new y3 _)
            clear hba hqs
            generalize hgy : y3.alloc (.cells #[.slice none 0 0, .slice none 0 0, .slice none 0 0, .slice none 0 0, .int .i64 0] 28) = y4 at *
            clear hgy
            generalize y3.heap.size = b10 at *
            refine hK.out _ _ ?_ ?_
            · (try dsimp only); exact hS.out
            clear hK K9 hHeld; intro hHeld
            try simp only [Act.put, List.setIfInBounds_toArray, List.set_cons_zero, List.set_cons_succ]
            refine wpAnyH_ready (rs := [6]) (by kernel_rfl) (by simp) ?_
            refine AllReadyH.cons (o := { dst := none, op := Op.store 28 (Operand.tmp 10) (Operand.tmp 21), type := 0, pos := "law.go:132", after := #[{ on := 4, ground := Ground.data }, { on := 1, ground := Ground.data }, { on := 3, ground := Ground.chain }, { on := 0, ground := Ground.phase }, { on := 1, ground := Ground.phase }, { on := 2, ground := Ground.textOnly Departure.lateStores }, { on := 3, ground := Ground.textOnly Departure.lateStoresUnsure }, { on := 4, ground := Ground.phase }, { on := 5, ground := Ground.phase }], guard := none }) rfl (fun K9 hK => ?_) ?_
            · obtain ⟨hth, hx10, hcg⟩ := box_store hz10.out (.slice a0 6 a1) (.slice a2 U.classes.length a3) (.slice a4 9 a5) (.slice a6 U.objects.length a7) (.int .i64 6)
              refine step_store_mid rfl 28 (.tmp 10) (.tmp 21) rfl b10 0 #[.slice a0 6 a1, .slice a2 U.classes.length a3, .slice a4 9 a5, .slice a6 U.objects.length a7, .int .i64 6] (by simp [Act.eval]) (by simp [Act.eval]) hth infoU (one5 _ _ _ _ _ _ _ _ _ _ _ _ _) ?_
              show K9 _ (y4.setCells b10 0 [.slice a0 6 a1, .slice a2 U.classes.length a3, .slice a4 9 a5, .slice a6 U.objects.length a7, .int .i64 6])
              replace hS := Lib.hid (hS.out.cg hcg (fun q e => by subst e; exact hq10.out))
              replace hv := Lib.hid (hv.out.step hcg (fun q e => by subst e; exact n10.out))
              replace hw2 := Lib.hid (hw2.out.step hcg (fun q e => by subst e; exact m10.out))
              replace hz11 := Lib.hid ((hcg.block b11 (block_lt hz11.out) (fun e => nex.out e)).trans hz11.out)
              replace hx10 := Lib.hid hx10
              clear hth hcg hz10
              generalize hgy : y4.setCells b10 0 [.slice a0 6 a1, .slice a2 U.classes.length a3, .slice a4 9 a5, .slice a6 U.objects.length a7, .int .i64 6] = y5 at *
              clear hgy
              refine hK.out _ _ ?_ ?_
              · (try dsimp only); exact hS.out
              clear hK K9 hHeld; intro hHeld
              try simp only [Act.put]
              refine wpAnyH_ready (rs := [7]) (by kernel_rfl) (by simp) ?_
              refine AllReadyH.cons (o := { dst := none, op := Op.store 28 (Operand.tmp 11) (Operand.tmp 23), type := 0, pos := "law.go:132", after := #[{ on := 5, ground := Ground.data }, { on := 3, ground := Ground.data }, { on := 6, ground := Ground.chain }, { on := 0, ground := Ground.phase }, { on := 1, ground := Ground.phase }, { on := 2, ground := Ground.phase }, { on := 3, ground := Ground.phase }, { on := 4, ground := Ground.phase }, { on := 5, ground := Ground.phase }, { on := 6, ground := Ground.phase }], guard := none }) rfl (fun K9 hK => ?_) ?_
              · obtain ⟨hth, hx11, hcg⟩ := box_store hz11.out (.slice e0 6 e1) (.slice e2 U.classes.length e3) (.slice e4 9 e5) (.slice e6 U.objects.length e7) (.int .i64 6)
                refine step_store_mid rfl 28 (.tmp 11) (.tmp 23) rfl b11 0 #[.slice e0 6 e1, .slice e2 U.classes.length e3, .slice e4 9 e5, .slice e6 U.objects.length e7, .int .i64 6] (by simp [Act.eval]) (by simp [Act.eval]) hth infoU (one5 _ _ _ _ _ _ _ _ _ _ _ _ _) ?_
                show K9 _ (y5.setCells b11 0 [.slice e0 6 e1, .slice e2 U.classes.length e3, .slice e4 9 e5, .slice e6 U.objects.length e7, .int .i64 6])
                replace hS := Lib.hid (hS.out.cg hcg (fun q e => by subst e; exact hq11.out))
                replace hv := Lib.hid (hv.out.step hcg (fun q e => by subst e; exact n11.out))
                replace hw2 := Lib.hid (hw2.out.step hcg (fun q e => by subst e; exact m11.out))
                replace hx10 := Lib.hid (hx10.out.cg hcg (fun e => nex.out e.symm))
                replace hx11 := Lib.hid hx11
                clear hth hcg hz11
                generalize hgy : y5.setCells b11 0 [.slice e0 6 e1, .slice e2 U.classes.length e3, .slice e4 9 e5, .slice e6 U.objects.length e7, .int .i64 6] = y6 at *
                clear hgy
                refine hK.out _ _ ?_ ?_
                · (try dsimp only); exact hS.out
                clear hK K9 hHeld; intro hHeld
                try simp only [Act.put]
                refine wpAnyH_done (by kernel_rfl) ?_ _
                go_wp2
                go_meet
                exact ⟨s1, t1, s2, t2, b10, b11, _, _, _, _, _, _, _, _, rfl, rfl, Lib.hid ⟨hS.out, hx10.out, hx11.out, hv.out, hw2.out, h12.out, hq1.out, n10.out, n11.out, ⟨_, _, _, _, _, _, _, _, rfl, rfl, rfl, rfl⟩, ⟨_, _, _, _, _, _, _, _, rfl, rfl, rfl, rfl⟩⟩⟩
              exact AllReadyH.nil
            exact AllReadyH.nil
          exact AllReadyH.nil
        refine AllReadyH.cons (o := { dst := some 10, op := Op.alloc 28, type := 0, pos := "law.go:132", after := #[], guard := none }) rfl (fun K9 hK => ?_) ?_
        · go_simp
          have hba := (Below.refl y2.heap.size y2).alloc (Nat.le_refl _) (.cells #[.slice none 0 0, .slice none 0 0, .slice none 0 0, .slice none 0 0, .int .i64 0] 28)
          have hqs := hS.out.qlt
          have hq10 : Hid (Q < y2.heap.size) := Lib.hid hqs
          have n10 : Hid (y2.heap.size < s1 ∨ t1 ≤ y2.heap.size) := Lib.hid (Or.inr hv.out.tle)
          have nex : Hid (b11 ≠ y2.heap.size) := Lib.hid (fun e => by have := block_lt hz11.out; omega)
          replace hS := Lib.hid (hS.out.up hba)
          replace hz11 := Lib.hid (block_up hz11.out hba)
          replace hv := Lib.hid (hv.out.up hba)
          have hz10 : Hid ((y2.alloc (.cells #[.slice none 0 0, .slice none 0 0, .slice none 0 0, .slice none 0 0, .int .i64 0] 28)).heap[y2.heap.size]? = some uz5) := Lib.hid (heap_alloc_new y2 _)
          clear hba hqs
          generalize hgy : y2.alloc (.cells #[.slice none 0 0, .slice none 0 0, .slice none 0 0, .slice none 0 0, .int .i64 0] 28) = y3 at *
          clear hgy
          generalize y2.heap.size = b10 at *
          refine hK.out _ _ ?_ ?_
          · (try dsimp only); exact hS.out
          clear hK K9 hHeld; intro hHeld
          try simp only [Act.put, List.setIfInBounds_toArray, List.set_cons_zero, List.set_cons_succ]
          refine wpAnyH_ready (rs := [3]) (by kernel_rfl) (by simp) ?_
          refine AllReadyH.cons (o := { dst := some 23, op := Op.call { callee := Callee.value (Operand.func 11), args := #[Operand.tmp 22], argTypes := #[28] }, type := 28, pos := "law.go:132", after := #[{ on := 2, ground := Ground.data }, { on := 1, ground := Ground.chain }], guard := none }) rfl (fun K9 hK => ?_) ?_
          · go_simp
            with_reducible refine (PC.out _ hS.out.k6').mono ?_
            rintro e y4 ⟨nv, cv, mv, ov, rfl, hcp, hb⟩
            obtain ⟨e0, e1, e2, e3, e4, e5, e6, e7, rfl, rfl, rfl, rfl⟩ := cp_forms hcp.un hT'.out
            obtain ⟨s2, hs9⟩ : ∃ s, s = y3.heap.size := ⟨_, rfl⟩
            obtain ⟨t2, ht9⟩ : ∃ t, t = y4.heap.size := ⟨_, rfl⟩
            have hqs := hS.out.qlt
            have h12 : Hid (t1 ≤ s2) := Lib.hid (by have := hv.out.tle; omega)
            have m10 : Hid (b10 < s2 ∨ t2 ≤ b10) := Lib.hid (Or.inl (by have := block_lt hz10.out; omega))
            have m11 : Hid (b11 < s2 ∨ t2 ≤ b11) := Lib.hid (Or.inl (by have := block_lt hz11.out; omega))
            replace hS := Lib.hid (hS.out.up hb)
            replace hz10 := Lib.hid (block_up hz10.out hb)
            replace hz11 := Lib.hid (block_up hz11.out hb)
            replace hv := Lib.hid (hv.out.up hb)
            have hw2 : Hid (CpA s2 t2 y4 (.slice e0 6 e1) (.slice e2 U.classes.length e3) (.slice e4 9 e5) (.slice e6 U.objects.length e7) U) := Lib.hid (by rw [hs9, ht9]; exact CpA.born hcp)
            clear hs9 ht9 hqs hcp hb
            go_wp2_with fail
            refine hK.out _ _ ?_ ?_
            · (try dsimp only); exact hS.out
            clear hK K9 hHeld; intro hHeld
            try simp only [Act.put, List.setIfInBounds_toArray, List.set_cons_zero, List.set_cons_succ]
            refine wpAnyH_ready (rs := [6]) (by kernel_rfl) (by simp) ?_
            refine AllReadyH.cons (o := { dst := none, op := Op.store 28 (Operand.tmp 10) (Operand.tmp 21), type := 0, pos := "law.go:132", after := #[{ on := 4, ground := Ground.data }, { on := 1, ground := Ground.data }, { on := 3, ground := Ground.chain }, { on := 0, ground := Ground.phase }, { on := 1, ground := Ground.phase }, { on := 2, ground := Ground.textOnly Departure.lateStores }, { on := 3, ground := Ground.textOnly Departure.lateStoresUnsure }, { on := 4, ground := Ground.phase }, { on := 5, ground := Ground.phase }], guard := none }) rfl (fun K9 hK => ?_) ?_
            · obtain ⟨hth, hx10, hcg⟩ := box_store hz10.out (.slice a0 6 a1) (.slice a2 U.classes.length a3) (.slice a4 9 a5) (.slice a6 U.objects.length a7) (.int .i64 6)
              refine step_store_mid rfl 28 (.tmp 10) (.tmp 21) rfl b10 0 #[.slice a0 6 a1, .slice a2 U.classes.length a3, .slice a4 9 a5, .slice a6 U.objects.length a7, .int .i64 6] (by simp [Act.eval]) (by simp [Act.eval]) hth infoU (one5 _ _ _ _ _ _ _ _ _ _ _ _ _) ?_
              show K9 _ (y4.setCells b10 0 [.slice a0 6 a1, .slice a2 U.classes.length a3, .slice a4 9 a5, .slice a6 U.objects.length a7, .int .i64 6])
              replace hS := Lib.hid (hS.out.cg hcg (fun q e => by subst e; exact hq10.out))
              replace hv := Lib.hid (hv.out.step hcg (fun q e => by subst e; exact n10.out))
              replace hw2 := Lib.hid (hw2.out.step hcg (fun q e => by subst e; exact m10.out))
              replace hz11 := Lib.hid ((hcg.block b11 (block_lt hz11.out) (fun e => nex.out e)).trans hz11.out)
              replace hx10 := Lib.hid hx10
              clear hth hcg hz10
              generalize hgy : y4.setCells b10 0 [.slice a0 6 a1, .slice a2 U.classes.length a3, .slice a4 9 a5, .slice a6 U.objects.length a7, .int .i64 6] = y5 at *
              clear hgy
              refine hK.out _ _ ?_ ?_
              · (try dsimp only); exact hS.out
              clear hK K9 hHeld; intro hHeld
              try simp only [Act.put]
              refine wpAnyH_ready (rs := [7]) (by kernel_rfl) (by simp) ?_
              refine AllReadyH.cons (o := { dst := none, op := Op.store 28 (Operand.tmp 11) (Operand.tmp 23), type := 0, pos := "law.go:132", after := #[{ on := 5, ground := Ground.data }, { on := 3, ground := Ground.data }, { on := 6, ground := Ground.chain }, { on := 0, ground := Ground.phase }, { on := 1, ground := Ground.phase }, { on := 2, ground := Ground.phase }, { on := 3, ground := Ground.phase }, { on := 4, ground := Ground.phase }, { on := 5, ground := Ground.phase }, { on := 6, ground := Ground.phase }], guard := none }) rfl (fun K9 hK => ?_) ?_
              · obtain ⟨hth, hx11, hcg⟩ := box_store hz11.out (.slice e0 6 e1) (.slice e2 U.classes.length e3) (.slice e4 9 e5) (.slice e6 U.objects.length e7) (.int .i64 6)
                refine step_store_mid rfl 28 (.tmp 11) (.tmp 23) rfl b11 0 #[.slice e0 6 e1, .slice e2 U.classes.length e3, .slice e4 9 e5, .slice e6 U.objects.length e7, .int .i64 6] (by simp [Act.eval]) (by simp [Act.eval]) hth infoU (one5 _ _ _ _ _ _ _ _ _ _ _ _ _) ?_
                show K9 _ (y5.setCells b11 0 [.slice e0 6 e1, .slice e2 U.classes.length e3, .slice e4 9 e5, .slice e6 U.objects.length e7, .int .i64 6])
                replace hS := Lib.hid (hS.out.cg hcg (fun q e => by subst e; exact hq11.out))
                replace hv := Lib.hid (hv.out.step hcg (fun q e => by subst e; exact n11.out))
                replace hw2 := Lib.hid (hw2.out.step hcg (fun q e => by subst e; exact m11.out))
                replace hx10 := Lib.hid (hx10.out.cg hcg (fun e => nex.out e.symm))
                replace hx11 := Lib.hid hx11
                clear hth hcg hz11
                generalize hgy : y5.setCells b11 0 [.slice e0 6 e1, .slice e2 U.classes.length e3, .slice e4 9 e5, .slice e6 U.objects.length e7, .int .i64 6] = y6 at *
                clear hgy
                refine hK.out _ _ ?_ ?_
                · (try dsimp only); exact hS.out
                clear hK K9 hHeld; intro hHeld
                try simp only [Act.put]
                refine wpAnyH_done (by kernel_rfl) ?_ _
                go_wp2
                go_meet
                exact ⟨s1, t1, s2, t2, b10, b11, _, _, _, _, _, _, _, _, rfl, rfl, Lib.hid ⟨hS.out, hx10.out, hx11.out, hv.out, hw2.out, h12.out, hq1.out, n10.out, n11.out, ⟨_, _, _, _, _, _, _, _, rfl, rfl, rfl, rfl⟩, ⟨_, _, _, _, _, _, _, _, rfl, rfl, rfl, rfl⟩⟩⟩
              exact AllReadyH.nil
            exact AllReadyH.nil
          exact AllReadyH.nil
        exact AllReadyH.nil
      exact AllReadyH.nil
    refine AllReadyH.cons (o := { dst := some 10, op := Op.alloc 28, type := 0, pos := "law.go:132", after := #[], guard := none }) rfl (fun K9 hK => ?_) ?_
    · go_simp
      have hba := (Below.refl y0.heap.size y0).alloc (Nat.le_refl _) (.cells #[.slice none 0 0, .slice none 0 0, .slice none 0 0, .slice none 0 0, .int .i64 0] 28)
      have hqs := hS.out.qlt
      have hq10 : Hid (Q < y0.heap.size) := Lib.hid hqs
      replace hS := Lib.hid (hS.out.up hba)
      have hz10 : Hid ((y0.alloc (.cells #[.slice none 0 0, .slice none 0 0, .slice none 0 0, .slice none 0 0, .int .i64 0] 28)).heap[y0.heap.size]? = some uz5) := Lib.hid (heap_alloc_new y0 _)
      clear hba hqs
      generalize hgy : y0.alloc (.cells #[.slice none 0 0, .slice none 0 0, .slice none 0 0, .slice none 0 0, .int .i64 0] 28) = y1 at *
      clear hgy
      generalize y0.heap.size = b10 at *
      refine hK.out _ _ ?_ ?_
      · (try dsimp only); exact hS.out
      clear hK K9 hHeld; intro hHeld
      try simp only [Act.put, List.setIfInBounds_toArray, List.set_cons_zero, List.set_cons_succ]
      refine wpAnyH_ready (rs := [1, 5]) (by kernel_rfl) (by simp) ?_
      refine AllReadyH.cons (o := { dst := some 21, op := Op.call { callee := Callee.value (Operand.func 11), args := #[Operand.tmp 20], argTypes := #[28] }, type := 28, pos := "law.go:132", after := #[{ on := 0, ground := Ground.data }], guard := none }) rfl (fun K9 hK => ?_) ?_
      · go_simp
        with_reducible refine (PC.out _ hS.out.k6').mono ?_
        rintro e y2 ⟨nv, cv, mv, ov, rfl, hcp, hb⟩
        obtain ⟨a0, a1, a2, a3, a4, a5, a6, a7, rfl, rfl, rfl, rfl⟩ := cp_forms hcp.un hT'.out
        obtain ⟨s1, hs9⟩ : ∃ s, s = y1.heap.size := ⟨_, rfl⟩
        obtain ⟨t1, ht9⟩ : ∃ t, t = y2.heap.size := ⟨_, rfl⟩
        have hqs := hS.out.qlt
        have hq1 : Hid (Q < s1) := Lib.hid (by omega)
        have n10 : Hid (b10 < s1 ∨ t1 ≤ b10) := Lib.hid (Or.inl (by have := block_lt hz10.out; omega))
        replace hS := Lib.hid (hS.out.up hb)
        replace hz10 := Lib.hid (block_up hz10.out hb)
        have hv : Hid (CpA s1 t1 y2 (.slice a0 6 a1) (.slice a2 U.classes.length a3) (.slice a4 9 a5) (.slice a6 U.objects.length a7) U) := Lib.hid (by rw [hs9, ht9]; exact CpA.born hcp)
        clear hs9 ht9 hqs hcp hb
        go_wp2_with fail
        refine hK.out _ _ ?_ ?_
        · (try dsimp only); exact hS.out
        clear hK K9 hHeld; intro hHeld
        try simp only [Act.put, List.setIfInBounds_toArray, List.set_cons_zero, List.set_cons_succ]
        refine wpAnyH_ready (rs := [3, 5]) (by kernel_rfl) (by simp) ?_
        refine AllReadyH.cons (o := { dst := some 23, op := Op.call { callee := Callee.value (Operand.func 11), args := #[Operand.tmp 22], argTypes := #[28] }, type := 28, pos := "law.go:132", after := #[{ on := 2, ground := Ground.data }, { on := 1, ground := Ground.chain }], guard := none }) rfl (fun K9 hK => ?_) ?_
        · go_simp
          with_reducible refine (PC.out _ hS.out.k6').mono ?_
          rintro e y3 ⟨nv, cv, mv, ov, rfl, hcp, hb⟩
          obtain ⟨e0, e1, e2, e3, e4, e5, e6, e7, rfl, rfl, rfl, rfl⟩ := cp_forms hcp.un hT'.out
          obtain ⟨s2, hs9⟩ : ∃ s, s = y2.heap.size := ⟨_, rfl⟩
          obtain ⟨t2, ht9⟩ : ∃ t, t = y3.heap.size := ⟨_, rfl⟩
          have hqs := hS.out.qlt
          have h12 : Hid (t1 ≤ s2) := Lib.hid (by have := hv.out.tle; omega)
          have m10 : Hid (b10 < s2 ∨ t2 ≤ b10) := Lib.hid (Or.inl (by have := block_lt hz10.out; omega))
          replace hS := Lib.hid (hS.out.up hb)
          replace hz10 := Lib.hid (block_up hz10.out hb)
          replace hv := Lib.hid (hv.out.up hb)
          have hw2 : Hid (CpA s2 t2 y3 (.slice e0 6 e1) (.slice e2 U.classes.length e3) (.slice e4 9 e5) (.slice e6 U.objects.length e7) U) := Lib.hid (by rw [hs9, ht9]; exact CpA.born hcp)
          clear hs9 ht9 hqs hcp hb
          go_wp2_with fail
          refine hK.out _ _ ?_ ?_
          · (try dsimp only); exact hS.out
          clear hK K9 hHeld; intro hHeld
          try simp only [Act.put, List.setIfInBounds_toArray, List.set_cons_zero, List.set_cons_succ]
          refine wpAnyH_ready (rs := [5]) (by kernel_rfl) (by simp) ?_
          refine AllReadyH.cons (o := { dst := some 11, op := Op.alloc 28, type := 0, pos := "law.go:132", after := #[], guard := none }) rfl (fun K9 hK => ?_) ?_
          · go_simp
            have hba := (Below.refl y3.heap.size y3).alloc (Nat.le_refl _) (.cells #[.slice none 0 0, .slice none 0 0, .slice none 0 0, .slice none 0 0, .int .i64 0] 28)
            have hqs := hS.out.qlt
            have hq11 : Hid (Q < y3.heap.size) := Lib.hid hqs
            have n11 : Hid (y3.heap.size < s1 ∨ t1 ≤ y3.heap.size) := Lib.hid (Or.inr hv.out.tle)
            have m11 : Hid (y3.heap.size < s2 ∨ t2 ≤ y3.heap.size) := Lib.hid (Or.inr hw2.out.tle)
            have nex : Hid (b10 ≠ y3.heap.size) := Lib.hid (fun e => by have := block_lt hz10.out; omega)
            replace hS := Lib.hid (hS.out.up hba)
            replace hz10 := Lib.hid (block_up hz10.out hba)
            replace hv := Lib.hid (hv.out.up hba)
            replace hw2 := Lib.hid (hw2.out.up hba)
            have hz11 : Hid ((y3.alloc (.cells #[.slice none 0 0, .slice none 0 0, .slice none 0 0, .slice none 0 0, .int .i64 0] 28)).heap[y3.heap.size]? = some uz5) := Lib.hid (heap_alloc_new y3 _)
            clear hba hqs
            generalize hgy : y3.alloc (.cells #[.slice none 0 0, .slice none 0 0, .slice none 0 0, .slice none 0 0, .int .i64 0] 28) = y4 at *
            clear hgy
            generalize y3.heap.size = b11 at *
            refine hK.out _ _ ?_ ?_
            · (try dsimp only); exact hS.out
            clear hK K9 hHeld; intro hHeld
            try simp only [Act.put, List.setIfInBounds_toArray, List.set_cons_zero, List.set_cons_succ]
            refine wpAnyH_ready (rs := [6]) (by kernel_rfl) (by simp) ?_
            refine AllReadyH.cons (o := { dst := none, op := Op.store 28 (Operand.tmp 10) (Operand.tmp 21), type := 0, pos := "law.go:132", after := #[{ on := 4, ground := Ground.data }, { on := 1, ground := Ground.data }, { on := 3, ground := Ground.chain }, { on := 0, ground := Ground.phase }, { on := 1, ground := Ground.phase }, { on := 2, ground := Ground.textOnly Departure.lateStores }, { on := 3, ground := Ground.textOnly Departure.lateStoresUnsure }, { on := 4, ground := Ground.phase }, { on := 5, ground := Ground.phase }], guard := none }) rfl (fun K9 hK => ?_) ?_
            · obtain ⟨hth, hx10, hcg⟩ := box_store hz10.out (.slice a0 6 a1) (.slice a2 U.classes.length a3) (.slice a4 9 a5) (.slice a6 U.objects.length a7) (.int .i64 6)
              refine step_store_mid rfl 28 (.tmp 10) (.tmp 21) rfl b10 0 #[.slice a0 6 a1, .slice a2 U.classes.length a3, .slice a4 9 a5, .slice a6 U.objects.length a7, .int .i64 6] (by simp [Act.eval]) (by simp [Act.eval]) hth infoU (one5 _ _ _ _ _ _ _ _ _ _ _ _ _) ?_
              show K9 _ (y4.setCells b10 0 [.slice a0 6 a1, .slice a2 U.classes.length a3, .slice a4 9 a5, .slice a6 U.objects.length a7, .int .i64 6])
              replace hS := Lib.hid (hS.out.cg hcg (fun q e => by subst e; exact hq10.out))
              replace hv := Lib.hid (hv.out.step hcg (fun q e => by subst e; exact n10.out))
              replace hw2 := Lib.hid (hw2.out.step hcg (fun q e => by subst e; exact m10.out))
              replace hz11 := Lib.hid ((hcg.block b11 (block_lt hz11.out) (fun e => nex.out e.symm)).trans hz11.out)
              replace hx10 := Lib.hid hx10
              clear hth hcg hz10
              generalize hgy : y4.setCells b10 0 [.slice a0 6 a1, .slice a2 U.classes.length a3, .slice a4 9 a5, .slice a6 U.objects.length a7, .int .i64 6] = y5 at *
              clear hgy
              refine hK.out _ _ ?_ ?_
              · (try dsimp only); exact hS.out
              clear hK K9 hHeld; intro hHeld
              try simp only [Act.put]
              refine wpAnyH_ready (rs := [7]) (by kernel_rfl) (by simp) ?_
              refine AllReadyH.cons (o := { dst := none, op := Op.store 28 (Operand.tmp 11) (Operand.tmp 23), type := 0, pos := "law.go:132", after := #[{ on := 5, ground := Ground.data }, { on := 3, ground := Ground.data }, { on := 6, ground := Ground.chain }, { on := 0, ground := Ground.phase }, { on := 1, ground := Ground.phase }, { on := 2, ground := Ground.phase }, { on := 3, ground := Ground.phase }, { on := 4, ground := Ground.phase }, { on := 5, ground := Ground.phase }, { on := 6, ground := Ground.phase }], guard := none }) rfl (fun K9 hK => ?_) ?_
              · obtain ⟨hth, hx11, hcg⟩ := box_store hz11.out (.slice e0 6 e1) (.slice e2 U.classes.length e3) (.slice e4 9 e5) (.slice e6 U.objects.length e7) (.int .i64 6)
                refine step_store_mid rfl 28 (.tmp 11) (.tmp 23) rfl b11 0 #[.slice e0 6 e1, .slice e2 U.classes.length e3, .slice e4 9 e5, .slice e6 U.objects.length e7, .int .i64 6] (by simp [Act.eval]) (by simp [Act.eval]) hth infoU (one5 _ _ _ _ _ _ _ _ _ _ _ _ _) ?_
                show K9 _ (y5.setCells b11 0 [.slice e0 6 e1, .slice e2 U.classes.length e3, .slice e4 9 e5, .slice e6 U.objects.length e7, .int .i64 6])
                replace hS := Lib.hid (hS.out.cg hcg (fun q e => by subst e; exact hq11.out))
                replace hv := Lib.hid (hv.out.step hcg (fun q e => by subst e; exact n11.out))
                replace hw2 := Lib.hid (hw2.out.step hcg (fun q e => by subst e; exact m11.out))
                replace hx10 := Lib.hid (hx10.out.cg hcg (fun e => nex.out e))
                replace hx11 := Lib.hid hx11
                clear hth hcg hz11
                generalize hgy : y5.setCells b11 0 [.slice e0 6 e1, .slice e2 U.classes.length e3, .slice e4 9 e5, .slice e6 U.objects.length e7, .int .i64 6] = y6 at *
                clear hgy
                refine hK.out _ _ ?_ ?_
                · (try dsimp only); exact hS.out
                clear hK K9 hHeld; intro hHeld
                try simp only [Act.put]
                refine wpAnyH_done (by kernel_rfl) ?_ _
                go_wp2
                go_meet
                exact ⟨s1, t1, s2, t2, b10, b11, _, _, _, _, _, _, _, _, rfl, rfl, Lib.hid ⟨hS.out, hx10.out, hx11.out, hv.out, hw2.out, h12.out, hq1.out, n10.out, n11.out, ⟨_, _, _, _, _, _, _, _, rfl, rfl, rfl, rfl⟩, ⟨_, _, _, _, _, _, _, _, rfl, rfl, rfl, rfl⟩⟩⟩
              exact AllReadyH.nil
            exact AllReadyH.nil
          exact AllReadyH.nil
        refine AllReadyH.cons (o := { dst := some 11, op := Op.alloc 28, type := 0, pos := "law.go:132", after := #[], guard := none }) rfl (fun K9 hK => ?_) ?_
        · go_simp
          have hba := (Below.refl y2.heap.size y2).alloc (Nat.le_refl _) (.cells #[.slice none 0 0, .slice none 0 0, .slice none 0 0, .slice none 0 0, .int .i64 0] 28)
          have hqs := hS.out.qlt
          have hq11 : Hid (Q < y2.heap.size) := Lib.hid hqs
          have n11 : Hid (y2.heap.size < s1 ∨ t1 ≤ y2.heap.size) := Lib.hid (Or.inr hv.out.tle)
          have nex : Hid (b10 ≠ y2.heap.size) := Lib.hid (fun e => by have := block_lt hz10.out; omega)
          replace hS := Lib.hid (hS.out.up hba)
          replace hz10 := Lib.hid (block_up hz10.out hba)
          replace hv := Lib.hid (hv.out.up hba)
          have hz11 : Hid ((y2.alloc (.cells #[.slice none 0 0, .slice none 0 0, .slice none 0 0, .slice none 0 0, .int .i64 0] 28)).heap[y2.heap.size]? = some uz5) := Lib.hid (heap_alloc_new y2 _)
          clear hba hqs
          generalize hgy : y2.alloc (.cells #[.slice none 0 0, .slice none 0 0, .slice none 0 0, .slice none 0 0, .int .i64 0] 28) = y3 at *
          clear hgy
          generalize y2.heap.size = b11 at *
          refine hK.out _ _ ?_ ?_
          · (try dsimp only); exact hS.out
          clear hK K9 hHeld; intro hHeld
          try simp only [Act.put, List.setIfInBounds_toArray, List.set_cons_zero, List.set_cons_succ]
          refine wpAnyH_ready (rs := [3]) (by kernel_rfl) (by simp) ?_
          refine AllReadyH.cons (o := { dst := some 23, op := Op.call { callee := Callee.value (Operand.func 11), args := #[Operand.tmp 22], argTypes := #[28] }, type := 28, pos := "law.go:132", after := #[{ on := 2, ground := Ground.data }, { on := 1, ground := Ground.chain }], guard := none }) rfl (fun K9 hK => ?_) ?_
          · go_simp
            with_reducible refine (PC.out _ hS.out.k6').mono ?_
            rintro e y4 ⟨nv, cv, mv, ov, rfl, hcp, hb⟩
            obtain ⟨e0, e1, e2, e3, e4, e5, e6, e7, rfl, rfl, rfl, rfl⟩ := cp_forms hcp.un hT'.out
            obtain ⟨s2, hs9⟩ : ∃ s, s = y3.heap.size := ⟨_, rfl⟩
            obtain ⟨t2, ht9⟩ : ∃ t, t = y4.heap.size := ⟨_, rfl⟩
            have hqs := hS.out.qlt
            have h12 : Hid (t1 ≤ s2) := Lib.hid (by have := hv.out.tle; omega)
            have m10 : Hid (b10 < s2 ∨ t2 ≤ b10) := Lib.hid (Or.inl (by have := block_lt hz10.out; omega))
            have m11 : Hid (b11 < s2 ∨ t2 ≤ b11) := Lib.hid (Or.inl (by have := block_lt hz11.out; omega))
            replace hS := Lib.hid (hS.out.up hb)
            replace hz10 := Lib.hid (block_up hz10.out hb)
            replace hz11 := Lib.hid (block_up hz11.out hb)
            replace hv := Lib.hid (hv.out.up hb)
            have hw2 : Hid (CpA s2 t2 y4 (.slice e0 6 e1) (.slice e2 U.classes.length e3) (.slice e4 9 e5) (.slice e6 U.objects.length e7) U) := Lib.hid (by rw [hs9, ht9]; exact CpA.born hcp)
            clear hs9 ht9 hqs hcp hb
            go_wp2_with fail
            refine hK.out _ _ ?_ ?_
            · (try dsimp only); exact hS.out
            clear hK K9 hHeld; intro hHeld
            try simp only [Act.put, List.setIfInBounds_toArray, List.set_cons_zero, List.set_cons_succ]
            refine wpAnyH_ready (rs := [6]) (by kernel_rfl) (by simp) ?_
            refine AllReadyH.cons (o := { dst := none, op := Op.store 28 (Operand.tmp 10) (Operand.tmp 21), type := 0, pos := "law.go:132", after := #[{ on := 4, ground := Ground.data }, { on := 1, ground := Ground.data }, { on := 3, ground := Ground.chain }, { on := 0, ground := Ground.phase }, { on := 1, ground := Ground.phase }, { on := 2, ground := Ground.textOnly Departure.lateStores }, { on := 3, ground := Ground.textOnly Departure.lateStoresUnsure }, { on := 4, ground := Ground.phase }, { on := 5, ground := Ground.phase }], guard := none }) rfl (fun K9 hK => ?_) ?_
            · obtain ⟨hth, hx10, hcg⟩ := box_store hz10.out (.slice a0 6 a1) (.slice a2 U.classes.length a3) (.slice a4 9 a5) (.slice a6 U.objects.length a7) (.int .i64 6)
              refine step_store_mid rfl 28 (.tmp 10) (.tmp 21) rfl b10 0 #[.slice a0 6 a1, .slice a2 U.classes.length a3, .slice a4 9 a5, .slice a6 U.objects.length a7, .int .i64 6] (by simp [Act.eval]) (by simp [Act.eval]) hth infoU (one5 _ _ _ _ _ _ _ _ _ _ _ _ _) ?_
              show K9 _ (y4.setCells b10 0 [.slice a0 6 a1, .slice a2 U.classes.length a3, .slice a4 9 a5, .slice a6 U.objects.length a7, .int .i64 6])
              replace hS := Lib.hid (hS.out.cg hcg (fun q e => by subst e; exact hq10.out))
              replace hv := Lib.hid (hv.out.step hcg (fun q e => by subst e; exact n10.out))
              replace hw2 := Lib.hid (hw2.out.step hcg (fun q e => by subst e; exact m10.out))
              replace hz11 := Lib.hid ((hcg.block b11 (block_lt hz11.out) (fun e => nex.out e.symm)).trans hz11.out)
              replace hx10 := Lib.hid hx10
              clear hth hcg hz10
              generalize hgy : y4.setCells b10 0 [.slice a0 6 a1, .slice a2 U.classes.length a3, .slice a4 9 a5, .slice a6 U.objects.length a7, .int .i64 6] = y5 at *
              clear hgy
              refine hK.out _ _ ?_ ?_
              · (try dsimp only); exact hS.out
              clear hK K9 hHeld; intro hHeld
              try simp only [Act.put]
              refine wpAnyH_ready (rs := [7]) (by kernel_rfl) (by simp) ?_
              refine AllReadyH.cons (o := { dst := none, op := Op.store 28 (Operand.tmp 11) (Operand.tmp 23), type := 0, pos := "law.go:132", after := #[{ on := 5, ground := Ground.data }, { on := 3, ground := Ground.data }, { on := 6, ground := Ground.chain }, { on := 0, ground := Ground.phase }, { on := 1, ground := Ground.phase }, { on := 2, ground := Ground.phase }, { on := 3, ground := Ground.phase }, { on := 4, ground := Ground.phase }, { on := 5, ground := Ground.phase }, { on := 6, ground := Ground.phase }], guard := none }) rfl (fun K9 hK => ?_) ?_
              · obtain ⟨hth, hx11, hcg⟩ := box_store hz11.out (.slice e0 6 e1) (.slice e2 U.classes.length e3) (.slice e4 9 e5) (.slice e6 U.objects.length e7) (.int .i64 6)
                refine step_store_mid rfl 28 (.tmp 11) (.tmp 23) rfl b11 0 #[.slice e0 6 e1, .slice e2 U.classes.length e3, .slice e4 9 e5, .slice e6 U.objects.length e7, .int .i64 6] (by simp [Act.eval]) (by simp [Act.eval]) hth infoU (one5 _ _ _ _ _ _ _ _ _ _ _ _ _) ?_
                show K9 _ (y5.setCells b11 0 [.slice e0 6 e1, .slice e2 U.classes.length e3, .slice e4 9 e5, .slice e6 U.objects.length e7, .int .i64 6])
                replace hS := Lib.hid (hS.out.cg hcg (fun q e => by subst e; exact hq11.out))
                replace hv := Lib.hid (hv.out.step hcg (fun q e => by subst e; exact n11.out))
                replace hw2 := Lib.hid (hw2.out.step hcg (fun q e => by subst e; exact m11.out))
                replace hx10 := Lib.hid (hx10.out.cg hcg (fun e => nex.out e))
                replace hx11 := Lib.hid hx11
                clear hth hcg hz11
                generalize hgy : y5.setCells b11 0 [.slice e0 6 e1, .slice e2 U.classes.length e3, .slice e4 9 e5, .slice e6 U.objects.length e7, .int .i64 6] = y6 at *
                clear hgy
                refine hK.out _ _ ?_ ?_
                · (try dsimp only); exact hS.out
                clear hK K9 hHeld; intro hHeld
                try simp only [Act.put]
                refine wpAnyH_done (by kernel_rfl) ?_ _
                go_wp2
                go_meet
                exact ⟨s1, t1, s2, t2, b10, b11, _, _, _, _, _, _, _, _, rfl, rfl, Lib.hid ⟨hS.out, hx10.out, hx11.out, hv.out, hw2.out, h12.out, hq1.out, n10.out, n11.out, ⟨_, _, _, _, _, _, _, _, rfl, rfl, rfl, rfl⟩, ⟨_, _, _, _, _, _, _, _, rfl, rfl, rfl, rfl⟩⟩⟩
              exact AllReadyH.nil
            exact AllReadyH.nil
          exact AllReadyH.nil
        exact AllReadyH.nil
      refine AllReadyH.cons (o := { dst := some 11, op := Op.alloc 28, type := 0, pos := "law.go:132", after := #[], guard := none }) rfl (fun K9 hK => ?_) ?_
      · go_simp
        have hba := (Below.refl y1.heap.size y1).alloc (Nat.le_refl _) (.cells #[.slice none 0 0, .slice none 0 0, .slice none 0 0, .slice none 0 0, .int .i64 0] 28)
        have hqs := hS.out.qlt
        have hq11 : Hid (Q < y1.heap.size) := Lib.hid hqs
        have nex : Hid (b10 ≠ y1.heap.size) := Lib.hid (fun e => by have := block_lt hz10.out; omega)
        replace hS := Lib.hid (hS.out.up hba)
        replace hz10 := Lib.hid (block_up hz10.out hba)
        have hz11 : Hid ((y1.alloc (.cells #[.slice none 0 0, .slice none 0 0, .slice none 0 0, .slice none 0 0, .int .i64 0] 28)).heap[y1.heap.size]? = some uz5) := Lib.hid (heap_alloc_new y1 _)
        clear hba hqs
        generalize hgy : y1.alloc (.cells #[.slice none 0 0, .slice none 0 0, .slice none 0 0, .slice none 0 0, .int .i64 0] 28) = y2 at *
        clear hgy
        generalize y1.heap.size = b11 at *
        refine hK.out _ _ ?_ ?_
        · (try dsimp only); exact hS.out
        clear hK K9 hHeld; intro hHeld
        try simp only [Act.put, List.setIfInBounds_toArray, List.set_cons_zero, List.set_cons_succ]
        refine wpAnyH_ready (rs := [1]) (by kernel_rfl) (by simp) ?_
        refine AllReadyH.cons (o := { dst := some 21, op := Op.call { callee := Callee.value (Operand.func 11), args := #[Operand.tmp 20], argTypes := #[28] }, type := 28, pos := "law.go:132", after := #[{ on := 0, ground := Ground.data }], guard := none }) rfl (fun K9 hK => ?_) ?_
        · go_simp
          with_reducible refine (PC.out _ hS.out.k6').mono ?_
          rintro e y3 ⟨nv, cv, mv, ov, rfl, hcp, hb⟩
          obtain ⟨a0, a1, a2, a3, a4, a5, a6, a7, rfl, rfl, rfl, rfl⟩ := cp_forms hcp.un hT'.out
          obtain ⟨s1, hs9⟩ : ∃ s, s = y2.heap.size := ⟨_, rfl⟩
          obtain ⟨t1, ht9⟩ : ∃ t, t = y3.heap.size := ⟨_, rfl⟩
          have hqs := hS.out.qlt
          have hq1 : Hid (Q < s1) := Lib.hid (by omega)
          have n10 : Hid (b10 < s1 ∨ t1 ≤ b10) := Lib.hid (Or.inl (by have := block_lt hz10.out; omega))
          have n11 : Hid (b11 < s1 ∨ t1 ≤ b11) := Lib.hid (Or.inl (by have := block_lt hz11.out; omega))
          replace hS := Lib.hid (hS.out.up hb)
          replace hz10 := Lib.hid (block_up hz10.out hb)
          replace hz11 := Lib.hid (block_up hz11.out hb)
          have hv : Hid (CpA s1 t1 y3 (.slice a0 6 a1) (.slice a2 U.classes.length a3) (.slice a4 9 a5) (.slice a6 U.objects.length a7) U) := Lib.hid (by rw [hs9, ht9]; exact CpA.born hcp)
          clear hs9 ht9 hqs hcp hb
          go_wp2_with fail
          refine hK.out _ _ ?_ ?_
          · (try dsimp only); exact hS.out
          clear hK K9 hHeld; intro hHeld
          try simp only [Act.put, List.setIfInBounds_toArray, List.set_cons_zero, List.set_cons_succ]
          refine wpAnyH_ready (rs := [3]) (by kernel_rfl) (by simp) ?_
          refine AllReadyH.cons (o := { dst := some 23, op := Op.call { callee := Callee.value (Operand.func 11), args := #[Operand.tmp 22], argTypes := #[28] }, type := 28, pos := "law.go:132", after := #[{ on := 2, ground := Ground.data }, { on := 1, ground := Ground.chain }], guard := none }) rfl (fun K9 hK => ?_) ?_
          · go_simp
            with_reducible refine (PC.out _ hS.out.k6').mono ?_
            rintro e y4 ⟨nv, cv, mv, ov, rfl, hcp, hb⟩
            obtain ⟨e0, e1, e2, e3, e4, e5, e6, e7, rfl, rfl, rfl, rfl⟩ := cp_forms hcp.un hT'.out
            obtain ⟨s2, hs9⟩ : ∃ s, s = y3.heap.size := ⟨_, rfl⟩
            obtain ⟨t2, ht9⟩ : ∃ t, t = y4.heap.size := ⟨_, rfl⟩
            have hqs := hS.out.qlt
            have h12 : Hid (t1 ≤ s2) := Lib.hid (by have := hv.out.tle; omega)
            have m10 : Hid (b10 < s2 ∨ t2 ≤ b10) := Lib.hid (Or.inl (by have := block_lt hz10.out; omega))
            have m11 : Hid (b11 < s2 ∨ t2 ≤ b11) := Lib.hid (Or.inl (by have := block_lt hz11.out; omega))
            replace hS := Lib.hid (hS.out.up hb)
            replace hz10 := Lib.hid (block_up hz10.out hb)
            replace hz11 := Lib.hid (block_up hz11.out hb)
            replace hv := Lib.hid (hv.out.up hb)
            have hw2 : Hid (CpA s2 t2 y4 (.slice e0 6 e1) (.slice e2 U.classes.length e3) (.slice e4 9 e5) (.slice e6 U.objects.length e7) U) := Lib.hid (by rw [hs9, ht9]; exact CpA.born hcp)
            clear hs9 ht9 hqs hcp hb
            go_wp2_with fail
            refine hK.out _ _ ?_ ?_
            · (try dsimp only); exact hS.out
            clear hK K9 hHeld; intro hHeld
            try simp only [Act.put, List.setIfInBounds_toArray, List.set_cons_zero, List.set_cons_succ]
            refine wpAnyH_ready (rs := [6]) (by kernel_rfl) (by simp) ?_
            refine AllReadyH.cons (o := { dst := none, op := Op.store 28 (Operand.tmp 10) (Operand.tmp 21), type := 0, pos := "law.go:132", after := #[{ on := 4, ground := Ground.data }, { on := 1, ground := Ground.data }, { on := 3, ground := Ground.chain }, { on := 0, ground := Ground.phase }, { on := 1, ground := Ground.phase }, { on := 2, ground := Ground.textOnly Departure.lateStores }, { on := 3, ground := Ground.textOnly Departure.lateStoresUnsure }, { on := 4, ground := Ground.phase }, { on := 5, ground := Ground.phase }], guard := none }) rfl (fun K9 hK => ?_) ?_
            · obtain ⟨hth, hx10, hcg⟩ := box_store hz10.out (.slice a0 6 a1) (.slice a2 U.classes.length a3) (.slice a4 9 a5) (.slice a6 U.objects.length a7) (.int .i64 6)
              refine step_store_mid rfl 28 (.tmp 10) (.tmp 21) rfl b10 0 #[.slice a0 6 a1, .slice a2 U.classes.length a3, .slice a4 9 a5, .slice a6 U.objects.length a7, .int .i64 6] (by simp [Act.eval]) (by simp [Act.eval]) hth infoU (one5 _ _ _ _ _ _ _ _ _ _ _ _ _) ?_
              show K9 _ (y4.setCells b10 0 [.slice a0 6 a1, .slice a2 U.classes.length a3, .slice a4 9 a5, .slice a6 U.objects.length a7, .int .i64 6])
              replace hS := Lib.hid (hS.out.cg hcg (fun q e => by subst e; exact hq10.out))
              replace hv := Lib.hid (hv.out.step hcg (fun q e => by subst e; exact n10.out))
              replace hw2 := Lib.hid (hw2.out.step hcg (fun q e => by subst e; exact m10.out))
              replace hz11 := Lib.hid ((hcg.block b11 (block_lt hz11.out) (fun e => nex.out e.symm)).trans hz11.out)
              replace hx10 := Lib.hid hx10
              clear hth hcg hz10
              generalize hgy : y4.setCells b10 0 [.slice a0 6 a1, .slice a2 U.classes.length a3, .slice a4 9 a5, .slice a6 U.objects.length a7, .int .i64 6] = y5 at *
              clear hgy
              refine hK.out _ _ ?_ ?_
              · (try dsimp only); exact hS.out
              clear hK K9 hHeld; intro hHeld
              try simp only [Act.put]
              refine wpAnyH_ready (rs := [7]) (by kernel_rfl) (by simp) ?_
              refine AllReadyH.cons (o := { dst := none, op := Op.store 28 (Operand.tmp 11) (Operand.tmp 23), type := 0, pos := "law.go:132", after := #[{ on := 5, ground := Ground.data }, { on := 3, ground := Ground.data }, { on := 6, ground := Ground.chain }, { on := 0, ground := Ground.phase }, { on := 1, ground := Ground.phase }, { on := 2, ground := Ground.phase }, { on := 3, ground := Ground.phase }, { on := 4, ground := Ground.phase }, { on := 5, ground := Ground.phase }, { on := 6, ground := Ground.phase }], guard := none }) rfl (fun K9 hK => ?_) ?_
              · obtain ⟨hth, hx11, hcg⟩ := box_store hz11.out (.slice e0 6 e1) (.slice e2 U.classes.length e3) (.slice e4 9 e5) (.slice e6 U.objects.length e7) (.int .i64 6)
                refine step_store_mid rfl 28 (.tmp 11) (.tmp 23) rfl b11 0 #[.slice e0 6 e1, .slice e2 U.classes.length e3, .slice e4 9 e5, .slice e6 U.objects.length e7, .int .i64 6] (by simp [Act.eval]) (by simp [Act.eval]) hth infoU (one5 _ _ _ _ _ _ _ _ _ _ _ _ _) ?_
                show K9 _ (y5.setCells b11 0 [.slice e0 6 e1, .slice e2 U.classes.length e3, .slice e4 9 e5, .slice e6 U.objects.length e7, .int .i64 6])
                replace hS := Lib.hid (hS.out.cg hcg (fun q e => by subst e; exact hq11.out))
                replace hv := Lib.hid (hv.out.step hcg (fun q e => by subst e; exact n11.out))
                replace hw2 := Lib.hid (hw2.out.step hcg (fun q e => by subst e; exact m11.out))
                replace hx10 := Lib.hid (hx10.out.cg hcg (fun e => nex.out e))
                replace hx11 := Lib.hid hx11
                clear hth hcg hz11
                generalize hgy : y5.setCells b11 0 [.slice e0 6 e1, .slice e2 U.classes.length e3, .slice e4 9 e5, .slice e6 U.objects.length e7, .int .i64 6] = y6 at *
                clear hgy
                refine hK.out _ _ ?_ ?_
                · (try dsimp only); exact hS.out
                clear hK K9 hHeld; intro hHeld
                try simp only [Act.put]
                refine wpAnyH_done (by kernel_rfl) ?_ _
                go_wp2
                go_meet
                exact ⟨s1, t1, s2, t2, b10, b11, _, _, _, _, _, _, _, _, rfl, rfl, Lib.hid ⟨hS.out, hx10.out, hx11.out, hv.out, hw2.out, h12.out, hq1.out, n10.out, n11.out, ⟨_, _, _, _, _, _, _, _, rfl, rfl, rfl, rfl⟩, ⟨_, _, _, _, _, _, _, _, rfl, rfl, rfl, rfl⟩⟩⟩
              exact AllReadyH.nil
            exact AllReadyH.nil
          exact AllReadyH.nil
        exact AllReadyH.nil
      exact AllReadyH.nil
    refine AllReadyH.cons (o := { dst := some 11, op := Op.alloc 28, type := 0, pos := "law.go:132", after := #[], guard := none }) rfl (fun K9 hK => ?_) ?_
    · go_simp
      have hba := (Below.refl y0.heap.size y0).alloc (Nat.le_refl _) (.cells #[.slice none 0 0, .slice none 0 0, .slice none 0 0, .slice none 0 0, .int .i64 0] 28)
      have hqs := hS.out.qlt
      have hq11 : Hid (Q < y0.heap.size) := Lib.hid hqs
      replace hS := Lib.hid (hS.out.up hba)
      have hz11 : Hid ((y0.alloc (.cells #[.slice none 0 0, .slice none 0 0, .slice none 0 0, .slice none 0 0, .int .i64 0] 28)).heap[y0.heap.size]? = some uz5) := Lib.hid (heap_alloc_new y0 _)
      clear hba hqs
      generalize hgy : y0.alloc (.cells #[.slice none 0 0, .slice none 0 0, .slice none 0 0, .slice none 0 0, .int .i64 0] 28) = y1 at *
      clear hgy
      generalize y0.heap.size = b11 at *
      refine hK.out _ _ ?_ ?_
      · (try dsimp only); exact hS.out
      clear hK K9 hHeld; intro hHeld
      try simp only [Act.put, List.setIfInBounds_toArray, List.set_cons_zero, List.set_cons_succ]
      refine wpAnyH_ready (rs := [1, 4]) (by kernel_rfl) (by simp) ?_
      refine AllReadyH.cons (o := { dst := some 21, op := Op.call { callee := Callee.value (Operand.func 11), args := #[Operand.tmp 20], argTypes := #[28] }, type := 28, pos := "law.go:132", after := #[{ on := 0, ground := Ground.data }], guard := none }) rfl (fun K9 hK => ?_) ?_
      · go_simp
        with_reducible refine (PC.out _ hS.out.k6').mono ?_
        rintro e y2 ⟨nv, cv, mv, ov, rfl, hcp, hb⟩
        obtain ⟨a0, a1, a2, a3, a4, a5, a6, a7, rfl, rfl, rfl, rfl⟩ := cp_forms hcp.un hT'.out
        obtain ⟨s1, hs9⟩ : ∃ s, s = y1.heap.size := ⟨_, rfl⟩
        obtain ⟨t1, ht9⟩ : ∃ t, t = y2.heap.size := ⟨_, rfl⟩
        have hqs := hS.out.qlt
        have hq1 : Hid (Q < s1) := Lib.hid (by omega)
        have n11 : Hid (b11 < s1 ∨ t1 ≤ b11) := Lib.hid (Or.inl (by have := block_lt hz11.out; omega))
        replace hS := Lib.hid (hS.out.up hb)
        replace hz11 := Lib.hid (block_up hz11.out hb)
        have hv : Hid (CpA s1 t1 y2 (.slice a0 6 a1) (.slice a2 U.classes.length a3) (.slice a4 9 a5) (.slice a6 U.objects.length a7) U) := Lib.hid (by rw [hs9, ht9]; exact CpA.born hcp)
        clear hs9 ht9 hqs hcp hb
        go_wp2_with fail
        refine hK.out _ _ ?_ ?_
        · (try dsimp only); exact hS.out
        clear hK K9 hHeld; intro hHeld
        try simp only [Act.put, List.setIfInBounds_toArray, List.set_cons_zero, List.set_cons_succ]
        refine wpAnyH_ready (rs := [3, 4]) (by kernel_rfl) (by simp) ?_
        refine AllReadyH.cons (o := { dst := some 23, op := Op.call { callee := Callee.value (Operand.func 11), args := #[Operand.tmp 22], argTypes := #[28] }, type := 28, pos := "law.go:132", after := #[{ on := 2, ground := Ground.data }, { on := 1, ground := Ground.chain }], guard := none }) rfl (fun K9 hK => ?_) ?_
        · go_simp
          with_reducible refine (PC.out _ hS.out.k6').mono ?_
          rintro e y3 ⟨nv, cv, mv, ov, rfl, hcp, hb⟩
          obtain ⟨e0, e1, e2, e3, e4, e5, e6, e7, rfl, rfl, rfl, rfl⟩ := cp_forms hcp.un hT'.out
          obtain ⟨s2, hs9⟩ : ∃ s, s = y2.heap.size := ⟨_, rfl⟩
          obtain ⟨t2, ht9⟩ : ∃ t, t = y3.heap.size := ⟨_, rfl⟩
          have hqs := hS.out.qlt
          have h12 : Hid (t1 ≤ s2) := Lib.hid (by have := hv.out.tle; omega)
          have m11 : Hid (b11 < s2 ∨ t2 ≤ b11) := Lib.hid (Or.inl (by have := block_lt hz11.out; omega))
          replace hS := Lib.hid (hS.out.up hb)
          replace hz11 := Lib.hid (block_up hz11.out hb)
          replace hv := Lib.hid (hv.out.up hb)
          have hw2 : Hid (CpA s2 t2 y3 (.slice e0 6 e1) (.slice e2 U.classes.length e3) (.slice e4 9 e5) (.slice e6 U.objects.length e7) U) := Lib.hid (by rw [hs9, ht9]; exact CpA.born hcp)
          clear hs9 ht9 hqs hcp hb
          go_wp2_with fail
          refine hK.out _ _ ?_ ?_
          · (try dsimp only); exact hS.out
          clear hK K9 hHeld; intro hHeld
          try simp only [Act.put, List.setIfInBounds_toArray, List.set_cons_zero, List.set_cons_succ]
          refine wpAnyH_ready (rs := [4]) (by kernel_rfl) (by simp) ?_
          refine AllReadyH.cons (o := { dst := some 10, op := Op.alloc 28, type := 0, pos := "law.go:132", after := #[], guard := none }) rfl (fun K9 hK => ?_) ?_
          · go_simp
            have hba := (Below.refl y3.heap.size y3).alloc (Nat.le_refl _) (.cells #[.slice none 0 0, .slice none 0 0, .slice none 0 0, .slice none 0 0, .int .i64 0] 28)
            have hqs := hS.out.qlt
            have hq10 : Hid (Q < y3.heap.size) := Lib.hid hqs
            have n10 : Hid (y3.heap.size < s1 ∨ t1 ≤ y3.heap.size) := Lib.hid (Or.inr hv.out.tle)
            have m10 : Hid (y3.heap.size < s2 ∨ t2 ≤ y3.heap.size) := Lib.hid (Or.inr hw2.out.tle)
            have nex : Hid (b11 ≠ y3.heap.size) := Lib.hid (fun e => by have := block_lt hz11.out; omega)
            replace hS := Lib.hid (hS.out.up hba)
            replace hz11 := Lib.hid (block_up hz11.out hba)
            replace hv := Lib.hid (hv.out.up hba)
            replace hw2 := Lib.hid (hw2.out.up hba)
            have hz10 : Hid ((y3.alloc (.cells #[.slice none 0 0, .slice none 0 0, .slice none 0 0, .slice none 0 0, .int .i64 0] 28)).heap[y3.heap.size]? = some uz5) := Lib.hid (heap_alloc_new y3 _)
            clear hba hqs
            generalize hgy : y3.alloc (.cells #[.slice none 0 0, .slice none 0 0, .slice none 0 0, .slice none 0 0, .int .i64 0] 28) = y4 at *
            clear hgy
            generalize y3.heap.size = b10 at *
            refine hK.out _ _ ?_ ?_
            · (try dsimp only); exact hS.out
            clear hK K9 hHeld; intro hHeld
            try simp only [Act.put, List.setIfInBounds_toArray, List.set_cons_zero, List.set_cons_succ]
            refine wpAnyH_ready (rs := [6]) (by kernel_rfl) (by simp) ?_
            refine AllReadyH.cons (o := { dst := none, op := Op.store 28 (Operand.tmp 10) (Operand.tmp 21), type := 0, pos := "law.go:132", after := #[{ on := 4, ground := Ground.data }, { on := 1, ground := Ground.data }, { on := 3, ground := Ground.chain }, { on := 0, ground := Ground.phase }, { on := 1, ground := Ground.phase }, { on := 2, ground := Ground.textOnly Departure.lateStores }, { on := 3, ground := Ground.textOnly Departure.lateStoresUnsure }, { on := 4, ground := Ground.phase }, { on := 5, ground := Ground.phase }], guard := none }) rfl (fun K9 hK => ?_) ?_
            · obtain ⟨hth, hx10, hcg⟩ := box_store hz10.out (.slice a0 6 a1) (.slice a2 U.classes.length a3) (.slice a4 9 a5) (.slice a6 U.objects.length a7) (.int .i64 6)
              refine step_store_mid rfl 28 (.tmp 10) (.tmp 21) rfl b10 0 #[.slice a0 6 a1, .slice a2 U.classes.length a3, .slice a4 9 a5, .slice a6 U.objects.length a7, .int .i64 6] (by simp [Act.eval]) (by simp [Act.eval]) hth infoU (one5 _ _ _ _ _ _ _ _ _ _ _ _ _) ?_
              show K9 _ (y4.setCells b10 0 [.slice a0 6 a1, .slice a2 U.classes.length a3, .slice a4 9 a5, .slice a6 U.objects.length a7, .int .i64 6])
              replace hS := Lib.hid (hS.out.cg hcg (fun q e => by subst e; exact hq10.out))
              replace hv := Lib.hid (hv.out.step hcg (fun q e => by subst e; exact n10.out))
              replace hw2 := Lib.hid (hw2.out.step hcg (fun q e => by subst e; exact m10.out))
              replace hz11 := Lib.hid ((hcg.block b11 (block_lt hz11.out) (fun e => nex.out e)).trans hz11.out)
              replace hx10 := Lib.hid hx10
              clear hth hcg hz10
              generalize hgy : y4.setCells b10 0 [.slice a0 6 a1, .slice a2 U.classes.length a3, .slice a4 9 a5, .slice a6 U.objects.length a7, .int .i64 6] = y5 at *
              clear hgy
              refine hK.out _ _ ?_ ?_
              · (try dsimp only); exact hS.out
              clear hK K9 hHeld; intro hHeld
              try simp only [Act.put]
              refine wpAnyH_ready (rs := [7]) (by kernel_rfl) (by simp) ?_
              refine AllReadyH.cons (o := { dst := none, op := Op.store 28 (Operand.tmp 11) (Operand.tmp 23), type := 0, pos := "law.go:132", after := #[{ on := 5, ground := Ground.data }, { on := 3, ground := Ground.data }, { on := 6, ground := Ground.chain }, { on := 0, ground := Ground.phase }, { on := 1, ground := Ground.phase }, { on := 2, ground := Ground.phase }, { on := 3, ground := Ground.phase }, { on := 4, ground := Ground.phase }, { on := 5, ground := Ground.phase }, { on := 6, ground := Ground.phase }], guard := none }) rfl (fun K9 hK => ?_) ?_
              · obtain ⟨hth, hx11, hcg⟩ := box_store hz11.out (.slice e0 6 e1) (.slice e2 U.classes.length e3) (.slice e4 9 e5) (.slice e6 U.objects.length e7) (.int .i64 6)
                refine step_store_mid rfl 28 (.tmp 11) (.tmp 23) rfl b11 0 #[.slice e0 6 e1, .slice e2 U.classes.length e3, .slice e4 9 e5, .slice e6 U.objects.length e7, .int .i64 6] (by simp [Act.eval]) (by simp [Act.eval]) hth infoU (one5 _ _ _ _ _ _ _ _ _ _ _ _ _) ?_
                show K9 _ (y5.setCells b11 0 [.slice e0 6 e1, .slice e2 U.classes.length e3, .slice e4 9 e5, .slice e6 U.objects.length e7, .int .i64 6])
                replace hS := Lib.hid (hS.out.cg hcg (fun q e => by subst e; exact hq11.out))
                replace hv := Lib.hid (hv.out.step hcg (fun q e => by subst e; exact n11.out))
                replace hw2 := Lib.hid (hw2.out.step hcg (fun q e => by subst e; exact m11.out))
                replace hx10 := Lib.hid (hx10.out.cg hcg (fun e => nex.out e.symm))
                replace hx11 := Lib.hid hx11
                clear hth hcg hz11
                generalize hgy : y5.setCells b11 0 [.slice e0 6 e1, .slice e2 U.classes.length e3, .slice e4 9 e5, .slice e6 U.objects.length e7, .int .i64 6] = y6 at *
                clear hgy
                refine hK.out _ _ ?_ ?_
                · (try dsimp only); exact hS.out
                clear hK K9 hHeld; intro hHeld
                try simp only [Act.put]
                refine wpAnyH_done (by kernel_rfl) ?_ _
                go_wp2
                go_meet
                exact ⟨s1, t1, s2, t2, b10, b11, _, _, _, _, _, _, _, _, rfl, rfl, Lib.hid ⟨hS.out, hx10.out, hx11.out, hv.out, hw2.out, h12.out, hq1.out, n10.out, n11.out, ⟨_, _, _, _, _, _, _, _, rfl, rfl, rfl, rfl⟩, ⟨_, _, _, _, _, _, _, _, rfl, rfl, rfl, rfl⟩⟩⟩
              exact AllReadyH.nil
            exact AllReadyH.nil
          exact AllReadyH.nil
        refine AllReadyH.cons (o := { dst := some 10, op := Op.alloc 28, type := 0, pos := "law.go:132", after := #[], guard := none }) rfl (fun K9 hK => ?_) ?_
        · go_simp
          have hba := (Below.refl y2.heap.size y2).alloc (Nat.le_refl _) (.cells #[.slice none 0 0, .slice none 0 0, .slice none 0 0, .slice none 0 0, .int .i64 0] 28)
          have hqs := hS.out.qlt
          have hq10 : Hid (Q < y2.heap.size) := Lib.hid hqs
          have n10 : Hid (y2.heap.size < s1 ∨ t1 ≤ y2.heap.size) := Lib.hid (Or.inr hv.out.tle)
          have nex : Hid (b11 ≠ y2.heap.size) := Lib.hid (fun e => by have := block_lt hz11.out; omega)
          replace hS := Lib.hid (hS.out.up hba)
          replace hz11 := Lib.hid (block_up hz11.out hba)
          replace hv := Lib.hid (hv.out.up hba)
          have hz10 : Hid ((y2.alloc (.cells #[.slice none 0 0, .slice none 0 0, .slice none 0 0, .slice none 0 0, .int .i64 0] 28)).heap[y2.heap.size]? = some uz5) := Lib.hid (heap_alloc_new y2 _)
          clear hba hqs
          generalize hgy : y2.alloc (.cells #[.slice none 0 0, .slice none 0 0, .slice none 0 0, .slice none 0 0, .int .i64 0] 28) = y3 at *
          clear hgy
          generalize y2.heap.size = b10 at *
          refine hK.out _ _ ?_ ?_
          · (try dsimp only); exact hS.out
          clear hK K9 hHeld; intro hHeld
          try simp only [Act.put, List.setIfInBounds_toArray, List.set_cons_zero, List.set_cons_succ]
          refine wpAnyH_ready (rs := [3]) (by kernel_rfl) (by simp) ?_
          refine AllReadyH.cons (o := { dst := some 23, op := Op.call { callee := Callee.value (Operand.func 11), args := #[Operand.tmp 22], argTypes := #[28] }, type := 28, pos := "law.go:132", after := #[{ on := 2, ground := Ground.data }, { on := 1, ground := Ground.chain }], guard := none }) rfl (fun K9 hK => ?_) ?_
          · go_simp
            with_reducible refine (PC.out _ hS.out.k6').mono ?_
            rintro e y4 ⟨nv, cv, mv, ov, rfl, hcp, hb⟩
            obtain ⟨e0, e1, e2, e3, e4, e5, e6, e7, rfl, rfl, rfl, rfl⟩ := cp_forms hcp.un hT'.out
            obtain ⟨s2, hs9⟩ : ∃ s, s = y3.heap.size := ⟨_, rfl⟩
            obtain ⟨t2, ht9⟩ : ∃ t, t = y4.heap.size := ⟨_, rfl⟩
            have hqs := hS.out.qlt
            have h12 : Hid (t1 ≤ s2) := Lib.hid (by have := hv.out.tle; omega)
            have m10 : Hid (b10 < s2 ∨ t2 ≤ b10) := Lib.hid (Or.inl (by have := block_lt hz10.out; omega))
            have m11 : Hid (b11 < s2 ∨ t2 ≤ b11) := Lib.hid (Or.inl (by have := block_lt hz11.out; omega))
            replace hS := Lib.hid (hS.out.up hb)
            replace hz10 := Lib.hid (block_up hz10.out hb)
            replace hz11 := Lib.hid (block_up hz11.out hb)
            replace hv := Lib.hid (hv.out.up hb)
            have hw2 : Hid (CpA s2 t2 y4 (.slice e0 6 e1) (.slice e2 U.classes.length e3) (.slice e4 9 e5) (.slice e6 U.objects.length e7) U) := Lib.hid (by rw [hs9, ht9]; exact CpA.born hcp)
            clear hs9 ht9 hqs hcp hb
            go_wp2_with fail
            refine hK.out _ _ ?_ ?_
            · (try dsimp only); exact hS.out
            clear hK K9 hHeld; intro hHeld
            try simp only [Act.put, List.setIfInBounds_toArray, List.set_cons_zero, List.set_cons_succ]
            refine wpAnyH_ready (rs := [6]) (by kernel_rfl) (by simp) ?_
            refine AllReadyH.cons (o := { dst := none, op := Op.store 28 (Operand.tmp 10) (Operand.tmp 21), type := 0, pos := "law.go:132", after := #[{ on := 4, ground := Ground.data }, { on := 1, ground := Ground.data }, { on := 3, ground := Ground.chain }, { on := 0, ground := Ground.phase }, { on := 1, ground := Ground.phase }, { on := 2, ground := Ground.textOnly Departure.lateStores }, { on := 3, ground := Ground.textOnly Departure.lateStoresUnsure }, { on := 4, ground := Ground.phase }, { on := 5, ground := Ground.phase }], guard := none }) rfl (fun K9 hK => ?_) ?_
            · obtain ⟨hth, hx10, hcg⟩ := box_store hz10.out (.slice a0 6 a1) (.slice a2 U.classes.length a3) (.slice a4 9 a5) (.slice a6 U.objects.length a7) (.int .i64 6)
              refine step_store_mid rfl 28 (.tmp 10) (.tmp 21) rfl b10 0 #[.slice a0 6 a1, .slice a2 U.classes.length a3, .slice a4 9 a5, .slice a6 U.objects.length a7, .int .i64 6] (by simp [Act.eval]) (by simp [Act.eval]) hth infoU (one5 _ _ _ _ _ _ _ _ _ _ _ _ _) ?_
              show K9 _ (y4.setCells b10 0 [.slice a0 6 a1, .slice a2 U.classes.length a3, .slice a4 9 a5, .slice a6 U.objects.length a7, .int .i64 6])
              replace hS := Lib.hid (hS.out.cg hcg (fun q e => by subst e; exact hq10.out))
              replace hv := Lib.hid (hv.out.step hcg (fun q e => by subst e; exact n10.out))
              replace hw2 := Lib.hid (hw2.out.step hcg (fun q e => by subst e; exact m10.out))
              replace hz11 := Lib.hid ((hcg.block b11 (block_lt hz11.out) (fun e => nex.out e)).trans hz11.out)
              replace hx10 := Lib.hid hx10
              clear hth hcg hz10
              generalize hgy : y4.setCells b10 0 [.slice a0 6 a1, .slice a2 U.classes.length a3, .slice a4 9 a5, .slice a6 U.objects.length a7, .int .i64 6] = y5 at *
              clear hgy
              refine hK.out _ _ ?_ ?_
              · (try dsimp only); exact hS.out
              clear hK K9 hHeld; intro hHeld
              try simp only [Act.put]
              refine wpAnyH_ready (rs := [7]) (by kernel_rfl) (by simp) ?_
              refine AllReadyH.cons (o := { dst := none, op := Op.store 28 (Operand.tmp 11) (Operand.tmp 23), type := 0, pos := "law.go:132", after := #[{ on := 5, ground := Ground.data }, { on := 3, ground := Ground.data }, { on := 6, ground := Ground.chain }, { on := 0, ground := Ground.phase }, { on := 1, ground := Ground.phase }, { on := 2, ground := Ground.phase }, { on := 3, ground := Ground.phase }, { on := 4, ground := Ground.phase }, { on := 5, ground := Ground.phase }, { on := 6, ground := Ground.phase }], guard := none }) rfl (fun K9 hK => ?_) ?_
              · obtain ⟨hth, hx11, hcg⟩ := box_store hz11.out (.slice e0 6 e1) (.slice e2 U.classes.length e3) (.slice e4 9 e5) (.slice e6 U.objects.length e7) (.int .i64 6)
                refine step_store_mid rfl 28 (.tmp 11) (.tmp 23) rfl b11 0 #[.slice e0 6 e1, .slice e2 U.classes.length e3, .slice e4 9 e5, .slice e6 U.objects.length e7, .int .i64 6] (by simp [Act.eval]) (by simp [Act.eval]) hth infoU (one5 _ _ _ _ _ _ _ _ _ _ _ _ _) ?_
                show K9 _ (y5.setCells b11 0 [.slice e0 6 e1, .slice e2 U.classes.length e3, .slice e4 9 e5, .slice e6 U.objects.length e7, .int .i64 6])
                replace hS := Lib.hid (hS.out.cg hcg (fun q e => by subst e; exact hq11.out))
                replace hv := Lib.hid (hv.out.step hcg (fun q e => by subst e; exact n11.out))
                replace hw2 := Lib.hid (hw2.out.step hcg (fun q e => by subst e; exact m11.out))
                replace hx10 := Lib.hid (hx10.out.cg hcg (fun e => nex.out e.symm))
                replace hx11 := Lib.hid hx11
                clear hth hcg hz11
                generalize hgy : y5.setCells b11 0 [.slice e0 6 e1, .slice e2 U.classes.length e3, .slice e4 9 e5, .slice e6 U.objects.length e7, .int .i64 6] = y6 at *
                clear hgy
                refine hK.out _ _ ?_ ?_
                · (try dsimp only); exact hS.out
                clear hK K9 hHeld; intro hHeld
                try simp only [Act.put]
                refine wpAnyH_done (by kernel_rfl) ?_ _
                go_wp2
                go_meet
                exact ⟨s1, t1, s2, t2, b10, b11, _, _, _, _, _, _, _, _, rfl, rfl, Lib.hid ⟨hS.out, hx10.out, hx11.out, hv.out, hw2.out, h12.out, hq1.out, n10.out, n11.out, ⟨_, _, _, _, _, _, _, _, rfl, rfl, rfl, rfl⟩, ⟨_, _, _, _, _, _, _, _, rfl, rfl, rfl, rfl⟩⟩⟩
              exact AllReadyH.nil
            exact AllReadyH.nil
          exact AllReadyH.nil
        exact AllReadyH.nil
      refine AllReadyH.cons (o := { dst := some 10, op := Op.alloc 28, type := 0, pos := "law.go:132", after := #[], guard := none }) rfl (fun K9 hK => ?_) ?_
      · go_simp
        have hba := (Below.refl y1.heap.size y1).alloc (Nat.le_refl _) (.cells #[.slice none 0 0, .slice none 0 0, .slice none 0 0, .slice none 0 0, .int .i64 0] 28)
        have hqs := hS.out.qlt
        have hq10 : Hid (Q < y1.heap.size) := Lib.hid hqs
        have nex : Hid (b11 ≠ y1.heap.size) := Lib.hid (fun e => by have := block_lt hz11.out; omega)
        replace hS := Lib.hid (hS.out.up hba)
        replace hz11 := Lib.hid (block_up hz11.out hba)
        have hz10 : Hid ((y1.alloc (.cells #[.slice none 0 0, .slice none 0 0, .slice none 0 0, .slice none 0 0, .int .i64 0] 28)).heap[y1.heap.size]? = some uz5) := Lib.hid (heap_alloc_new y1 _)
        clear hba hqs
        generalize hgy : y1.alloc (.cells #[.slice none 0 0, .slice none 0 0, .slice none 0 0, .slice none 0 0, .int .i64 0] 28) = y2 at *
        clear hgy
        generalize y1.heap.size = b10 at *
        refine hK.out _ _ ?_ ?_
        · (try dsimp only); exact hS.out
        clear hK K9 hHeld; intro hHeld
        try simp only [Act.put, List.setIfInBounds_toArray, List.set_cons_zero, List.set_cons_succ]
        refine wpAnyH_ready (rs := [1]) (by kernel_rfl) (by simp) ?_
        refine AllReadyH.cons (o := { dst := some 21, op := Op.call { callee := Callee.value (Operand.func 11), args := #[Operand.tmp 20], argTypes := #[28] }, type := 28, pos := "law.go:132", after := #[{ on := 0, ground := Ground.data }], guard := none }) rfl (fun K9 hK => ?_) ?_
        · go_simp
          with_reducible refine (PC.out _ hS.out.k6').mono ?_
          rintro e y3 ⟨nv, cv, mv, ov, rfl, hcp, hb⟩
          obtain ⟨a0, a1, a2, a3, a4, a5, a6, a7, rfl, rfl, rfl, rfl⟩ := cp_forms hcp.un hT'.out
          obtain ⟨s1, hs9⟩ : ∃ s, s = y2.heap.size := ⟨_, rfl⟩
          obtain ⟨t1, ht9⟩ : ∃ t, t = y3.heap.size := ⟨_, rfl⟩
          have hqs := hS.out.qlt
          have hq1 : Hid (Q < s1) := Lib.hid (by omega)
          have n10 : Hid (b10 < s1 ∨ t1 ≤ b10) := Lib.hid (Or.inl (by have := block_lt hz10.out; omega))
          have n11 : Hid (b11 < s1 ∨ t1 ≤ b11) := Lib.hid (Or.inl (by have := block_lt hz11.out; omega))
          replace hS := Lib.hid (hS.out.up hb)
          replace hz10 := Lib.hid (block_up hz10.out hb)
          replace hz11 := Lib.hid (block_up hz11.out hb)
          have hv : Hid (CpA s1 t1 y3 (.slice a0 6 a1) (.slice a2 U.classes.length a3) (.slice a4 9 a5) (.slice a6 U.objects.length a7) U) := Lib.hid (by rw [hs9, ht9]; exact CpA.born hcp)
          clear hs9 ht9 hqs hcp hb
          go_wp2_with fail
          refine hK.out _ _ ?_ ?_
          · (try dsimp only); exact hS.out
          clear hK K9 hHeld; intro hHeld
          try simp only [Act.put, List.setIfInBounds_toArray, List.set_cons_zero, List.set_cons_succ]
          refine wpAnyH_ready (rs := [3]) (by kernel_rfl) (by simp) ?_
          refine AllReadyH.cons (o := { dst := some 23, op := Op.call { callee := Callee.value (Operand.func 11), args := #[Operand.tmp 22], argTypes := #[28] }, type := 28, pos := "law.go:132", after := #[{ on := 2, ground := Ground.data }, { on := 1, ground := Ground.chain }], guard := none }) rfl (fun K9 hK => ?_) ?_
          · go_simp
            with_reducible refine (PC.out _ hS.out.k6').mono ?_
            rintro e y4 ⟨nv, cv, mv, ov, rfl, hcp, hb⟩
            obtain ⟨e0, e1, e2, e3, e4, e5, e6, e7, rfl, rfl, rfl, rfl⟩ := cp_forms hcp.un hT'.out
            obtain ⟨s2, hs9⟩ : ∃ s, s = y3.heap.size := ⟨_, rfl⟩
            obtain ⟨t2, ht9⟩ : ∃ t, t = y4.heap.size := ⟨_, rfl⟩
            have hqs := hS.out.qlt
            have h12 : Hid (t1 ≤ s2) := Lib.hid (by have := hv.out.tle; omega)
            have m10 : Hid (b10 < s2 ∨ t2 ≤ b10) := Lib.hid (Or.inl (by have := block_lt hz10.out; omega))
            have m11 : Hid (b11 < s2 ∨ t2 ≤ b11) := Lib.hid (Or.inl (by have := block_lt hz11.out; omega))
            replace hS := Lib.hid (hS.out.up hb)
            replace hz10 := Lib.hid (block_up hz10.out hb)
            replace hz11 := Lib.hid (block_up hz11.out hb)
            replace hv := Lib.hid (hv.out.up hb)
            have hw2 : Hid (CpA s2 t2 y4 (.slice e0 6 e1) (.slice e2 U.classes.length e3) (.slice e4 9 e5) (.slice e6 U.objects.length e7) U) := Lib.hid (by rw [hs9, ht9]; exact CpA.born hcp)
            clear hs9 ht9 hqs hcp hb
            go_wp2_with fail
            refine hK.out _ _ ?_ ?_
            · (try dsimp only); exact hS.out
            clear hK K9 hHeld; intro hHeld
            try simp only [Act.put, List.setIfInBounds_toArray, List.set_cons_zero, List.set_cons_succ]
            refine wpAnyH_ready (rs := [6]) (by kernel_rfl) (by simp) ?_
            refine AllReadyH.cons (o := { dst := none, op := Op.store 28 (Operand.tmp 10) (Operand.tmp 21), type := 0, pos := "law.go:132", after := #[{ on := 4, ground := Ground.data }, { on := 1, ground := Ground.data }, { on := 3, ground := Ground.chain }, { on := 0, ground := Ground.phase }, { on := 1, ground := Ground.phase }, { on := 2, ground := Ground.textOnly Departure.lateStores }, { on := 3, ground := Ground.textOnly Departure.lateStoresUnsure }, { on := 4, ground := Ground.phase }, { on := 5, ground := Ground.phase }], guard := none }) rfl (fun K9 hK => ?_) ?_
            · obtain ⟨hth, hx10, hcg⟩ := box_store hz10.out (.slice a0 6 a1) (.slice a2 U.classes.length a3) (.slice a4 9 a5) (.slice a6 U.objects.length a7) (.int .i64 6)
              refine step_store_mid rfl 28 (.tmp 10) (.tmp 21) rfl b10 0 #[.slice a0 6 a1, .slice a2 U.classes.length a3, .slice a4 9 a5, .slice a6 U.objects.length a7, .int .i64 6] (by simp [Act.eval]) (by simp [Act.eval]) hth infoU (one5 _ _ _ _ _ _ _ _ _ _ _ _ _) ?_
              show K9 _ (y4.setCells b10 0 [.slice a0 6 a1, .slice a2 U.classes.length a3, .slice a4 9 a5, .slice a6 U.objects.length a7, .int .i64 6])
              replace hS := Lib.hid (hS.out.cg hcg (fun q e => by subst e; exact hq10.out))
              replace hv := Lib.hid (hv.out.step hcg (fun q e => by subst e; exact n10.out))
              replace hw2 := Lib.hid (hw2.out.step hcg (fun q e => by subst e; exact m10.out))
              replace hz11 := Lib.hid ((hcg.block b11 (block_lt hz11.out) (fun e => nex.out e)).trans hz11.out)
              replace hx10 := Lib.hid hx10
              clear hth hcg hz10
              generalize hgy : y4.setCells b10 0 [.slice a0 6 a1, .slice a2 U.classes.length a3, .slice a4 9 a5, .slice a6 U.objects.length a7, .int .i64 6] = y5 at *
              clear hgy
              refine hK.out _ _ ?_ ?_
              · (try dsimp only); exact hS.out
              clear hK K9 hHeld; intro hHeld
              try simp only [Act.put]
              refine wpAnyH_ready (rs := [7]) (by kernel_rfl) (by simp) ?_
              refine AllReadyH.cons (o := { dst := none, op := Op.store 28 (Operand.tmp 11) (Operand.tmp 23), type := 0, pos := "law.go:132", after := #[{ on := 5, ground := Ground.data }, { on := 3, ground := Ground.data }, { on := 6, ground := Ground.chain }, { on := 0, ground := Ground.phase }, { on := 1, ground := Ground.phase }, { on := 2, ground := Ground.phase }, { on := 3, ground := Ground.phase }, { on := 4, ground := Ground.phase }, { on := 5, ground := Ground.phase }, { on := 6, ground := Ground.phase }], guard := none }) rfl (fun K9 hK => ?_) ?_
              · obtain ⟨hth, hx11, hcg⟩ := box_store hz11.out (.slice e0 6 e1) (.slice e2 U.classes.length e3) (.slice e4 9 e5) (.slice e6 U.objects.length e7) (.int .i64 6)
                refine step_store_mid rfl 28 (.tmp 11) (.tmp 23) rfl b11 0 #[.slice e0 6 e1, .slice e2 U.classes.length e3, .slice e4 9 e5, .slice e6 U.objects.length e7, .int .i64 6] (by simp [Act.eval]) (by simp [Act.eval]) hth infoU (one5 _ _ _ _ _ _ _ _ _ _ _ _ _) ?_
                show K9 _ (y5.setCells b11 0 [.slice e0 6 e1, .slice e2 U.classes.length e3, .slice e4 9 e5, .slice e6 U.objects.length e7, .int .i64 6])
                replace hS := Lib.hid (hS.out.cg hcg (fun q e => by subst e; exact hq11.out))
                replace hv := Lib.hid (hv.out.step hcg (fun q e => by subst e; exact n11.out))
                replace hw2 := Lib.hid (hw2.out.step hcg (fun q e => by subst e; exact m11.out))
                replace hx10 := Lib.hid (hx10.out.cg hcg (fun e => nex.out e.symm))
                replace hx11 := Lib.hid hx11
                clear hth hcg hz11
                generalize hgy : y5.setCells b11 0 [.slice e0 6 e1, .slice e2 U.classes.length e3, .slice e4 9 e5, .slice e6 U.objects.length e7, .int .i64 6] = y6 at *
                clear hgy
                refine hK.out _ _ ?_ ?_
                · (try dsimp only); exact hS.out
                clear hK K9 hHeld; intro hHeld
                try simp only [Act.put]
                refine wpAnyH_done (by kernel_rfl) ?_ _
                go_wp2
                go_meet
                exact ⟨s1, t1, s2, t2, b10, b11, _, _, _, _, _, _, _, _, rfl, rfl, Lib.hid ⟨hS.out, hx10.out, hx11.out, hv.out, hw2.out, h12.out, hq1.out, n10.out, n11.out, ⟨_, _, _, _, _, _, _, _, rfl, rfl, rfl, rfl⟩, ⟨_, _, _, _, _, _, _, _, rfl, rfl, rfl, rfl⟩⟩⟩
              exact AllReadyH.nil
            exact AllReadyH.nil
          exact AllReadyH.nil
        exact AllReadyH.nil
      exact AllReadyH.nil
    exact AllReadyH.nil
  case rest =>
    obtain ⟨s1, t1, s2, t2, b10, b11, v0, v1, v2, v3, u0, u1, u2, u3, rfl, rfl, hA⟩ := hcut
    clear hS PC hdU hrU
    obtain ⟨a0, a1, a2, a3, a4, a5, a6, a7, rfl, rfl, rfl, rfl⟩ := hA.out.fv
    obtain ⟨e0, e1, e2, e3, e4, e5, e6, e7, rfl, rfl, rfl, rfl⟩ := hA.out.fu
    have c0 := hA.out.t.c0
    have c1 := hA.out.t.c1
    have c2 := hA.out.t.c2
    have c3 := hA.out.t.c3
    have c4 := hA.out.t.c4
    have x0 := hA.out.x.c0
    have x1 := hA.out.x.c1
    have x2 := hA.out.x.c2
    have x3 := hA.out.x.c3
    have x4 := hA.out.x.c4
    have PS := K.same hA.out.t.k6' (unk6 hT hA.out.v.un)
    rw [sameU_self] at PS
    replace PS := Lib.hid PS
    go_wp2_with fail
    with_reducible refine PS.out.mono ?_
    rintro e w1 ⟨rfl, hb⟩
    replace hA := Lib.hid (hA.out.up hb)
    clear c0 c1 c2 c3 c4 x0 x1 x2 x3 x4 PS hb
    have c0 := hA.out.t.c0
    have c1 := hA.out.t.c1
    have c2 := hA.out.t.c2
    have c3 := hA.out.t.c3
    have c4 := hA.out.t.c4
    have x0 := hA.out.x.c0
    have x1 := hA.out.x.c1
    have x2 := hA.out.x.c2
    have x3 := hA.out.x.c3
    have x4 := hA.out.x.c4
    have w98 : IntKind.i64.wrap (9 - 1) = 8 := by decide
    go_upto_region 5 with fail
    go_wp2_with fail
    with_reducible refine (PW.out _).mono ?_
    rintro e w2 ⟨rfl, hw9⟩
    subst w2
    clear c0 c1 c2 c3 c4 x0 x1 x2 x3 x4 PW w98
    have k0 : (0 : Int) ≤ (k : Int) := by omega
    have k1 : (k : Int) < 9 := by omega
    obtain ⟨m, hm⟩ : ∃ m, U.methods[k]? = some m := ⟨U.methods[k]'(by rw [hT.ml]; omega), by simp⟩
    obtain ⟨o, ho⟩ : ∃ o, U.objects[0]? = some o := ⟨U.objects[0]'(by have := hT.ob0; omega), by simp⟩
    obtain ⟨cl, hcl⟩ : ∃ c, U.classes[1]? = some c := ⟨U.classes[1]'(by have := hT.cl0; omega), by simp⟩
    obtain ⟨gn, on, gc, oc2, gm, om, go, oo, lv, kv, fv, hR⟩ := hA.out.v.rows hm ho (show U.names[0]? = some _ by rw [hT.names]; rfl) hcl
    obtain ⟨_, f1⟩ := hR.rn.1
    injection f1 with f1 g1 g2
    clear g1 g2
    obtain ⟨_, f2⟩ := hR.rc.1
    injection f2 with f2 g1 g2
    clear g1 g2
    obtain ⟨_, f3⟩ := hR.rm.1
    injection f3 with f3 g1 g2
    clear g1 g2
    obtain ⟨_, f4⟩ := hR.ro.1
    injection f4 with f4 g1 g2
    clear g1 g2
    subst f1 f2 f3 f4
    obtain ⟨la, lc, el, hl1, hl2, _⟩ := hR.rl.1.ex
    obtain ⟨ja, jc, ek, hj1, hj2, _⟩ := hR.rk.1.ex
    obtain ⟨fa, fc, ef, hf1, hf2, _⟩ := hR.rf.1.ex
    subst el ek ef
    have hlc := len_le hR.rl.1.le
    have hjc := len_le hR.rk.1.le
    have hfc := len_le hR.rf.1.le
    have ho0 := hT.ob0
    have hc0 := hT.cl0
    replace hR := Lib.hid hR
    clear hm ho hcl hl1 hl2 hj1 hj2 hf1 hf2
    obtain ⟨p7, hp7, b7⟩ : ∃ p, bits .and .i64 x 7 = p ∧ (0 ≤ p ∧ p < 8) := ⟨_, rfl, by rw [umask7]; omega⟩
    generalize hnb : IntKind.u8.wrap x = nb at *
    have hS0 : Hid (CwS w1 w1 s1 t1) := Lib.hid ⟨SK.refl _, Cg.refl _ _⟩
    have x2 := hA.out.x.c2
    have pk := hR.out.rm.2.2
    go_wp2
    go_loopw [77] (fun i77 wr => ∃ i : Nat, i ≤ m.code.length ∧ i77 = .int .i64 i ∧ Hid (CwS w1 wr s1 t1)) (fun i77 _ => m.code.length - (intOf i77).toNat)
    case atStart => exact ⟨0, by omega, rfl, hS0⟩
    case round =>
      clear hS0 x2 pk
      obtain ⟨i, hi, rfl, S⟩ := hrel
      have hbx := hA.out.x.cg S.out.cg (fun h => by have := hA.out.n10; omega)
      have x2 := hbx.c2
      have pk := S.out.sk.sl hR.out.rm.2.2
      by_cases hlt : i < m.code.length
      · have d1 : decide ((i : Int) < (m.code.length : Int)) = true := by simp; omega
        have i0 : (0 : Int) ≤ (i : Int) := by omega
        have i1 : (i : Int) < (m.code.length : Int) := by omega
        obtain ⟨y0, hy⟩ : ∃ y, m.code[i]? = some y := ⟨m.code[i], by simp⟩
        obtain ⟨by0, gk, ok, rfl, q0⟩ := hR.out.rk.1.at hy
        have hWr := hR.out.rk.2 gk ok _ _ rfl (by omega)
        obtain ⟨y, hyb, q1⟩ := S.out.sk.byte q0 by0
        have zf : wr.frozen? ⟨gk, ok + i, none⟩ = false := (S.out.sk.fz _).trans (hWr.2 _)
        obtain ⟨z, hz, hzb⟩ : ∃ z, bits .xor .u8 y nb = z ∧ (0 ≤ z ∧ z ≤ 255) := ⟨_, rfl, xor_u8 _ _⟩
        have hS1 := Lib.hid (S.out.set q1 (Or.inr (Or.inr (Or.inl ⟨y, z, rfl, rfl, hzb⟩))) hWr.1)
        clear S hbx hWr q0 hy by0 hzb hyb
        go_wp2
        go_roundw
        case rel => exact ⟨i + 1, by omega, by go_num, hS1⟩
        case measure => simp [intOf]; omega
      · have d1 : decide ((i : Int) < (m.code.length : Int)) = false := by simp; omega
        clear pk
        have pl := S.out.sk.sl hR.out.rm.2.1
        clear hbx
        have hS1 := Lib.hid S.out
        clear S hnb nb
        go_wp2
        go_loopw [101] (fun i101 wr => ∃ i : Nat, i ≤ m.lits.length ∧ i101 = .int .i64 i ∧ Hid (CwS w1 wr s1 t1)) (fun i101 _ => m.lits.length - (intOf i101).toNat)
        case atStart => exact ⟨0, by omega, rfl, hS1⟩
        case round =>
          clear hS1 x2 pl
          obtain ⟨i, hi, rfl, S⟩ := hrel
          have hbx := hA.out.x.cg S.out.cg (fun h => by have := hA.out.n10; omega)
          have x2 := hbx.c2
          have pl := S.out.sk.sl hR.out.rm.2.1
          by_cases hlt : i < m.lits.length
          · have d1 : decide ((i : Int) < (m.lits.length : Int)) = true := by simp; omega
            have i0 : (0 : Int) ≤ (i : Int) := by omega
            have i1 : (i : Int) < (m.lits.length : Int) := by omega
            obtain ⟨y0, hy⟩ : ∃ y, m.lits[i]? = some y := ⟨m.lits[i], by simp⟩
            obtain ⟨_, by0, gl, ol, rfl, _, q0⟩ := hR.out.rl.1.at hy
            have hWr := hR.out.rl.2 gl ol _ _ rfl (by omega)
            obtain ⟨y, hyb, q1⟩ := S.out.sk.int q0 by0
            have zf : wr.frozen? ⟨gl, ol + i * 2 + 1, none⟩ = false := (S.out.sk.fz _).trans (hWr.2 _)
            obtain ⟨z, hz, hzb⟩ : ∃ z, IntKind.i64.wrap (y + p7) = z ∧ In64 z := ⟨_, rfl, wrap_in64 _⟩
            have hS2 := Lib.hid (S.out.set q1 (Or.inr (Or.inl ⟨y, z, rfl, rfl, hzb⟩)) hWr.1)
            clear S hbx hWr q0 hy by0 hzb hyb
            go_wp2
            go_roundw
            case rel => exact ⟨i + 1, by omega, by go_num, hS2⟩
            case measure => simp [intOf]; omega
          · have d1 : decide ((i : Int) < (m.lits.length : Int)) = false := by simp; omega
            clear x2 pl hp7
            have y0 := hbx.c0
            obtain ⟨sn, qn⟩ := hR.out.rn.2.2
            obtain ⟨sn2, qn2⟩ := S.out.sk.str qn
            have zn : wr.frozen? ⟨gn, on, none⟩ = false := (S.out.sk.fz _).trans (hR.out.rn.2.1.2 _)
            have S2 := S.out.set (x := .string ⟨#[116, 117, 114, 110, 101, 100]⟩) qn2 (Or.inr (Or.inr (Or.inr ⟨_, _, rfl, rfl⟩))) hR.out.rn.2.1.1
            have hN : (wr.setCell ⟨gn, on, none⟩ (.string ⟨#[116, 117, 114, 110, 101, 100]⟩)).cell? ⟨gn, on, none⟩ = some (.string ⟨#[116, 117, 114, 110, 101, 100]⟩) := World.cell?_setCell_same _ _ _ qn2
            clear S hbx qn
            go_upto_region 17 with fail
            clear y0 zn qn2
            generalize wr.setCell ⟨gn, on, none⟩ (.string ⟨#[116, 117, 114, 110, 101, 100]⟩) = W2 at *
            have S := Lib.hid S2
            clear S2
            have hbx := hA.out.x.cg S.out.cg (fun h => by have := hA.out.n10; omega)
            have y1 := hbx.c1
            obtain ⟨cf, qc⟩ := hR.out.rc.2.2
            have sc := S.out.sk.cell _ _ qc
            obtain ⟨cw, qc2, hal⟩ := sc
            have hint : ∃ y, cw = .int .i64 y := by
              rcases hal with e | ⟨_, y, _, e, _⟩ | ⟨_, _, e, _⟩ | ⟨_, _, e, _⟩
              · exact ⟨_, e⟩
              · exact ⟨y, e⟩
              · cases e
              · cases e
            obtain ⟨cy, rfl⟩ := hint
            have zc : W2.frozen? ⟨gc, oc2 + 1 * 4 + 2, none⟩ = false := (S.out.sk.fz _).trans (hR.out.rc.2.1.2 _)
            have S3 := Lib.hid (S.out.set (x := .int .i64 what) qc2 (Or.inr (Or.inl ⟨_, what, rfl, rfl, hw⟩)) hR.out.rc.2.1.1)
            have hN3 : Hid ((W2.setCell ⟨gc, oc2 + 1 * 4 + 2, none⟩ (.int .i64 what)).cell? ⟨gn, on, none⟩ = some (.string ⟨#[116, 117, 114, 110, 101, 100]⟩)) := Lib.hid ((World.cell?_setCell_other _ _ _ _ (fun e => by rw [← e, qc2] at hN; cases hN)).trans hN)
            rw [Nat.one_mul] at qc2 zc S3 hN3
            have hcl1 : (1 : Int) < (U.classes.length : Int) := by omega
            clear S hbx hal hN qc
            go_upto_region 18 with fail
            clear y1 qc2 zc hcl1
            generalize W2.setCell ⟨gc, oc2 + 4 + 2, none⟩ (.int .i64 what) = W3 at *
            have hbx := hA.out.x.cg S3.out.cg (fun h => by have := hA.out.n10; omega)
            have y3 := hbx.c3
            have pf := S3.out.sk.sl hR.out.ro.2
            have ho1 : (0 : Int) < (U.objects.length : Int) := by omega
            clear hbx
            go_wp2
            go_loopw [134] (fun i134 wr => ∃ i : Nat, i ≤ o.flds.length ∧ i134 = .int .i64 i ∧ Hid (CwS w1 wr s1 t1) ∧ Hid (wr.cell? ⟨gn, on, none⟩ = some (.string ⟨#[116, 117, 114, 110, 101, 100]⟩))) (fun i134 _ => o.flds.length - (intOf i134).toNat)
            case atStart => exact ⟨0, by omega, rfl, S3, hN3⟩
            case round =>
              clear S3 hN3 y3 pf
              obtain ⟨i, hi, rfl, S, hN⟩ := hrel
              have hbx := hA.out.x.cg S.out.cg (fun h => by have := hA.out.n10; omega)
              have y3 := hbx.c3
              have pf := S.out.sk.sl hR.out.ro.2
              by_cases hlt : i < o.flds.length
              · have d1 : decide ((i : Int) < (o.flds.length : Int)) = true := by simp; omega
                have i0 : (0 : Int) ≤ (i : Int) := by omega
                have i1 : (i : Int) < (o.flds.length : Int) := by omega
                obtain ⟨y0, hy⟩ : ∃ y, o.flds[i]? = some y := ⟨o.flds[i], by simp⟩
                obtain ⟨by0, by1, gf, of, rfl, q0, q1⟩ := hR.out.rf.1.at hy
                have hWr := hR.out.rf.2 gf of _ _ rfl (by omega)
                obtain ⟨r0, _, p0⟩ := S.out.sk.int q0 by0
                obtain ⟨r1, _, p1⟩ := S.out.sk.int q1 by1
                have zf : ∀ j, wr.frozen? ⟨gf, j, none⟩ = false := fun j => (S.out.sk.fz _).trans (hWr.2 _)
                have zf0 := zf (of + i * 2)
                have zf1 := zf (of + i * 2 + 1)
                have hS4 := S.out.set (x := .int .i64 9) p0 (Or.inr (Or.inl ⟨_, 9, rfl, rfl, i64s (by omega) (by omega)⟩)) hWr.1
                have hN4 : (wr.setCell ⟨gf, of + i * 2, none⟩ (.int .i64 9)).cell? ⟨gn, on, none⟩ = some (.string ⟨#[116, 117, 114, 110, 101, 100]⟩) := (World.cell?_setCell_other _ _ _ _ (fun e => by have h := hN.out; rw [← e, p0] at h; cases h)).trans hN.out
                have p2 : (wr.setCell ⟨gf, of + i * 2, none⟩ (.int .i64 9)).cell? ⟨gf, of + i * 2 + 1, none⟩ = some (.int .i64 r1) := (World.cell?_setCell_other _ _ _ _ (by intro e; injection e with _ h2 _; omega)).trans p1
                have hS5 := Lib.hid (hS4.set (x := .int .i64 0) p2 (Or.inr (Or.inl ⟨_, 0, rfl, rfl, i64s (by omega) (by omega)⟩)) hWr.1)
                have hN5 : Hid (((wr.setCell ⟨gf, of + i * 2, none⟩ (.int .i64 9)).setCell ⟨gf, of + i * 2 + 1, none⟩ (.int .i64 0)).cell? ⟨gn, on, none⟩ = some (.string ⟨#[116, 117, 114, 110, 101, 100]⟩)) := Lib.hid ((World.cell?_setCell_other _ _ _ _ (fun e => by rw [← e, p2] at hN4; cases hN4)).trans hN4)
                clear S hbx hWr q0 q1 hy by0 by1 zf hS4 hN4 p2 hN
                go_wp2
                go_roundw
                case rel => exact ⟨i + 1, by omega, by go_num, hS5, hN5⟩
                case measure => simp [intOf]; omega
              · have d1 : decide ((i : Int) < (o.flds.length : Int)) = false := by simp; omega
                clear y3 pf
                have hTb := hA.out.t.cg S.out.cg (fun q h => by have := hA.out.q1; omega)
                have hCw := hA.out.w.step S.out.cg (fun q h => Or.inl (by have := hA.out.h12; omega))
                have hby := hA.out.y.cg S.out.cg (fun h => by have := hA.out.n11; omega)
                obtain ⟨V, hV, hVm, _, _, _, _⟩ := hA.out.v.un.sk S.out.sk
                have hVk := hV.unk
                rw [hVm, hT.main] at hVk
                have hnv : ¬ U.names = V.names := by
                  intro e
                  obtain ⟨_, _, e9, _, _, h3⟩ := hV.n.ex
                  obtain ⟨g9, o9, e8, q9⟩ := h3 0 ⟨#[103, 111]⟩ (by rw [← e, hT.names]; rfl)
                  injection e9 with e9 _ _
                  rw [← e9] at e8
                  cases e8
                  rw [Nat.add_zero, hN.out] at q9
                  cases q9
                have hsv := sameU_nm hnv
                have L : Hid (CwL w wr Q U na ka ma oa nc kc mc oc b10 b11 V (some ⟨gn, on, none⟩) (some ⟨gc, oc2, none⟩) (some ⟨gm, om, none⟩) (some ⟨go, oo, none⟩) a1 a3 a5 a7 e0 e2 e4 e6 e1 e3 e5 e7) := Lib.hid ⟨hTb, hbx, hby, hVk, unk6 hT hCw.un⟩
                have PS1 := rsame_c L.out.t.k6' L.out.u
                rw [sameU_self] at PS1
                replace PS1 := Lib.hid PS1
                have PR := Lib.hid (fun (w' : World) (h : UnK w' (.agg #[.slice na 6 nc, .slice ka U.classes.length kc, .slice ma 9 mc, .slice oa U.objects.length oc, .int .i64 6]) U) => by have := K.right h; rw [hT.right] at this; exact this)
                have PS2 := Lib.hid (fun (w' : World) (h : UnK w' (.agg #[.slice na 6 nc, .slice ka U.classes.length kc, .slice ma 9 mc, .slice oa U.objects.length oc, .int .i64 6]) U) (h2 : UnK w' (.agg #[.slice (some ⟨gn, on, none⟩) 6 a1, .slice (some ⟨gc, oc2, none⟩) U.classes.length a3, .slice (some ⟨gm, om, none⟩) 9 a5, .slice (some ⟨go, oo, none⟩) U.objects.length a7, .int .i64 6]) V) => by have := K.same h h2; rw [hsv] at this; exact this)
                clear S hN hTb hCw hby hbx hV hVm hVk hnv hsv
                have c0 := L.out.t.c0
                have c1 := L.out.t.c1
                have c2 := L.out.t.c2
                have c3 := L.out.t.c3
                have c4 := L.out.t.c4
                have x0 := L.out.x.c0
                have x1 := L.out.x.c1
                have x2 := L.out.x.c2
                have x3 := L.out.x.c3
                have x4 := L.out.x.c4
                have y0 := L.out.y.c0
                have y1 := L.out.y.c1
                have y2 := L.out.y.c2
                have y3 := L.out.y.c3
                have y4 := L.out.y.c4
                go_wp2_with fail
                with_reducible refine PS1.out.mono ?_
                rintro e z1 ⟨rfl, hb⟩
                replace L := Lib.hid (L.out.up hb)
                clear c0 c1 c2 c3 c4 x0 x1 x2 x3 x4 y0 y1 y2 y3 y4 PS1 hb
                have c0 := L.out.t.c0
                have c1 := L.out.t.c1
                have c2 := L.out.t.c2
                have c3 := L.out.t.c3
                have c4 := L.out.t.c4
                have x0 := L.out.x.c0
                have x1 := L.out.x.c1
                have x2 := L.out.x.c2
                have x3 := L.out.x.c3
                have x4 := L.out.x.c4
                have y0 := L.out.y.c0
                have y1 := L.out.y.c1
                have y2 := L.out.y.c2
                have y3 := L.out.y.c3
                have y4 := L.out.y.c4
                go_wp2_with fail
                with_reducible refine (PR.out _ L.out.t.k6').mono ?_
                rintro e z2 ⟨rfl, hb⟩
                replace L := Lib.hid (L.out.up hb)
                clear c0 c1 c2 c3 c4 x0 x1 x2 x3 x4 y0 y1 y2 y3 y4 PR hb
                have c0 := L.out.t.c0
                have c1 := L.out.t.c1
                have c2 := L.out.t.c2
                have c3 := L.out.t.c3
                have c4 := L.out.t.c4
                have x0 := L.out.x.c0
                have x1 := L.out.x.c1
                have x2 := L.out.x.c2
                have x3 := L.out.x.c3
                have x4 := L.out.x.c4
                have y0 := L.out.y.c0
                have y1 := L.out.y.c1
                have y2 := L.out.y.c2
                have y3 := L.out.y.c3
                have y4 := L.out.y.c4
                go_wp2_with fail
                with_reducible refine (PS2.out _ L.out.t.k6' L.out.v).mono ?_
                rintro e z3 ⟨rfl, hb⟩
                replace L := Lib.hid (L.out.up hb)
                clear c0 c1 c2 c3 c4 x0 x1 x2 x3 x4 y0 y1 y2 y3 y4 PS2 hb
                go_wp2_with fail
                with_reducible refine (PN.out _).mono ?_
                rintro e z4 ⟨rfl, hb⟩
                replace L := Lib.hid (L.out.up hb)
                go_wp2
                go_ret
                exact ⟨rfl, L.out.t.bel⟩
end Wd
end Go.Proofs.Ytgfdgdbkifkehaa

/- The walks, their arguments in the laws' order. -/
namespace Go.Proofs.Ytgfdgdbkifkehaa
open Go.RowKit
set_option linter.unusedVariables false
namespace Wd
section
variable {w : World} {v : Value} {ad : Option Addr} {n cap : Nat} {R : UnitA}
theorem finds_s (K : UnitK) (HA : NumA w ad n) (hn : n ≤ 4611686018427387904) (a : Int) (ha : In64 a) (b : Int) (hb : In64 b) : Calls Try.prog 3 #[.slice ad n cap, .int .i64 a, .int .i64 b] w fun e w' => e = .returned (.bool true) ∧ Below w.heap.size w w' := finds_any K HA hn a b ha hb
theorem copies_s (K : UnitK) (HA : NumA w ad n) (hn : n ≤ 4611686018427387904) (a : Int) (ha : In64 a) (b : Int) (hb : In64 b) (c : Int) (hc : In64 c) : Calls Try.prog 4 #[.slice ad n cap, .int .i64 a, .int .i64 b, .int .i64 c] w fun e w' => e = .returned (.bool true) ∧ Below w.heap.size w w' := copies_any K HA hn a b c ha hb hc
theorem main_s (K : UnitK) (HA : NumA w ad n) (hn : n ≤ 4611686018427387904) (a : Int) (ha : In64 a) : Calls Try.prog 5 #[.slice ad n cap, .int .i64 a] w fun e w' => e = .returned (.bool true) ∧ Below w.heap.size w w' := main_any K HA hn a ha
theorem words_s (K : UnitK) (HA : NumA w ad n) (hn : n ≤ 4611686018427387904) (a : Int) (ha : In64 a) : Calls Try.prog 6 #[.slice ad n cap, .int .i64 a] w fun e w' => e = .returned (.bool true) ∧ Below w.heap.size w w' := words_any K HA hn a ha
end
end Wd
end Go.Proofs.Ytgfdgdbkifkehaa
