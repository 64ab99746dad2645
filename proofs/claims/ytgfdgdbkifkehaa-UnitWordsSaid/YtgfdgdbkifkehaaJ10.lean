/- Texts joined: UFD, RHD, UFW, UOL, UOW, UTL, UTN, UNM, UWD, UCV. -/
import Derived.Test.YtgfdgdbkifkehaaJ1
import Derived.Test.YtgfdgdbkifkehaaJ4
import Derived.Test.YtgfdgdbkifkehaaJ5
import Derived.Test.YtgfdgdbkifkehaaJ9
import Derived.OrdersHeld
import Derived.Deep.RegionHeld
import Derived.Deep.MidRow
import Derived.StillTailTactics
import Derived.Deep.RegionHeld3
import Derived.Deep.RegionWith
import Derived.Deep.RegionHeldLaw
import Derived.Maps.AppendAt
import Derived.Deep.AppendLies
/- UnitFinds: a method is found by the nearest class that binds it. -/
namespace Go.Proofs.Ytgfdgdbkifkehaa
open Go.RowKit
set_option linter.unusedVariables false
set_option maxRecDepth 20000
namespace Wd
theorem chain_deep {L : List ClassA} (h : TapeL L) : ∀ (m i : Nat), i < m → i < L.length → ∀ f, i + 1 ≤ f → chainR L (i : Int) f = chainR L (i : Int) (i + 1)
  | 0, i, hi, _, _, _ => by omega
  | m + 1, i, hi, hl, f, hf => by
    obtain ⟨c, hc⟩ : ∃ c, L[i]? = some c := ⟨L[i], by simp⟩
    obtain ⟨f', rfl⟩ : ∃ f', f = f' + 1 := ⟨f - 1, by omega⟩
    rw [chainR_on hc, chainR_on hc]
    congr 1
    have hs : c.super < 0 ∨ (0 ≤ c.super ∧ c.super < i) := by
      have ho := (h.ok i c hc).1
      rcases (show i = 0 ∨ i = 1 ∨ 2 ≤ i by omega) with e | e | e
      · have := (ho.z e).2.1; omega
      · have := (ho.o e).2.1; omega
      · rcases ho.sup e with g | ⟨g1, g2, _⟩ <;> omega
    rcases hs with hs | ⟨hs, hs2⟩
    · rw [chainR_neg _ hs, chainR_neg _ hs]
    · obtain ⟨s, e⟩ : ∃ s : Nat, c.super = s := ⟨c.super.toNat, by omega⟩
      rw [e] at hs2 ⊢
      rw [chain_deep h m s (by omega) (by omega) f' (by omega), chain_deep h m s (by omega) (by omega) i (by omega)]
theorem find_here {C : List ClassA} {k : Nat} {c : ClassA} {sel : Int} (hc : C[k]? = some c) : findU C (k : Int) sel = match bindIn c.binds sel with
  | some m => m
  | none => findIn C sel (chainR C c.super 7) := by
  unfold findU chain
  rw [chainR_on hc, findIn, bindsAt_at hc]
  cases bindIn c.binds sel <;> rfl
theorem find_up {L : List ClassA} (h : TapeL L) {k : Nat} {c : ClassA} (hc : L[k]? = some c) (h0 : 0 ≤ c.super) (sel : Int) : findIn L sel (chainR L c.super 7) = findU L c.super sel := by
  have hk := (List.getElem?_eq_some_iff.1 hc).1
  have h5 := h.le
  have hs : c.super < k := by
    have ho := (h.ok k c hc).1
    rcases (show k = 0 ∨ k = 1 ∨ 2 ≤ k by omega) with e | e | e
    · have := (ho.z e).2.1; omega
    · have := (ho.o e).2.1; omega
    · rcases ho.sup e with g | ⟨g1, g2, _⟩ <;> omega
  obtain ⟨s, e⟩ : ∃ s : Nat, c.super = s := ⟨c.super.toNat, by omega⟩
  unfold findU chain
  rw [e] at hs ⊢
  rw [chain_deep h 6 s (by omega) (by omega) 7 (by omega), chain_deep h 6 s (by omega) (by omega) 8 (by omega)]
/-- a class of a program, where it lies -/
structure ClC (wr : World) (g o k : Nat) (x : ClassA) (ba : Option Addr) (bc : Nat) : Prop where
  c1 : wr.cell? ⟨g, o + k * 4 + 1, none⟩ = some (.int .i64 x.super)
  c3 : wr.cell? ⟨g, o + k * 4 + 3, none⟩ = some (.slice ba x.binds.length bc)
  b : PrV wr (.slice ba x.binds.length bc) x.binds
  s64 : In64 x.super
theorem ClC.up {w w1 : World} {g o k : Nat} {x : ClassA} {ba : Option Addr} {bc : Nat} (h : ClC w g o k x ba bc) (b : Below w.heap.size w w1) : ClC w1 g o k x ba bc := ⟨cell_up b h.c1, cell_up b h.c3, h.b.up b, h.s64⟩
/-- all that UnitFinds reads -/
structure FdS (w wr : World) (Q : Nat) (U : UnitA) (na ma oa : Option Addr) (gc oc nc kc mc ocp k : Nat) (x : ClassA) (ba : Option Addr) (bc : Nat) : Prop where
  t : TpB w wr Q U na (some ⟨gc, oc, none⟩) ma oa nc kc mc ocp 6
  c : ClC wr gc oc k x ba bc
theorem FdS.up {w wr w1 : World} {Q : Nat} {U : UnitA} {na ma oa : Option Addr} {gc oc nc kc mc ocp k : Nat} {x : ClassA} {ba : Option Addr} {bc : Nat} (h : FdS w wr Q U na ma oa gc oc nc kc mc ocp k x ba bc) (b : Below wr.heap.size wr w1) : FdS w w1 Q U na ma oa gc oc nc kc mc ocp k x ba bc := ⟨h.t.up b, h.c.up b⟩
theorem TpB.k6 {w wr : World} {Q : Nat} {U : UnitA} {na ka ma oa : Option Addr} {nc kc mc oc : Nat} (h : TpB w wr Q U na ka ma oa nc kc mc oc 6) : UnK wr (.agg #[.slice na 6 nc, .slice ka U.classes.length kc, .slice ma 9 mc, .slice oa U.objects.length oc, .int .i64 6]) U := by
  have := h.unk
  rwa [show ({ U with main := 6 } : UnitA) = U by have := h.ta.main; cases U; simp_all] at this
set_option maxHeartbeats 32000000 in
theorem finds_any (K : UnitK) {w : World} {ad : Option Addr} {n cap : Nat} (HA : NumA w ad n) (hn : n ≤ 4611686018427387904) (cls sel : Int) (hc : In64 cls) (hs : In64 sel) :
    Calls Try.prog 3 #[.slice ad n cap, .int .i64 cls, .int .i64 sel] w fun e w' => e = .returned (.bool true) ∧ Below w.heap.size w w' := by
  have PU := Lib.hid (unit_c (tape_tp (cap := cap) HA hn))
  have PN := Lib.hid (fun w => uknown_c K w)
  have PW2 := Lib.hid (fun w => within_c sel 0 5 hs.1 hs.2 (by omega) (by omega) (by omega) w)
  have hsk := within_bd sel 0 5 (by omega)
  generalize within sel 0 5 = s at *
  have hs64 := in64_of (x := s) (by omega) (by omega)
  have wm6 : IntKind.i64.wrap (6 - 1) = 5 := by decide
  clear HA
  go_enter Try.func3, Try.ntmps3
  go_wp2_with fail
  with_reducible refine PU.out.mono ?_
  rintro e wu ⟨nv, cv, mv, ov, rfl, U, hU, hT, _, hcg, _⟩
  have hBu := unit_bel hcg
  obtain ⟨na, nc, ka, kc, ma, mc, oa, ocp, rfl, rfl, rfl, rfl, hS⟩ := tpb_born hU hT hBu
  clear PU hcg hU hBu
  replace hS := Lib.hid hS
  go_upto_region 2 with fail
  generalize wu.alloc (.cells #[.slice na 6 nc, .slice ka U.classes.length kc, .slice ma 9 mc, .slice oa U.objects.length ocp, .int .i64 6] 28) = W at *
  obtain ⟨Q, hQ⟩ : ∃ Q, Q = wu.heap.size := ⟨_, rfl⟩
  rw [← hQ] at hS ⊢
  clear hQ
  have hl0 := hT.cl0
  have hl1 := hT.cl1
  have PW := Lib.hid (within_c cls 0 ((U.classes.length : Int) - 1) hc.1 hc.2 (by omega) (by omega) (by omega))
  have hck := within_bd cls 0 ((U.classes.length : Int) - 1) (by omega)
  generalize within cls 0 ((U.classes.length : Int) - 1) = cc at *
  obtain ⟨k, rfl⟩ : ∃ k : Nat, cc = k := ⟨cc.toNat, by omega⟩
  have wm : IntKind.i64.wrap ((U.classes.length : Int) - 1) = (U.classes.length : Int) - 1 := by rw [IntKind.wrap_i64]; omega
  have c0 := hS.out.c0
  have c1 := hS.out.c1
  refine wp_region_still_lit (by kernel_rfl) (by kernel_rfl) ?_
  iterate 5 still_step
  still_call (PW.out _)
  iterate 5 still_step
  still_call (PW2.out _)
  iterate 2 still_step
  refine wpStill_nil ?_
  have hSd := Lib.hid hS.out.drew
  change Exit.then _ _ Exit.normal _ W.drew
  generalize W.drew = Wd at *
  clear hS c0 c1 PW PW2 wm wm6
  have hS := Lib.hid hSd.out
  clear hSd
  obtain ⟨x, hx⟩ : ∃ x, U.classes[k]? = some x := ⟨U.classes[k]'(by omega), by simp⟩
  obtain ⟨_, _, e0, _, _, hcx⟩ := hS.out.un.c.ex
  obtain ⟨s1, _, gc, oc, bv, e1, _, p1, _, p3, pb⟩ := hcx k x hx
  injection e0 with e0 e2 e3
  rw [← e0] at e1
  subst e1
  obtain ⟨ba, bc, rfl, _⟩ := pb.ex
  have hF : Hid (FdS w Wd Q U na ma oa gc oc nc kc mc ocp k x ba bc) := Lib.hid ⟨hS.out, ⟨p1, p3, pb, s1⟩⟩
  have hk0 : (0 : Int) ≤ (k : Int) := by omega
  have hk1 : (k : Int) < (U.classes.length : Int) := by omega
  have hbl := len_le pb.le
  have hx' := Lib.hid hx
  clear hcx e0 e2 e3 pb p1 p3 hS hx
  have PF := Lib.hid (K.find hF.out.t.k6 (k : Int) s (in64_of (by omega) (by omega)) hs64)
  rw [find_here hx'.out] at PF
  have c0 := hF.out.t.c0
  have c1 := hF.out.t.c1
  have c2 := hF.out.t.c2
  have c3 := hF.out.t.c3
  have c4 := hF.out.t.c4
  go_wp2_with fail
  with_reducible refine PF.out.mono ?_
  rintro e w1 ⟨rfl, hb⟩
  replace hF := Lib.hid (hF.out.up hb)
  clear c0 c1 c2 c3 c4 PF hb hc
  obtain ⟨r, hr⟩ : ∃ r, r = (match bindIn x.binds s with
    | some m => m
    | none => findIn U.classes s (chainR U.classes x.super 7)) := ⟨_, rfl⟩
  rw [← hr]
  replace hr := Lib.hid hr
  go_upto_region 4 with fail
  have c1 := hF.out.t.c1
  have p3 := hF.out.c.c3
  have hst : Hid (BdN x.binds s 0) := Lib.hid (BdN.start _ _)
  go_wp2
  go_loopw [40] (fun i40 wr => ∃ j : Nat, j ≤ x.binds.length ∧ i40 = .int .i64 j ∧ Hid (BdN x.binds s j) ∧ Hid (FdS w wr Q U na ma oa gc oc nc kc mc ocp k x ba bc)) (fun i40 _ => x.binds.length - (intOf i40).toNat)
  case atStart => exact ⟨0, by omega, rfl, hst, hF⟩
  case round =>
    clear hst hF c1 p3
    obtain ⟨j, hj, rfl, hB, hF⟩ := hrel
    by_cases hlt : j < x.binds.length
    · have d1 : decide ((j : Int) < (x.binds.length : Int)) = true := by simp; omega
      have j0 : (0 : Int) ≤ (j : Int) := by omega
      have j1 : (j : Int) < (x.binds.length : Int) := by omega
      obtain ⟨⟨bs, bm⟩, hb⟩ : ∃ y, x.binds[j]? = some y := ⟨x.binds[j]'hlt, by simp⟩
      obtain ⟨_, _, g', off', rfl, l0, l1⟩ := hF.out.c.b.at hb
      have hF1 := Lib.hid (hF.out.up ((Below.refl _ _).alloc (Nat.le_refl _) (.cells #[.int .i64 bs, .int .i64 bm] 39)))
      by_cases he : bs = s
      · have hit := hB.out.hit hb he
        have hr2 : r = bm := by rw [hr.out, hit]
        subst hr2
        subst he
        clear hb hB hit hr
        go_wp2_with fail
        with_reducible refine (PN.out _).mono ?_
        rintro e w3 ⟨rfl, hb⟩
        go_wp2
        go_ret
        exact ⟨rfl, (hF1.out.up hb).t.bel⟩
      · have f0 : (bs == s) = false := by simpa using he
        have hB' := Lib.hid (hB.out.step hb he)
        clear hb hB he
        go_wp2
        go_roundw
        case rel => exact ⟨j + 1, by omega, by go_num, hB', hF1⟩
        case measure => simp [intOf]; omega
    · have d1 : decide ((j : Int) < (x.binds.length : Int)) = false := by simp; omega
      obtain rfl : j = x.binds.length := by omega
      have hno := hB.out.last
      have hr2 := hr.out
      rw [hno] at hr2
      replace hr2 : r = findIn U.classes s (chainR U.classes x.super 7) := hr2
      clear hB hno hr
      have c1 := hF.out.t.c1
      have p1 := hF.out.c.c1
      by_cases h0 : x.super < 0
      · have d0 : decide (x.super < 0) = true := by simpa using h0
        rw [chainR_neg _ h0] at hr2
        replace hr2 : r = -1 := hr2
        subst hr2
        clear h0
        go_wp2_with fail
        with_reducible refine (PN.out _).mono ?_
        rintro e w3 ⟨rfl, hb⟩
        go_wp2
        go_ret
        exact ⟨rfl, (hF.out.up hb).t.bel⟩
      · have d0 : decide (x.super < 0) = false := by simpa using h0
        rw [find_up hT.tl hx'.out (by omega)] at hr2
        go_upto_region 12 with fail
        have PF := Lib.hid (fun (w' : World) (h : UnK w' (.agg #[.slice na 6 nc, .slice (some ⟨gc, oc, none⟩) U.classes.length kc, .slice ma 9 mc, .slice oa U.objects.length ocp, .int .i64 6]) U) => K.find h x.super s hF.out.c.s64 hs64)
        rw [← hr2] at PF
        obtain ⟨dU, hdU, hrU⟩ := rowU
        replace hdU := Lib.hid hdU
        replace hrU := Lib.hid hrU
        replace hF := Lib.hid (hF.out.up ((Below.refl _ _).drew))
        clear c1 p1 hr2 h0 d0
        refine wp_region_held_drew (S := (fun wr' => FdS w wr' Q U na ma oa gc oc nc kc mc ocp k x ba bc)) (by kernel_rfl) ?_ (fun hHeld => ?_)
        · (try dsimp only); exact hF.out
        try simp only [Act.put, List.setIfInBounds_toArray, List.set_cons_zero, List.set_cons_succ]
        refine wpAnyH_take (i := 1) (oi := { dst := some 69, op := Op.load 28 (Operand.tmp 7), type := 28, pos := "law.go:126", after := #[], guard := none }) (v := (.agg #[.slice na 6 nc, .slice (some ⟨gc, oc, none⟩) U.classes.length kc, .slice ma 9 mc, .slice oa U.objects.length ocp, .int .i64 6])) rfl (by kernel_rfl) (by kernel_rfl) (by kernel_rfl) (fun _ _ _ h => h) (yieldsIf_load_mid (by rfl) _ _ rfl Q 0 rfl [.slice na 6 nc, .slice (some ⟨gc, oc, none⟩) U.classes.length kc, .slice ma 9 mc, .slice oa U.objects.length ocp, .int .i64 6] dU (fun w hw => hw.t.rg) hdU.out hrU.out infoU) (by assumption) ?_
        try simp only [Act.put, List.setIfInBounds_toArray, List.set_cons_zero, List.set_cons_succ]
        refine wpAnyH_take (i := 0) (oi := { dst := some 68, op := Op.move (Operand.tmp 10), type := 3, pos := "law.go:126", after := #[], guard := none }) (v := ?_) rfl (by kernel_rfl) (by kernel_rfl) (by kernel_rfl) (fun _ _ _ h => h) (Or.inl ⟨by rfl, ?_⟩) (by assumption) ?_
        rotate_left 1
        · intro w hSw; (try dsimp only at hSw); go_simp <;> with_reducible rfl
        try simp only [Act.put, List.setIfInBounds_toArray, List.set_cons_zero, List.set_cons_succ]
        refine wpAnyH_take (i := 2) (oi := { dst := some 70, op := Op.fieldAddr 28 (Operand.tmp 7) 1, type := 0, pos := "law.go:126", after := #[], guard := none }) (v := ?_) rfl (by kernel_rfl) (by kernel_rfl) (by kernel_rfl) (fun _ _ _ h => h) (Or.inl ⟨by rfl, ?_⟩) (by assumption) ?_
        rotate_left 1
        · intro w hSw; (try dsimp only at hSw); go_simp <;> with_reducible rfl
        try simp only [Act.put, List.setIfInBounds_toArray, List.set_cons_zero, List.set_cons_succ]
        refine wpAnyH_take (i := 3) (oi := { dst := some 71, op := Op.load 24 (Operand.tmp 70), type := 24, pos := "law.go:126", after := #[{ on := 2, ground := Ground.data }], guard := none }) (v := .slice (some ⟨gc, oc, none⟩) U.classes.length kc) rfl (by kernel_rfl) (by kernel_rfl) (by kernel_rfl) (fun _ _ _ h => h) (Or.inl ⟨by rfl, ?_⟩) (by assumption) ?_
        · intro w hSw; have hc := hSw.t.c1; go_simp <;> with_reducible rfl
        try simp only [Act.put, List.setIfInBounds_toArray, List.set_cons_zero, List.set_cons_succ]
        refine wpAnyH_take (i := 4) (oi := { dst := some 72, op := Op.move (Operand.tmp 8), type := 3, pos := "law.go:126", after := #[], guard := none }) (v := ?_) rfl (by kernel_rfl) (by kernel_rfl) (by kernel_rfl) (fun _ _ _ h => h) (Or.inl ⟨by rfl, ?_⟩) (by assumption) ?_
        rotate_left 1
        · intro w hSw; (try dsimp only at hSw); go_simp <;> with_reducible rfl
        try simp only [Act.put, List.setIfInBounds_toArray, List.set_cons_zero, List.set_cons_succ]
        refine wpAnyH_take (i := 5) (oi := { dst := some 73, op := Op.indexAddr 24 (Operand.tmp 71) (Operand.tmp 72), type := 0, pos := "law.go:126", after := #[{ on := 3, ground := Ground.data }, { on := 4, ground := Ground.data }], guard := none }) (v := ?_) rfl (by kernel_rfl) (by kernel_rfl) (by kernel_rfl) (fun _ _ _ h => h) (Or.inl ⟨by rfl, ?_⟩) (by assumption) ?_
        rotate_left 1
        · intro w hSw; (try dsimp only at hSw); go_simp <;> with_reducible rfl
        try simp only [Act.put, List.setIfInBounds_toArray, List.set_cons_zero, List.set_cons_succ]
        refine wpAnyH_take (i := 6) (oi := { dst := some 74, op := Op.fieldAddr 37 (Operand.tmp 73) 1, type := 0, pos := "law.go:126", after := #[{ on := 5, ground := Ground.data }], guard := none }) (v := ?_) rfl (by kernel_rfl) (by kernel_rfl) (by kernel_rfl) (fun _ _ _ h => h) (Or.inl ⟨by rfl, ?_⟩) (by assumption) ?_
        rotate_left 1
        · intro w hSw; (try dsimp only at hSw); go_simp <;> with_reducible rfl
        try simp only [Act.put, List.setIfInBounds_toArray, List.set_cons_zero, List.set_cons_succ]
        refine wpAnyH_take (i := 7) (oi := { dst := some 75, op := Op.load 3 (Operand.tmp 74), type := 3, pos := "law.go:126", after := #[{ on := 6, ground := Ground.data }], guard := none }) (v := .int .i64 x.super) rfl (by kernel_rfl) (by kernel_rfl) (by kernel_rfl) (fun _ _ _ h => h) (Or.inl ⟨by rfl, ?_⟩) (by assumption) ?_
        · intro w hSw; have hc := hSw.c.c1; go_simp <;> with_reducible rfl
        try simp only [Act.put, List.setIfInBounds_toArray, List.set_cons_zero, List.set_cons_succ]
        refine wpAnyH_take (i := 8) (oi := { dst := some 76, op := Op.move (Operand.tmp 9), type := 3, pos := "law.go:126", after := #[], guard := none }) (v := ?_) rfl (by kernel_rfl) (by kernel_rfl) (by kernel_rfl) (fun _ _ _ h => h) (Or.inl ⟨by rfl, ?_⟩) (by assumption) ?_
        rotate_left 1
        · intro w hSw; (try dsimp only at hSw); go_simp <;> with_reducible rfl
        try simp only [Act.put, List.setIfInBounds_toArray, List.set_cons_zero, List.set_cons_succ]
        refine wpAnyH_ready (rs := [9]) (by kernel_rfl) (by simp) ?_
        refine AllReadyH.cons (o := { dst := some 77, op := Op.call { callee := Callee.value (Operand.func 9), args := #[Operand.tmp 69, Operand.tmp 75, Operand.tmp 76], argTypes := #[28, 3, 3] }, type := 3, pos := "law.go:126", after := #[{ on := 1, ground := Ground.data }, { on := 7, ground := Ground.data }, { on := 8, ground := Ground.data }], guard := none }) rfl (fun K9 hK => ?_) ?_
        · go_simp
          with_reducible refine (PF.out _ hF.out.t.k6).mono ?_
          rintro e y1 ⟨rfl, hb⟩
          replace hF := Lib.hid (hF.out.up hb)
          clear hb
          go_wp2_with fail
          refine hK.out _ _ ?_ ?_
          · (try dsimp only); exact hF.out
          clear hK K9 hHeld; intro hHeld
          try simp only [Act.put, List.setIfInBounds_toArray, List.set_cons_zero, List.set_cons_succ]
          refine wpAnyH_take (i := 10) (oi := { dst := some 78, op := Op.binOp BinOp.eql 3 (Operand.tmp 68) (Operand.tmp 77) 3, type := 4, pos := "law.go:126", after := #[{ on := 0, ground := Ground.data }, { on := 9, ground := Ground.data }], guard := none }) (v := ?_) rfl (by kernel_rfl) (by kernel_rfl) (by kernel_rfl) (fun _ _ _ h => h) (Or.inl ⟨by rfl, ?_⟩) (by assumption) ?_
          rotate_left 1
          · intro w hSw; (try dsimp only at hSw); go_simp <;> with_reducible rfl
          try simp only [Act.put, List.setIfInBounds_toArray, List.set_cons_zero, List.set_cons_succ]
          refine wpAnyH_take (i := 11) (oi := { dst := some 79, op := Op.move (Operand.tmp 78), type := 4, pos := "law.go:126", after := #[{ on := 10, ground := Ground.data }, { on := 9, ground := Ground.chain }], guard := none }) (v := ?_) rfl (by kernel_rfl) (by kernel_rfl) (by kernel_rfl) (fun _ _ _ h => h) (Or.inl ⟨by rfl, ?_⟩) (by assumption) ?_
          rotate_left 1
          · intro w hSw; (try dsimp only at hSw); go_simp <;> with_reducible rfl
          try simp only [Act.put, List.setIfInBounds_toArray, List.set_cons_zero, List.set_cons_succ]
          refine wpAnyH_ready (rs := [12]) (by kernel_rfl) (by simp) ?_
          refine AllReadyH.cons (o := { dst := some 80, op := Op.call { callee := Callee.value (Operand.func 10), args := #[], argTypes := #[] }, type := 4, pos := "law.go:126", after := #[{ on := 11, ground := Ground.chain }, { on := 11, ground := Ground.guard }], guard := some (11, true) }) rfl (fun K9 hK => ?_) ?_
          · go_simp
            with_reducible refine (PN.out _).mono ?_
            rintro e y1 ⟨rfl, hb⟩
            replace hF := Lib.hid (hF.out.up hb)
            clear hb
            go_wp2_with fail
            refine hK.out _ _ ?_ ?_
            · (try dsimp only); exact hF.out
            clear hK K9 hHeld; intro hHeld
            try simp only [Act.put, List.setIfInBounds_toArray, List.set_cons_zero, List.set_cons_succ]
            refine wpAnyH_take (i := 13) (oi := { dst := some 81, op := Op.pick (Operand.tmp 79) (Operand.tmp 80) (Operand.const (Value.bool false)), type := 4, pos := "law.go:126", after := #[{ on := 11, ground := Ground.data }, { on := 12, ground := Ground.data }], guard := none }) (v := ?_) rfl (by kernel_rfl) (by kernel_rfl) (by kernel_rfl) (fun _ _ _ h => h) (Or.inl ⟨by rfl, ?_⟩) (by assumption) ?_
            rotate_left 1
            · intro w hSw; (try dsimp only at hSw); go_simp <;> with_reducible rfl
            try simp only [Act.put, List.setIfInBounds_toArray, List.set_cons_zero, List.set_cons_succ]
            refine wpAnyH_take (i := 14) (oi := { dst := some 6, op := Op.assign (Operand.tmp 81), type := 4, pos := "law.go:126", after := #[{ on := 13, ground := Ground.data }, { on := 12, ground := Ground.chain }, { on := 0, ground := Ground.phase }, { on := 1, ground := Ground.phase }, { on := 2, ground := Ground.phase }, { on := 3, ground := Ground.phase }, { on := 4, ground := Ground.phase }, { on := 5, ground := Ground.phase }, { on := 6, ground := Ground.phase }, { on := 7, ground := Ground.phase }, { on := 8, ground := Ground.phase }, { on := 9, ground := Ground.phase }, { on := 10, ground := Ground.phase }, { on := 11, ground := Ground.phase }, { on := 12, ground := Ground.phase }, { on := 13, ground := Ground.phase }], guard := none }) (v := ?_) rfl (by kernel_rfl) (by kernel_rfl) (by kernel_rfl) (fun _ _ _ h => h) (Or.inl ⟨by rfl, ?_⟩) (by assumption) ?_
            rotate_left 1
            · intro w hSw; (try dsimp only at hSw); go_simp <;> with_reducible rfl
            try simp only [Act.put, List.setIfInBounds_toArray, List.set_cons_zero, List.set_cons_succ]
            refine wpAnyH_done (by kernel_rfl) ?_ _
            go_wp2_with fail
            go_ret
            exact ⟨by simp, hF.out.t.bel⟩
          exact AllReadyH.nil
        exact AllReadyH.nil
end Wd
end Go.Proofs.Ytgfdgdbkifkehaa

/- A region that draws, whose last operation writes what the others load: 'S holds behind each operation, as long as number d has not come up'. No program is named here. -/
namespace Go.Proofs.Ytgfdgdbkifkehaa
set_option linter.unusedVariables false
namespace Wd
section
variable {P : Program} {ops : Array Oper} {Q : Exit → Act → World → Prop} {md : Region.Mode} {S : World → Prop} {d : Nat}
/-- Whatever order is picked from here on; S holds behind every operation that is carried out while number d has not come up. -/
def wpAnyD (P : Program) (md : Region.Mode) (ops : Array Oper) (Q : Exit → Act → World → Prop) (S : World → Prop) (d : Nat) : Nat → Array Bool → Act → World → Prop
  | 0, listed, a, w => Region.ready md ops listed = [] ∧ Q .normal a w
  | fuel + 1, listed, a, w =>
    (Region.ready md ops listed = [] → Q .normal a w) ∧
    ∀ i ∈ Region.ready md ops listed, wpOp P ops Q i (fun a' w' => ((listed.setIfInBounds i true).getD d true = false → S w') ∧ wpAnyD P md ops Q S d fuel (listed.setIfInBounds i true) a' w') a w
/-- does number d wait for number i, in this mode -/
def waits (md : Region.Mode) (ops : Array Oper) (d i : Nat) : Bool := ((ops[d]?).map (fun o => o.after.any fun e => Region.binds md e && (e.on == i))).getD false && !(i == d)
def AllReadyD (P : Program) (md : Region.Mode) (ops : Array Oper) (Q : Exit → Act → World → Prop) (S : World → Prop) (d fuel : Nat) (listed : Array Bool) (a : Act) (w : World) (rs : List Nat) : Prop :=
  ∀ i ∈ rs, wpOp P ops Q i (fun a' w' => ((listed.setIfInBounds i true).getD d true = false → S w') ∧ wpAnyD P md ops Q S d fuel (listed.setIfInBounds i true) a' w') a w
theorem AllReadyD.nil {fuel : Nat} {listed : Array Bool} {a : Act} {w : World} : AllReadyD P md ops Q S d fuel listed a w [] := fun _ h => by cases h
theorem AllReadyD.cons {fuel : Nat} {listed : Array Bool} {a : Act} {w : World} {i : Nat} {o : Oper} {rs : List Nat} (ho : ops[i]? = some o)
    (h : ∀ K' : Act → World → Prop, Shut (∀ a w, ((listed.setIfInBounds i true).getD d true = false → S w) → wpAnyD P md ops Q S d fuel (listed.setIfInBounds i true) a w → K' a w) → if Region.wanted o (yielded ops a.tmps) = true then Oper.wp P o a w K' Q else K' (a.put o.dst undef) w)
    (hs : AllReadyD P md ops Q S d fuel listed a w rs) : AllReadyD P md ops Q S d fuel listed a w (i :: rs) := fun j hj => by
  rcases List.mem_cons.1 hj with rfl | hj
  · exact wpOp_step ho (fun K' hK => h K' (fun a w hS hW => hK a w ⟨hS, hW⟩))
  · exact hs j hj
end
end Wd
end Go.Proofs.Ytgfdgdbkifkehaa

/- Of a raw program no more than some. -/
namespace Go.Proofs.Ytgfdgdbkifkehaa
open Go.RowKit
set_option linter.unusedVariables false
set_option maxRecDepth 20000
namespace Wd
theorem take_get {α : Type} {L : List α} {n k : Nat} {x : α} (h : (L.take n)[k]? = some x) : L[k]? = some x := by
  rw [List.getElem?_take] at h
  split at h
  · exact h
  · cases h
section
variable {w : World} {ad : Option Addr} {m cap : Nat}
theorem NmV.cut {L : List ByteArray} (h : NmV w (.slice ad m cap) L) (n : Nat) : NmV w (.slice ad (L.take n).length cap) (L.take n) := by
  obtain ⟨ad', cap', e, h1, h2, h3⟩ := h.ex
  cases e
  exact ⟨ad, cap, rfl, by rw [List.length_take]; omega, h2, fun k x hx => h3 k x (take_get hx)⟩
theorem ClV.cut {L : List ClassA} (h : ClV w (.slice ad m cap) L) (n : Nat) : ClV w (.slice ad (L.take n).length cap) (L.take n) := by
  obtain ⟨ad', cap', e, h1, h2, h3⟩ := h.ex
  cases e
  exact ⟨ad, cap, rfl, by rw [List.length_take]; omega, h2, fun k x hx => h3 k x (take_get hx)⟩
theorem MtV.cut {L : List MethA} (h : MtV w (.slice ad m cap) L) (n : Nat) : MtV w (.slice ad (L.take n).length cap) (L.take n) := by
  obtain ⟨ad', cap', e, h1, h2, h3⟩ := h.ex
  cases e
  exact ⟨ad, cap, rfl, by rw [List.length_take]; omega, h2, fun k x hx => h3 k x (take_get hx)⟩
theorem ObV.cut {L : List ObjA} (h : ObV w (.slice ad m cap) L) (n : Nat) : ObV w (.slice ad (L.take n).length cap) (L.take n) := by
  obtain ⟨ad', cap', e, h1, h2, h3⟩ := h.ex
  cases e
  exact ⟨ad, cap, rfl, by rw [List.length_take]; omega, h2, fun k x hx => h3 k x (take_get hx)⟩
end
end Wd
end Go.Proofs.Ytgfdgdbkifkehaa

/- Turning a program: the fields of an object that are all written. -/
namespace Go.Proofs.Ytgfdgdbkifkehaa
open Go.RowKit
set_option linter.unusedVariables false
set_option maxRecDepth 20000
namespace Wd
/-- the object k has the fields B, which lie in block g3; all else is as it came -/
structure OL (w0 wr : World) (b : Nat) (N : List ByteArray) (T : List (ClassA × Value)) (M : List (MethA × Value × Value)) (O : List (ObjA × Value)) (nv cv mv ov : Value) (main : Int) (k : Nat) (c : Int) (B : List (Int × Int)) (g3 n3 c3 : Nat) : Prop where
  bx : OB w0 wr nv cv mv ov main
  on : wr.ownsRow (w0.heap.size + 2) 9 1 nv N.length (strs N)
  oc : wr.ownsRow (w0.heap.size + 2) 37 4 cv T.length (cl4s T)
  om : wr.ownsRow (w0.heap.size + 2) 47 4 mv M.length (mt4s M)
  oo : wr.ownsRow (w0.heap.size + 2) 51 2 ov O.length (ob2s (O.set k (⟨c, B⟩, .slice (some ⟨g3, 0, none⟩) n3 c3)))
  o3 : wr.ownsRow (w0.heap.size + 2) 49 2 (.slice (some ⟨g3, 0, none⟩) n3 c3) n3 (pr2 B)
  bl : B.length = n3
  b64 : ∀ x ∈ B, In64 x.1 ∧ In64 x.2
  nb : n3 ≤ b
  c64 : In64 c
  ic : ∀ x ∈ T, In64 x.1.super ∧ In64 x.1.fields ∧ x.1.binds.length ≤ b ∧ StP w0.heap.size (fun _ => False) wr x.2 x.1.binds
  im : ∀ x ∈ M, In64 x.1.args ∧ In64 x.1.temps ∧ x.1.lits.length ≤ b ∧ x.1.code.length ≤ b ∧ StP w0.heap.size (fun _ => False) wr x.2.1 x.1.lits ∧ StB w0.heap.size (fun _ => False) wr x.2.2 x.1.code
  io : ∀ x ∈ O, In64 x.1.cls ∧ x.1.flds.length ≤ b ∧ StP w0.heap.size (fun _ => False) wr x.2 x.1.flds
  a3 : nv.ownBlock ≠ some g3 ∧ cv.ownBlock ≠ some g3 ∧ mv.ownBlock ≠ some g3 ∧ ov.ownBlock ≠ some g3
  hk : k < O.length
  ct : 1 ≤ T.length ∧ 1 ≤ M.length ∧ 1 ≤ O.length
  cn : N.length ≤ b ∧ T.length ≤ b ∧ M.length ≤ b ∧ O.length ≤ b
  ns : ∀ x ∈ N, x.size ≤ 140737488355328
  cs : ∀ x ∈ T, x.1.nm.size ≤ 140737488355328
section
variable {w0 wr w1 : World} {b b' : Nat} {N : List ByteArray} {T : List (ClassA × Value)} {M : List (MethA × Value × Value)} {O : List (ObjA × Value)} {nv cv mv ov : Value} {main : Int} {k : Nat} {c : Int} {B : List (Int × Int)} {g3 n3 c3 : Nat}
theorem ob2s_same : ∀ (O : List (ObjA × Value)) (k : Nat) (c : Int) (B B' : List (Int × Int)) (v : Value), ob2s (O.set k (⟨c, B⟩, v)) = ob2s (O.set k (⟨c, B'⟩, v))
  | [], k, c, B, B', v => rfl
  | x :: O, 0, c, B, B', v => rfl
  | x :: O, k + 1, c, B, B', v => by simp only [List.set_cons_succ, ob2s, ob2s_same O k c B B' v]
theorem OL.turn (h : OL w0 wr b N T M O nv cv mv ov main k c B g3 n3 c3) {B' : List (Int × Int)} (cg : Cg (fun q => q = g3) wr w1) (h3 : w1.ownsRow (w0.heap.size + 2) 49 2 (.slice (some ⟨g3, 0, none⟩) n3 c3) n3 (pr2 B')) (hl : B'.length = n3) (hb : ∀ x ∈ B', In64 x.1 ∧ In64 x.2) : OL w0 w1 b N T M O nv cv mv ov main k c B' g3 n3 c3 := by
  have hg := (h.o3.lt g3 rfl).1
  have hi : ∀ q, q = g3 → w0.heap.size ≤ q ∧ ¬ False := fun q hq => ⟨by omega, fun e => e⟩
  obtain ⟨a1, a2, a3, a4⟩ := h.a3
  exact ⟨h.bx.cg cg (fun q hq => by omega), row_cg h.on cg (fun q e hf => a1 (by rw [e, hf])), row_cg h.oc cg (fun q e hf => a2 (by rw [e, hf])), row_cg h.om cg (fun q e hf => a3 (by rw [e, hf])), by rw [ob2s_same O k c B' B]; exact row_cg h.oo cg (fun q e hf => a4 (by rw [e, hf])), h3, hl, hb, h.nb, h.c64, fun x hx => by obtain ⟨a, d, e, f⟩ := h.ic x hx; exact ⟨a, d, e, f.cg cg hi⟩, fun x hx => by obtain ⟨a, d, e, f, p, q⟩ := h.im x hx; exact ⟨a, d, e, f, p.cg cg hi, q.cg cg hi⟩, fun x hx => by obtain ⟨a, d, e⟩ := h.io x hx; exact ⟨a, d, e.cg cg hi⟩, h.a3, h.hk, h.ct, h.cn, h.ns, h.cs⟩
theorem OL.up (h : OL w0 wr b N T M O nv cv mv ov main k c B g3 n3 c3) (bl : Below wr.heap.size wr w1) : OL w0 w1 b N T M O nv cv mv ov main k c B g3 n3 c3 :=
  h.turn (Cg.below _ bl) (row_bel h.o3 bl) h.bl h.b64
theorem OL.fin (h : OL w0 wr b N T M O nv cv mv ov main k c B g3 n3 c3) (hb : b ≤ b') : OUf w0 wr b' := by
  have hF : ∀ {v : Value} {e : TypeId} {sz n : Nat} {xs : List Value}, wr.ownsRow (w0.heap.size + 2) e sz v n xs → ∀ k, v.ownBlock = some k → ¬ k = w0.heap.size + 1 := fun hr k hk e => by have := (hr.lt k hk).1; omega
  have hi : ∀ k, k = w0.heap.size + 1 → w0.heap.size ≤ k ∧ ¬ False := fun k hk => ⟨by omega, fun e => e⟩
  have hmem : ∀ x ∈ O.set k (⟨c, B⟩, .slice (some ⟨g3, 0, none⟩) n3 c3), x = (⟨c, B⟩, .slice (some ⟨g3, 0, none⟩) n3 c3) ∨ x ∈ O := fun x hx => (List.mem_or_eq_of_mem_set hx).symm
  refine ⟨nv, cv, mv, ov, ⟨N, T.map (·.1), M.map (·.1), (O.set k (⟨c, B⟩, .slice (some ⟨g3, 0, none⟩) n3 c3)).map (·.1), main⟩, h.bx, fun w2 cg => ?_, ?_⟩
  · exact ⟨NmV.own2 (row_cg h.on cg (hF h.on)), ClV.own (row_cg h.oc cg (hF h.oc)) (fun x hx => by obtain ⟨a, d, _, f⟩ := h.ic x hx; exact ⟨a, d, (f.cg cg hi).view⟩), MtV.own (row_cg h.om cg (hF h.om)) (fun x hx => by obtain ⟨a, d, _, _, f, g⟩ := h.im x hx; exact ⟨a, d, (f.cg cg hi).view, (g.cg cg hi).view⟩), ObV.own (by rw [List.length_set]; exact row_cg h.oo cg (hF h.oo)) (fun x hx => by
      rcases hmem x hx with rfl | hx
      · have h3 := row_cg h.o3 cg (hF h.o3)
        rw [← h.bl] at h3
        have hp := PrV.own h3 h.b64
        rw [h.bl] at hp
        exact ⟨h.c64, hp⟩
      · obtain ⟨a, _, f⟩ := h.io x hx; exact ⟨a, (f.cg cg hi).view⟩)⟩
  · obtain ⟨p, q, r⟩ := h.ct
    obtain ⟨n1, n2, n3', n4⟩ := h.cn
    exact ⟨Nat.le_trans n1 hb, by simpa using p, by simpa using Nat.le_trans n2 hb, by simpa using q, by simpa using Nat.le_trans n3' hb, by simpa using r, by simpa using Nat.le_trans n4 hb, fun x hx => by obtain ⟨y, hy, rfl⟩ := List.mem_map.1 hx; exact Nat.le_trans (h.ic y hy).2.2.1 hb, fun x hx => by obtain ⟨y, hy, rfl⟩ := List.mem_map.1 hx; exact ⟨Nat.le_trans (h.im y hy).2.2.1 hb, Nat.le_trans (h.im y hy).2.2.2.1 hb⟩, fun x hx => by
      obtain ⟨y, hy, rfl⟩ := List.mem_map.1 hx
      rcases hmem y hy with rfl | hy
      · simp only; rw [h.bl]; exact Nat.le_trans h.nb hb
      · exact Nat.le_trans (h.io y hy).2.1 hb, h.ns, fun x hx => by obtain ⟨y, hy, rfl⟩ := List.mem_map.1 hx; exact h.cs y hy⟩
theorem OL.start {w3 : World} {ox : ObjA} {fv : Value} {g n cp : Nat} (h : OU w0 wr (fun _ => False) b N T M O nv cv mv (.slice (some ⟨g, 0, none⟩) n cp) main) (hn : O.length = n) (hx : O[k]? = some (ox, fv)) (B3 : Below wr.heap.size wr w3) (hg3 : wr.heap.size ≤ g3) (h3 : w3.ownsRow (w0.heap.size + 2) 49 2 (.slice (some ⟨g3, 0, none⟩) n3 c3) n3 (pr2 ox.flds)) (hl : ox.flds.length = n3) (hb : ∀ x ∈ ox.flds, In64 x.1 ∧ In64 x.2) :
    w3.cell? ⟨g, k * 2 + 1, none⟩ = some fv ∧ w3.frozen? ⟨g, k * 2 + 1, none⟩ = false ∧ OL w0 (w3.setCell ⟨g, k * 2 + 1, none⟩ (.slice (some ⟨g3, 0, none⟩) n3 c3)) b N T M O nv cv mv (.slice (some ⟨g, 0, none⟩) n cp) main k ox.cls ox.flds g3 n3 c3 := by
  have hk := (List.getElem?_eq_some_iff.1 hx).1
  have h1 := h.up B3
  have ho := h1.oo
  rw [hn] at ho
  have hgl := (h.oo.lt g rfl)
  have hget := ob2s_get O k _ hx
  have hup := (ob2s_up O k _ hx 0 ox.flds (.slice (some ⟨g3, 0, none⟩) n3 c3)).2
  simp only at hget hup
  have hst := (ho.stored (k * 2 + 1) (.slice (some ⟨g3, 0, none⟩) n3 c3)).1
  rw [← hup] at hst
  obtain ⟨a1, a2, a3, a4⟩ := h1.ap
  have c : Cg (fun q => q = g) w3 (w3.setCell ⟨g, k * 2 + 1, none⟩ (.slice (some ⟨g3, 0, none⟩) n3 c3)) := (Cg.refl (fun q => q = g) w3).set ⟨g, k * 2 + 1, none⟩ rfl _
  have hi : ∀ q, q = g → w0.heap.size ≤ q ∧ ¬ False := fun q hq => ⟨by omega, fun e => e⟩
  obtain ⟨s0, nf, _⟩ := h1.io _ (List.mem_of_getElem? hx)
  simp only at s0 nf
  refine ⟨(ho.cellAt (k * 2 + 1) (by omega)).trans hget.2, ho.frozenAt (k * 2 + 1), ?_⟩
  exact ⟨h1.bx.cg c (fun q hq => by omega), row_set h1.on _ _ (fun e => (a1 g e).2.2.1 rfl), row_set h1.oc _ _ (fun e => (a2 g e).2.1 rfl), row_set h1.om _ _ (fun e => (a3 g e).1 rfl), by rw [hn]; exact hst, row_set h3 _ _ (fun e => by have : g3 = g := (by simpa [Value.ownBlock] using e); omega), hl, hb, by rw [← hl]; exact nf, s0, fun x hx => by obtain ⟨a, d, e, f⟩ := h1.ic x hx; exact ⟨a, d, e, f.cg c hi⟩, fun x hx => by obtain ⟨a, d, e, f, p, q⟩ := h1.im x hx; exact ⟨a, d, e, f, p.cg c hi, q.cg c hi⟩, fun x hx => by obtain ⟨a, d, e⟩ := h1.io x hx; exact ⟨a, d, e.cg c hi⟩,
    ⟨fun e => by have := (h.on.lt _ e).2; omega, fun e => by have := (h.oc.lt _ e).2; omega, fun e => by have := (h.om.lt _ e).2; omega, fun e => by have := (h.oo.lt _ e).2; omega⟩, hk, h1.ct, h1.cn, h1.ns, h1.cs⟩
theorem OL.cell {g n cp : Nat} (h : OL w0 wr b N T M O nv cv mv (.slice (some ⟨g, 0, none⟩) n cp) main k c B g3 n3 c3) (hn : O.length = n) : wr.cell? ⟨g, k * 2 + 1, none⟩ = some (.slice (some ⟨g3, 0, none⟩) n3 c3) := by
  have hk := h.hk
  have ho := h.oo
  rw [hn] at ho
  exact (ho.cellAt (k * 2 + 1) (by omega)).trans (ob2s_get _ k _ (List.getElem?_set_self hk)).2
theorem pr2_two : ∀ (B : List (Int × Int)) (i : Nat), i < B.length → ∀ (x y : Int), pr2 (B.set i (x, y)) = ((pr2 B).set (i * 2) (.int .i64 x)).set (i * 2 + 1) (.int .i64 y)
  | [], i, h, _, _ => by simp at h
  | s :: T, 0, _, x, y => by simp [pr2]
  | s :: T, i + 1, h, x, y => by
    have := pr2_two T i (by simpa using h) x y
    rw [List.set_cons_succ, show (i + 1) * 2 = i * 2 + 2 by omega, show i * 2 + 2 + 1 = i * 2 + 1 + 2 by omega]
    simp [pr2, this]
/-- the field i is written -/
theorem OL.put (h : OL w0 wr b N T M O nv cv mv ov main k c B g3 n3 c3) {i : Nat} (hi : i < n3) (x y : Int) (hx : In64 x) (hy : In64 y) : OL w0 ((wr.setCell ⟨g3, i * 2, none⟩ (.int .i64 x)).setCell ⟨g3, i * 2 + 1, none⟩ (.int .i64 y)) b N T M O nv cv mv ov main k c (B.set i (x, y)) g3 n3 c3 := by
  have h1 := (h.o3.stored (i * 2) (.int .i64 x)).1
  have h2 := (h1.stored (i * 2 + 1) (.int .i64 y)).1
  rw [← pr2_two B i (by have := h.bl; omega) x y] at h2
  exact h.turn (((Cg.refl (fun q => q = g3) wr).set ⟨g3, i * 2, none⟩ rfl _).set ⟨g3, i * 2 + 1, none⟩ rfl _) h2 (by rw [List.length_set]; exact h.bl) (fun z hz => by
    rcases List.mem_or_eq_of_mem_set hz with hz | rfl
    · exact h.b64 z hz
    · exact ⟨hx, hy⟩)
end
end Wd
end Go.Proofs.Ytgfdgdbkifkehaa

/- A program with one thing turned (the law's own). -/
namespace Go.Proofs.Ytgfdgdbkifkehaa
open Go.RowKit
set_option linter.unusedVariables false
set_option maxRecDepth 20000
namespace Wd
end Wd
end Go.Proofs.Ytgfdgdbkifkehaa

/- UnitTells: programs are judged as the document says. -/
namespace Go.Proofs.Ytgfdgdbkifkehaa
open Go.RowKit
set_option linter.unusedVariables false
set_option maxRecDepth 20000
namespace Wd
theorem Zb.sz {U : UnitA} {b : Nat} (h : Zb b U) (hb : b ≤ 100000) : Sz U :=
  ⟨by have := h.n; omega, by have := h.c; omega, by have := h.m; omega, by have := h.o; omega, fun c hc => by have := h.cb c hc; omega, fun c hc => by have := h.mb c hc; omega, fun c hc => by have := h.ob c hc; omega, h.ns, h.cs⟩
/-- a tape's program, the raw one that was cut, each in its box -/
structure TlS (w wr : World) (Q Q2 : Nat) (U X : UnitA) (na ka ma oa : Option Addr) (nc kc mc oc : Nat) (xn xk xm xo : Option Addr) (xnc xkc xmc xoc : Nat) : Prop where
  t : TpB w wr Q U na ka ma oa nc kc mc oc 6
  x : UnB wr Q2 (.agg #[.slice xn X.names.length xnc, .slice xk X.classes.length xkc, .slice xm X.methods.length xmc, .slice xo X.objects.length xoc, .int .i64 X.main]) X xn xk xm xo xnc xkc xmc xoc
theorem TlS.up {w w1 w2 : World} {Q Q2 : Nat} {U X : UnitA} {na ka ma oa : Option Addr} {nc kc mc oc : Nat} {xn xk xm xo : Option Addr} {xnc xkc xmc xoc : Nat} (h : TlS w w1 Q Q2 U X na ka ma oa nc kc mc oc xn xk xm xo xnc xkc xmc xoc) (b : Below w1.heap.size w1 w2) : TlS w w2 Q Q2 U X na ka ma oa nc kc mc oc xn xk xm xo xnc xkc xmc xoc := ⟨h.t.up b, h.x.up b⟩
theorem TpB.k6' {w wr : World} {Q : Nat} {U : UnitA} {na ka ma oa : Option Addr} {nc kc mc oc : Nat} (h : TpB w wr Q U na ka ma oa nc kc mc oc 6) : UnK wr (.agg #[.slice na 6 nc, .slice ka U.classes.length kc, .slice ma 9 mc, .slice oa U.objects.length oc, .int .i64 6]) U := by
  have := h.unk
  rwa [show ({ U with main := 6 } : UnitA) = U by have := h.ta.main; cases U; simp_all] at this
end Wd
end Go.Proofs.Ytgfdgdbkifkehaa

/- A tape of the law's own. -/
namespace Go.Proofs.Ytgfdgdbkifkehaa
open Go.RowKit
set_option linter.unusedVariables false
set_option maxRecDepth 20000
namespace Wd
/-- so many numbers are written -/
structure TN (w : World) (i : Nat) (v : Value) (wr : World) (L : List Int) : Prop where
  own : wr.ownsRow w.heap.size 3 1 v i (ints L)
  len : L.length = i
  bd : ∀ x ∈ L, -9223372036854775808 ≤ x ∧ x ≤ 9223372036854775807
  bel : Below w.heap.size w wr
theorem TN.next {w wr w4 : World} {i : Nat} {v v4 : Value} {L : List Int} {z : Int} {o : Obj} (h : TN w i v wr L) (ho : w4.ownsRow w.heap.size 3 1 v4 (i + 1) (ints L ++ ints [z])) (hg : (wr.alloc o).grownBy w4 v.ownBlock) (hz : -9223372036854775808 ≤ z ∧ z ≤ 9223372036854775807) : TN w (i + 1) v4 w4 (L ++ [z]) := by
  have hA : Below wr.heap.size wr (wr.alloc o) := (Below.refl _ _).alloc (Nat.le_refl _) _
  refine ⟨by simpa [ints] using ho, by simp [h.len], fun x hx => ?_, (h.bel.trans (hA.mono h.bel.size)).grown hg (Nat.le_trans h.bel.size hA.size) (fun k e => (h.own.lt k e).1)⟩
  rcases List.mem_append.1 hx with hx | hx
  · exact h.bd x hx
  · rw [List.mem_singleton.1 hx]; exact hz
end Wd
end Go.Proofs.Ytgfdgdbkifkehaa

/- UnitNumbers. -/
namespace Go.Proofs.Ytgfdgdbkifkehaa
open Go.RowKit
set_option linter.unusedVariables false
set_option maxRecDepth 20000
namespace Wd
def n12L : List Int := [-1, 0, 1, 2, 3, 4, 6, 9, 22, 62, 63, 1073741824]
/-- the numbers, where they lie -/
def N12 (w : World) (q : Nat) : Prop := ∀ i, i < 12 → w.cell? ⟨q, i, none⟩ = some (.int .i64 (n12L.getD i 0))
theorem N12.up {w w1 : World} {q : Nat} (h : N12 w q) (b : Below w.heap.size w w1) : N12 w1 q := fun i hi => cell_up b (h i hi)
theorem N12.born (w : World) : N12 (w.alloc (.cells #[.int .i64 (-1), .int .i64 0, .int .i64 1, .int .i64 2, .int .i64 3, .int .i64 4, .int .i64 6, .int .i64 9, .int .i64 22, .int .i64 62, .int .i64 63, .int .i64 1073741824] 3)) w.heap.size := by
  intro i hi
  rcases (show i = 0 ∨ i = 1 ∨ i = 2 ∨ i = 3 ∨ i = 4 ∨ i = 5 ∨ i = 6 ∨ i = 7 ∨ i = 8 ∨ i = 9 ∨ i = 10 ∨ i = 11 by omega) with rfl | rfl | rfl | rfl | rfl | rfl | rfl | rfl | rfl | rfl | rfl | rfl <;> (rw [World.cell?_alloc_new]; rfl)
/-- as far as the loops went -/
structure NmS (w wr : World) : Prop where
  bel : Below w.heap.size w wr
theorem NmS.up {w wr w1 : World} (h : NmS w wr) (b : Below wr.heap.size wr w1) : NmS w w1 := ⟨h.bel.trans (b.mono h.bel.size)⟩
end Wd
end Go.Proofs.Ytgfdgdbkifkehaa

/- UnitWords: an object more is its cell's words more. -/
namespace Go.Proofs.Ytgfdgdbkifkehaa
open Go.RowKit
set_option linter.unusedVariables false
set_option maxRecDepth 20000
namespace Wd
theorem step_app_any {P : Program} {w : World} {ops : Array Oper} {o : Oper} {a : Act} {K : Act → World → Prop} {Q : Exit → Act → World → Prop} {E : Prop} (hgd : o.guard = none) (s x : Operand) (t : TypeId)
    (ho : o.op = .call { callee := .builtin .append, args := #[s, x], argTypes := #[t, t] })
    (base : Nat) (e : TypeId) (i : TypeInfo) (z : Value) (size bytes : Nat) (ht : P.underlying t = some (.slice e)) (hi : P.info? e = some i) (hz : i.zero = some z)
    (hsize : i.size = size) (hby : i.bytes = bytes) (hzs : z.cells.size = size) (hsz : 0 < size)
    (v u : Value) (n m : Nat) (xs news : List Value) (hs : a.eval s = v) (hx : a.eval x = u) (hown : w.ownsRow base e size v n xs) (hu : Rd w u m news) (hl : news.length = m * size) (h1 : ∀ u ∈ news, u.oneCell' = true)
    (h63 : n + m ≤ maxLen) (hbytes : (n + m) * bytes ≤ 140737488355328) (hbase : base ≤ w.heap.size)
    (h : ∀ v' w', w'.ownsRow base e size v' (n + m) (xs ++ news) → w.grownBy w' v.ownBlock → (v'.ownBlock = v.ownBlock ∨ v'.ownBlock = some w.heap.size) → K (a.put o.dst v') w') :
    if Region.wanted o (yielded ops a.tmps) = true then Oper.wp P o a w K Q else E := by
  have hw : Region.wanted o (yielded ops a.tmps) = true := by simp [Region.wanted, hgd]
  rw [if_pos hw]
  obtain ⟨v', w', hr, h2, h3, h5⟩ := run_app_any (P := P) w base t o.type e i z size bytes ht hi hz hsize hby hzs hsz v u n m xs news hown hu hl h1 h63 hbytes hbase
  unfold Oper.wp execOp
  simp only [ho, resolve, invoke, builtin, Sem.run_bind, Sem.run_pure, Result.andThen_ok, List.map_toArray, List.map_cons, List.map_nil, hs, hx, hr]
  exact h v' w' h2 h3 h5
theorem cg_below {w w1 : World} {F : Nat → Prop} {Q : Nat} (c : Cg F w w1) (hF : ∀ k, F k → Q ≤ k) (hQ : Q ≤ w.heap.size) : Below Q w w1 :=
  ⟨c.os, c.tape, c.output, c.size, fun k hk => c.block k (by omega) (fun hf => by have := hF k hf; omega)⟩
theorem TpB.cg {w wr w1 : World} {Q : Nat} {U : UnitA} {na ka ma oa : Option Addr} {nc kc mc oc : Nat} {m : Int} (h : TpB w wr Q U na ka ma oa nc kc mc oc m) {F : Nat → Prop} (c : Cg F wr w1) (hF : ∀ k, F k → Q < k) : TpB w w1 Q U na ka ma oa nc kc mc oc m := by
  obtain ⟨wu, e, hU, hb⟩ := h.wu
  have hQ := World.block_lt_of_cell? _ _ h.c0
  simp only at hQ
  have hk := c.block Q hQ (fun hf => by have := hF Q hf; omega)
  have hB := cg_below c (fun k hf => by have := hF k hf; omega) (Nat.le_of_lt hQ)
  exact ⟨(World.cell?_of_block (a := ⟨Q, 0, none⟩) hk).trans h.c0, (World.cell?_of_block (a := ⟨Q, 1, none⟩) hk).trans h.c1, (World.cell?_of_block (a := ⟨Q, 2, none⟩) hk).trans h.c2, (World.cell?_of_block (a := ⟨Q, 3, none⟩) hk).trans h.c3, (World.cell?_of_block (a := ⟨Q, 4, none⟩) hk).trans h.c4, fun j => (World.frozen?_of_block (a := ⟨Q, j, none⟩) hk).trans (h.z j),
    ⟨wu, e, hU, hb.trans hB⟩, h.ta, h.bel.trans (hB.mono h.q), h.q⟩
theorem TpB.qlt {w wr : World} {Q : Nat} {U : UnitA} {na ka ma oa : Option Addr} {nc kc mc oc : Nat} {m : Int} (h : TpB w wr Q U na ka ma oa nc kc mc oc m) : Q < wr.heap.size := World.block_lt_of_cell? _ _ h.c0
theorem rd_own {w : World} {base size g n cap : Nat} {e : TypeId} {xs : List Value} (h : w.ownsRow base e size (.slice (some ⟨g, 0, none⟩) n cap) n xs) : Rd w (.slice (some ⟨g, 0, none⟩) n cap) n xs :=
  Or.inr ⟨_, _, rfl, fun j x hx => by
    have hj := (List.getElem?_eq_some_iff.1 hx).1
    have := h.1
    rw [Addr.add_lit, Nat.zero_add]
    exact (h.cellAt j (by omega)).trans hx⟩
theorem infoOb8 : (Try.prog.info? 51).map (fun i => (i.zero, i.size, i.bytes)) = some (some (.agg #[.int .i64 0, .slice none 0 0]), 2, 32) := by kernel_rfl
theorem infoVl8 : (Try.prog.info? 49).map (fun i => (i.zero, i.size, i.bytes)) = some (some (.agg #[.int .i64 0, .int .i64 0]), 2, 16) := by kernel_rfl
theorem pr2_zeros : ∀ n : Nat, pr2 (List.replicate n ((0 : Int), (0 : Int))) = List.replicate (n * 2) (.int .i64 0)
  | 0 => rfl
  | n + 1 => by
    rw [List.replicate_succ, pr2, pr2_zeros n, show (n + 1) * 2 = n * 2 + 1 + 1 by omega, List.replicate_succ, List.replicate_succ]
theorem made_zeros (n : Nat) : (madeCells #[Value.int .i64 0, Value.int .i64 0] (n * 2)).toList = pr2 (List.replicate n (0, 0)) := by
  rw [pr2_zeros]
  apply List.ext_getElem?
  intro j
  by_cases hj : j < n * 2
  · have h2 : j % 2 < 2 := Nat.mod_lt _ (by omega)
    rcases (show j % 2 = 0 ∨ j % 2 = 1 by omega) with e | e <;> simp [madeCells, hj, e]
  · simp [madeCells, hj]
theorem wd_fo : ∀ k : Nat, k < 63 → (k : Int) + 2 ≤ wd (fo (k : Int)) ∧ wd (fo (k : Int)) ≤ (if 2 * ((k : Int) + 2) < 4 then 4 else 2 * ((k : Int) + 2)) := by decide +kernel
theorem wordsB_bd : ∀ O : List ObjA, 0 ≤ wordsB O ∧ wordsB O ≤ 64 * (O.length : Int)
  | [] => ⟨by decide, by decide⟩
  | x :: O => by
    have h := wordsB_bd O
    have b := wd_bd (fo (x.flds.length : Int))
    have e : wordsB (x :: O) = wd (fo (x.flds.length : Int)) + wordsB O := by unfold wordsB; simp
    rw [e, List.length_cons]
    push_cast
    omega
theorem wordsB_snoc (O : List ObjA) (x : ObjA) : wordsB (O ++ [x]) = wordsB O + wd (fo (x.flds.length : Int)) := by
  unfold wordsB
  simp
theorem more_right {U : UnitA} (hT : TapeU U) {kk : Nat} (hk : kk ≤ 62) : unitR { U with objects := U.objects ++ [⟨1, List.replicate kk (0, 0)⟩] } = 0 := by
  have ho1 := hT.ob1
  have hc0 := hT.cl0
  have hM : TapeM U { U with objects := U.objects ++ [⟨1, List.replicate kk (0, 0)⟩] } := ⟨hT, rfl, rfl, rfl, by simp, by simp; omega, fun x hx => by
    simp only [List.length_append, List.length_singleton] at hx ⊢
    rcases List.mem_append.1 hx with hx | hx
    · exact objB_more (by omega) (obj_ok hT hx)
    · rw [List.mem_singleton.1 hx, objB_yes (head_ok (by simp only; omega) (fun g => by simp only at g; omega) (by simp only [List.length_replicate]; omega)), List.all_eq_true]
      intro v hv
      rw [List.eq_of_mem_replicate hv]
      rfl⟩
  exact hM.unit.trans (main_six hT rfl hT.main)
/-- the program with an object more -/
structure WdE (w wx : World) (Q : Nat) (U : UnitA) (na ka ma a2 : Option Addr) (nc kc mc d2 kk : Nat) : Prop where
  c0 : wx.cell? ⟨Q, 0, none⟩ = some (.slice na 6 nc)
  c1 : wx.cell? ⟨Q, 1, none⟩ = some (.slice ka U.classes.length kc)
  c2 : wx.cell? ⟨Q, 2, none⟩ = some (.slice ma 9 mc)
  c3 : wx.cell? ⟨Q, 3, none⟩ = some (.slice a2 (U.objects.length + 1) d2)
  c4 : wx.cell? ⟨Q, 4, none⟩ = some (.int .i64 6)
  un : UnK wx (.agg #[.slice na 6 nc, .slice ka U.classes.length kc, .slice ma 9 mc, .slice a2 (U.objects.length + 1) d2, .int .i64 6]) { U with objects := U.objects ++ [⟨1, List.replicate kk (0, 0)⟩] }
  bel : Below w.heap.size w wx
theorem WdE.up {w wx w1 : World} {Q : Nat} {U : UnitA} {na ka ma a2 : Option Addr} {nc kc mc d2 kk : Nat} (h : WdE w wx Q U na ka ma a2 nc kc mc d2 kk) (b : Below wx.heap.size wx w1) : WdE w w1 Q U na ka ma a2 nc kc mc d2 kk :=
  ⟨cell_up b h.c0, cell_up b h.c1, cell_up b h.c2, cell_up b h.c3, cell_up b h.c4, h.un.up b, h.bel.trans (b.mono h.bel.size)⟩
theorem WdE.born {w wu Y : World} {Q : Nat} {U : UnitA} {na ka ma oa a2 : Option Addr} {nc kc mc oc d2 kk bv : Nat} {M : List (ObjA × Value)} (hT : TpB w Y Q U na ka ma oa nc kc mc oc 6) (hbu : Below Q wu Y) (hwu : wu.heap.size = Q) (hM : M.map (·.1) = U.objects) (hMp : ∀ x ∈ M, In64 x.1.cls ∧ PrV wu x.2 x.1.flds) (hown : Y.ownsRow (Q + 1) 51 2 (.slice a2 (U.objects.length + 1) d2) (U.objects.length + 1) (ob2s M ++ ob2s [((⟨1, List.replicate kk (0, 0)⟩ : ObjA), Value.slice (some ⟨bv, 0, none⟩) kk kk)])) (hv : Y.ownsRow (Q + 1) 49 2 (.slice (some ⟨bv, 0, none⟩) kk kk) kk (pr2 (List.replicate kk (0, 0)))) :
    WdE w (Y.setCell ⟨Q, 3, none⟩ (.slice a2 (U.objects.length + 1) d2)) Q U na ka ma a2 nc kc mc d2 kk := by
  have far : ∀ i, i ≠ 3 → (⟨Q, 3, none⟩ : Addr) ≠ ⟨Q, i, none⟩ := fun i hi he => hi (by cases he; rfl)
  have hB : Below Q Y (Y.setCell ⟨Q, 3, none⟩ (.slice a2 (U.objects.length + 1) d2)) := (Below.refl Q Y).setCell (p := ⟨Q, 3, none⟩) (Nat.le_refl _) _
  obtain ⟨wu2, e2, hU2, hb2⟩ := hT.wu
  have hun : UnV (Y.setCell ⟨Q, 3, none⟩ (.slice a2 (U.objects.length + 1) d2)) (.slice na 6 nc) (.slice ka U.classes.length kc) (.slice ma 9 mc) (.slice oa U.objects.length oc) U := hU2.up (by rw [e2]; exact hb2.trans hB)
  have hCg : Cg (fun q => q = Q) Y (Y.setCell ⟨Q, 3, none⟩ (.slice a2 (U.objects.length + 1) d2)) := (Cg.refl (fun q => q = Q) Y).set ⟨Q, 3, none⟩ rfl _
  have hv' := row_cg hv hCg (fun q e hq => by have := (hv.lt q e).1; omega)
  have hown' := row_cg hown hCg (fun q e hq => by have := (hown.lt q e).1; omega)
  have hml : M.length = U.objects.length := by rw [← hM]; simp
  have hob : ObV (Y.setCell ⟨Q, 3, none⟩ (.slice a2 (U.objects.length + 1) d2)) (.slice a2 (U.objects.length + 1) d2) (U.objects ++ [⟨1, List.replicate kk (0, 0)⟩]) := by
    have h := ObV.own (T := M ++ [((⟨1, List.replicate kk (0, 0)⟩ : ObjA), Value.slice (some ⟨bv, 0, none⟩) kk kk)]) (by rw [ob2s_app, List.length_append, List.length_singleton, hml]; exact hown') (fun x hx => by
      rcases List.mem_append.1 hx with hx | hx
      · obtain ⟨i1, i2⟩ := hMp x hx
        exact ⟨i1, i2.up (by rw [hwu]; exact hbu.trans hB)⟩
      · rw [List.mem_singleton.1 hx]
        exact ⟨i64s (by simp) (by simp), PrV.own (T := List.replicate kk (0, 0)) (by rw [List.length_replicate]; exact hv') (fun y hy => by rw [List.eq_of_mem_replicate hy]; exact ⟨i64s (by simp) (by simp), i64s (by simp) (by simp)⟩)⟩)
    rw [List.map_append, hM] at h
    exact h
  refine ⟨(World.cell?_setCell_other _ _ _ _ (far 0 (by decide))).trans hT.c0, (World.cell?_setCell_other _ _ _ _ (far 1 (by decide))).trans hT.c1, (World.cell?_setCell_other _ _ _ _ (far 2 (by decide))).trans hT.c2, World.cell?_setCell_same _ _ _ hT.c3, (World.cell?_setCell_other _ _ _ _ (far 4 (by decide))).trans hT.c4, ?_, hT.bel.setCell hT.q _⟩
  have h9 := UnV.unk (U := { U with objects := U.objects ++ [⟨1, List.replicate kk (0, 0)⟩] }) ⟨hun.n, hun.c, hun.m, hob⟩
  exact (congrArg (fun m => UnK (Y.setCell ⟨Q, 3, none⟩ (.slice a2 (U.objects.length + 1) d2)) (.agg #[.slice na 6 nc, .slice ka U.classes.length kc, .slice ma 9 mc, .slice a2 (U.objects.length + 1) d2, .int .i64 m]) { U with objects := U.objects ++ [⟨1, List.replicate kk (0, 0)⟩] }) hT.ta.main).mp h9
set_option maxHeartbeats 64000000 in
theorem words_any (K : UnitK) {w : World} {ad : Option Addr} {n cap : Nat} (HA : NumA w ad n) (hn : n ≤ 4611686018427387904) (x : Int) (hx : In64 x) :
    Calls Try.prog 6 #[.slice ad n cap, .int .i64 x] w fun e w' => e = .returned (.bool true) ∧ Below w.heap.size w w' := by
  obtain ⟨i3, hi3, hi3z, hi3s, hi3b⟩ := info_parts infoOb8
  obtain ⟨i5, hi5, hi5z, hi5s, hi5b⟩ := info_parts infoVl8
  have hmx : 100000 ≤ maxLen := by decide
  have PU := Lib.hid (unit_c (tape_tp (cap := cap) HA hn))
  have PN := Lib.hid (fun w => uknown_c K w)
  have PW := Lib.hid (fun w => within_c x 0 62 hx.1 hx.2 (by omega) (by omega) (by omega) w)
  have hk := within_bd x 0 62 (by omega)
  generalize within x 0 62 = k0 at *
  obtain ⟨kk, rfl⟩ : ∃ k : Nat, k0 = k := ⟨k0.toNat, by omega⟩
  obtain ⟨Z, hmk, hZs, hZl⟩ : ∃ Z : Array Value, (∀ w, (Instr.makeSlice 44 (.int .i64 (kk : Int)) (.int .i64 (kk : Int))).run Try.prog w = .ok (.slice (some ⟨w.heap.size, 0, none⟩) kk kk) (w.alloc (.cells Z 49))) ∧ Z.size = kk * 2 ∧ Z.toList = pr2 (List.replicate kk (0, 0)) := by
    refine ⟨madeCells #[.int .i64 0, .int .i64 0] (kk * 2), fun w => ?_, size_madeCells _ _, made_zeros kk⟩
    have := run_make (P := Try.prog) w 44 49 i5 _ Try.underlying44 hi5 hi5z .i64 .i64 (kk : Int) (kk : Int) (by omega) (Int.le_refl _) (by rw [hi5b]; omega) (by omega)
    rw [hi5s] at this
    simpa [Value.cells] using this
  clear HA
  go_enter Try.func6, Try.ntmps6
  go_wp2_with fail
  with_reducible refine PU.out.mono ?_
  rintro e wu ⟨nv, cv, mv, ov, rfl, U, hU, hT, _, hcg, _⟩
  have hBu := unit_bel hcg
  obtain ⟨na, nc, ka, kc, ma, mc, oa, oc, rfl, rfl, rfl, rfl, hS⟩ := tpb_born hU hT hBu
  have hbu := (Below.refl wu.heap.size wu).alloc (Nat.le_refl _) (.cells #[.slice na 6 nc, .slice ka U.classes.length kc, .slice ma 9 mc, .slice oa U.objects.length oc, .int .i64 6] 28)
  obtain ⟨M, hM, hMp, hrd⟩ := hU.o.rd
  clear PU hcg hU hBu
  replace hS := Lib.hid hS
  go_upto_region 2 with fail
  generalize wu.alloc (.cells #[.slice na 6 nc, .slice ka U.classes.length kc, .slice ma 9 mc, .slice oa U.objects.length oc, .int .i64 6] 28) = W at *
  obtain ⟨Q, hQ⟩ : ∃ Q, Q = wu.heap.size := ⟨_, rfl⟩
  rw [← hQ] at hS hbu ⊢
  replace hQ := Lib.hid hQ.symm
  have c0 := hS.out.c0
  have c1 := hS.out.c1
  have c2 := hS.out.c2
  have c3 := hS.out.c3
  have c4 := hS.out.c4
  have ho0 := hT.ob0
  have ho1 := hT.ob1
  have PW1 := Lib.hid (K.words hS.out.k6' (by omega))
  go_wp2_with fail
  with_reducible refine PW1.out.mono ?_
  rintro e w1 ⟨rfl, hb⟩
  replace hS := Lib.hid (hS.out.up hb)
  replace hbu := Lib.hid (hbu.trans (hb.mono (by have := hbu.size; have := hQ.out; omega)))
  clear c0 c1 c2 c3 c4 PW1 hb
  have hs := wordsB_bd U.objects
  go_wp2_with fail
  with_reducible refine (PW.out _).mono ?_
  rintro e w2 ⟨rfl, hw⟩
  subst w2
  clear PW
  go_upto_region 4 with fail
  have hml : M.length = U.objects.length := by rw [← hM]; simp
  have hone : ∀ u ∈ ob2s M, u.oneCell' = true := ob2s_one _ (fun y hy => by obtain ⟨_, hp⟩ := hMp y hy; obtain ⟨a, c, e, _⟩ := hp.form; exact ⟨_, _, _, e⟩)
  have hlen : (ob2s M).length = U.objects.length * 2 := by rw [ob2s_len, hml]
  replace hM := Lib.hid hM
  replace hMp := Lib.hid hMp
  replace hrd := Lib.hid hrd
  replace hone := Lib.hid hone
  replace hlen := Lib.hid hlen
  replace hml := Lib.hid hml
  replace hZl := Lib.hid hZl
  replace hZs := Lib.hid hZs
  obtain ⟨l4, hl4⟩ : ∃ l, l = U.objects.length := ⟨_, rfl⟩
  go_cut [] (fun wx => ∃ a2 c2, Hid (WdE w wx Q U na ka ma a2 nc kc mc c2 kk))
  case first =>
    have hT' := Lib.hid (hS.out.up ((Below.refl _ _).drew))
    replace hbu := Lib.hid (hbu.out.drew)
    clear hS
    have hS := Lib.hid hT'.out
    clear hT'
    refine wp_region_last (d := 10) (fuel := 10) (S := (fun wr' => TpB w wr' Q U na ka ma oa nc kc mc oc 6)) (by kernel_rfl) (by kernel_rfl) rfl ?_ (fun hHeld => ?_)
    · (try dsimp only); exact hS.out
    try simp only [Act.put, List.setIfInBounds_toArray, List.set_cons_zero, List.set_cons_succ]
    generalize w1.drew = y0 at *
    refine wpAnyH_take (i := 1) (oi := { dst := some 18, op := Op.fieldAddr 28 (Operand.tmp 5) 3, type := 0, pos := "law.go:166", after := #[], guard := none }) (v := ?_) rfl (by kernel_rfl) (by kernel_rfl) (by kernel_rfl) (fun _ _ _ h => h) (Or.inl ⟨by rfl, ?_⟩) (by assumption) ?_
    rotate_left 1
    · intro w hSw; (try dsimp only at hSw); go_simp <;> with_reducible rfl
    try simp only [Act.put, List.setIfInBounds_toArray, List.set_cons_zero, List.set_cons_succ]
    refine wpAnyH_take (i := 2) (oi := { dst := some 19, op := Op.load 26 (Operand.tmp 18), type := 26, pos := "law.go:166", after := #[{ on := 1, ground := Ground.data }], guard := none }) (v := .slice oa U.objects.length oc) rfl (by kernel_rfl) (by kernel_rfl) (by kernel_rfl) (fun _ _ _ h => h) (Or.inl ⟨by rfl, ?_⟩) (by assumption) ?_
    · intro w hSw; have hc := hSw.c3; go_simp <;> with_reducible rfl
    try simp only [Act.put, List.setIfInBounds_toArray, List.set_cons_zero, List.set_cons_succ]
    refine wpAnyH_take (i := 4) (oi := { dst := some 21, op := Op.move (Operand.tmp 7), type := 3, pos := "law.go:166", after := #[], guard := none }) (v := ?_) rfl (by kernel_rfl) (by kernel_rfl) (by kernel_rfl) (fun _ _ _ h => h) (Or.inl ⟨by rfl, ?_⟩) (by assumption) ?_
    rotate_left 1
    · intro w hSw; (try dsimp only at hSw); go_simp <;> with_reducible rfl
    try simp only [Act.put, List.setIfInBounds_toArray, List.set_cons_zero, List.set_cons_succ]
    refine wpAnyH_ready (rs := [0, 5]) (by kernel_rfl) (by simp) ?_
    refine AllReadyH.cons (o := { dst := some 17, op := Op.buildSlice 26 0 #[], type := 26, pos := "law.go:166", after := #[], guard := none }) rfl (fun K9 hK => ?_) ?_
    · go_simp
      have hqz := hS.out.qlt
      have hqy : Q ≤ y0.heap.size := Nat.le_of_lt hqz
      have hr0 := Lib.hid (made_none y0 51 2 (Q + 1) hqz)
      have hba := (Below.refl y0.heap.size y0).alloc (Nat.le_refl _) (.cells #[] 51)
      replace hS := Lib.hid (hS.out.up hba)
      replace hbu := Lib.hid (hbu.out.trans (hba.mono hqy))
      clear hba hqy hqz
      generalize hgy : y0.alloc (.cells #[] 51) = y1 at *
      clear hgy
      generalize y0.heap.size = b0 at *
      refine hK.out _ _ ?_ ?_
      · (try dsimp only); exact hS.out
      clear hK K9 hHeld; intro hHeld
      try simp only [Act.put, List.setIfInBounds_toArray, List.set_cons_zero, List.set_cons_succ]
      refine wpAnyH_ready (rs := [3, 5]) (by kernel_rfl) (by simp) ?_
      refine AllReadyH.cons (o := { dst := some 20, op := Op.call { callee := Callee.builtin Builtin.append, args := #[Operand.tmp 17, Operand.tmp 19], argTypes := #[26, 26] }, type := 26, pos := "law.go:166", after := #[{ on := 0, ground := Ground.data }, { on := 2, ground := Ground.data }], guard := none }) rfl (fun K9 hK => ?_) ?_
      · have hqz := hS.out.qlt
        have hqy : Q ≤ y1.heap.size := Nat.le_of_lt hqz
        refine step_app_any rfl (.tmp 17) (.tmp 19) 26 rfl (Q + 1) 51 i3 (.agg #[.int .i64 0, .slice none 0 0]) 2 32 Try.underlying26 hi3 hi3z hi3s hi3b rfl (by decide) (.slice (some ⟨b0, 0, none⟩) 0 0) (.slice oa U.objects.length oc) 0 U.objects.length [] (ob2s M) (by simp [Act.eval]) (by simp [Act.eval]) hr0.out (hrd.out.up (by rw [hQ.out]; exact hbu.out)) hlen.out hone.out (by omega) (by omega) hqz ?_
        intro v1 y2 hown1 hg1 hat1
        rw [Nat.zero_add, List.nil_append] at hown1
        obtain ⟨a1, c1, rfl⟩ := row_shape hown1
        have hcg : Cg (fun q => q = b0) y1 y2 := (Cg.refl (fun q => q = b0) y1).grown hg1 (fun q e => Or.inl (Option.some.inj e).symm)
        have hb0 := (hr0.out.lt b0 rfl).1
        replace hS := Lib.hid (hS.out.cg hcg (fun q e => by subst e; omega))
        replace hbu := Lib.hid (hbu.out.trans (cg_below hcg (fun q e => by subst e; omega) hqy))
        have hr1 := Lib.hid hown1
        clear hown1 hg1 hat1 hcg hb0 hr0 hqy hqz
        refine hK.out _ _ ?_ ?_
        · (try dsimp only); exact hS.out
        clear hK K9 hHeld; intro hHeld
        try simp only [Act.put, List.setIfInBounds_toArray, List.set_cons_zero, List.set_cons_succ]
        refine wpAnyH_ready (rs := [5]) (by kernel_rfl) (by simp) ?_
        refine AllReadyH.cons (o := { dst := some 22, op := Op.makeSlice 44 (Operand.tmp 21) (Operand.tmp 21), type := 44, pos := "law.go:166", after := #[{ on := 4, ground := Ground.data }, { on := 4, ground := Ground.data }], guard := none }) rfl (fun K9 hK => ?_) ?_
        · go_simp
          have hqz := hS.out.qlt
          have hqy : Q ≤ y2.heap.size := Nat.le_of_lt hqz
          have hv : Hid ((y2.alloc (.cells Z 49)).ownsRow (Q + 1) 49 2 (.slice (some ⟨y2.heap.size, 0, none⟩) kk kk) kk (pr2 (List.replicate kk (0, 0)))) := Lib.hid (by rw [← hZl.out]; exact World.ownsRow_lit y2 Z kk hqz (by omega) hZs.out)
          have ne1v : Hid ((Value.slice a1 U.objects.length c1).ownBlock ≠ some y2.heap.size) := Lib.hid (fun e => by have := (hr1.out.lt _ e).2; omega)
          have hba := (Below.refl y2.heap.size y2).alloc (Nat.le_refl _) (.cells Z 49)
          replace hS := Lib.hid (hS.out.up hba)
          replace hbu := Lib.hid (hbu.out.trans (hba.mono hqy))
          replace hr1 := Lib.hid (row_bel hr1.out hba)
          clear hba hqy hqz
          generalize hgy : y2.alloc (.cells Z 49) = y3 at *
          clear hgy
          generalize y2.heap.size = bv at *
          refine hK.out _ _ ?_ ?_
          · (try dsimp only); exact hS.out
          clear hK K9 hHeld; intro hHeld
          try simp only [Act.put, List.setIfInBounds_toArray, List.set_cons_zero, List.set_cons_succ]
          refine wpAnyH_take (i := 6) (oi := { dst := some 23, op := Op.build 51 #[(0, Operand.const (Value.int IntKind.i64 1)), (1, Operand.tmp 22)], type := 51, pos := "law.go:166", after := #[{ on := 5, ground := Ground.data }], guard := none }) (v := ?_) rfl (by kernel_rfl) (by kernel_rfl) (by kernel_rfl) (fun _ _ _ h => h) (Or.inl ⟨by rfl, ?_⟩) (by assumption) ?_
          rotate_left 1
          · intro w hSw; (try dsimp only at hSw); go_simp <;> with_reducible rfl
          try simp only [Act.put, List.setIfInBounds_toArray, List.set_cons_zero, List.set_cons_succ]
          refine wpAnyH_ready (rs := [7]) (by kernel_rfl) (by simp) ?_
          refine AllReadyH.cons (o := { dst := some 24, op := Op.buildSlice 26 1 #[(0, Operand.tmp 23)], type := 26, pos := "law.go:166", after := #[{ on := 6, ground := Ground.data }], guard := none }) rfl (fun K9 hK => ?_) ?_
          · go_simp
            have hqz := hS.out.qlt
            have hqy : Q ≤ y3.heap.size := Nat.le_of_lt hqz
            have ho : Hid ((y3.alloc (.cells #[.int .i64 1, .slice (some ⟨bv, 0, none⟩) kk kk] 51)).ownsRow (Q + 1) 51 2 (.slice (some ⟨y3.heap.size, 0, none⟩) 1 1) 1 (ob2s [((⟨1, List.replicate kk (0, 0)⟩ : ObjA), Value.slice (some ⟨bv, 0, none⟩) kk kk)])) := Lib.hid (World.ownsRow_lit y3 #[.int .i64 1, .slice (some ⟨bv, 0, none⟩) kk kk] 1 hqz (by omega) rfl)
            have ne1o : Hid ((Value.slice a1 U.objects.length c1).ownBlock ≠ some y3.heap.size) := Lib.hid (fun e => by have := (hr1.out.lt _ e).2; omega)
            have hba := (Below.refl y3.heap.size y3).alloc (Nat.le_refl _) (.cells #[.int .i64 1, .slice (some ⟨bv, 0, none⟩) kk kk] 51)
            replace hS := Lib.hid (hS.out.up hba)
            replace hbu := Lib.hid (hbu.out.trans (hba.mono hqy))
            replace hr1 := Lib.hid (row_bel hr1.out hba)
            replace hv := Lib.hid (row_bel hv.out hba)
            clear hba hqy hqz
            generalize hgy : y3.alloc (.cells #[.int .i64 1, .slice (some ⟨bv, 0, none⟩) kk kk] 51) = y4 at *
            clear hgy
            generalize y3.heap.size = bo at *
            refine hK.out _ _ ?_ ?_
            · (try dsimp only); exact hS.out
            clear hK K9 hHeld; intro hHeld
            try simp only [Act.put, List.setIfInBounds_toArray, List.set_cons_zero, List.set_cons_succ]
            refine wpAnyH_ready (rs := [8]) (by kernel_rfl) (by simp) ?_
            refine AllReadyH.cons (o := { dst := some 25, op := Op.call { callee := Callee.builtin Builtin.append, args := #[Operand.tmp 20, Operand.tmp 24], argTypes := #[26, 26] }, type := 26, pos := "law.go:166", after := #[{ on := 3, ground := Ground.data }, { on := 7, ground := Ground.data }, { on := 3, ground := Ground.chain }], guard := none }) rfl (fun K9 hK => ?_) ?_
            · have hqz := hS.out.qlt
              have hqy : Q ≤ y4.heap.size := Nat.le_of_lt hqz
              refine step_app_any rfl (.tmp 20) (.tmp 24) 26 rfl (Q + 1) 51 i3 (.agg #[.int .i64 0, .slice none 0 0]) 2 32 Try.underlying26 hi3 hi3z hi3s hi3b rfl (by decide) (.slice a1 U.objects.length c1) (.slice (some ⟨bo, 0, none⟩) 1 1) U.objects.length 1 (ob2s M) (ob2s [((⟨1, List.replicate kk (0, 0)⟩ : ObjA), Value.slice (some ⟨bv, 0, none⟩) kk kk)]) (by simp [Act.eval]) (by simp [Act.eval]) hr1.out (rd_own ho.out) rfl (ob2s_one _ (fun y hy => by rw [List.mem_singleton.1 hy]; exact ⟨_, _, _, rfl⟩)) (by omega) (by omega) hqz ?_
              intro v2 y5 hown2 hg2 hat2
              obtain ⟨a2, c2, rfl⟩ := row_shape hown2
              have hcg : Cg (fun q => (Value.slice a1 U.objects.length c1).ownBlock = some q) y4 y5 := (Cg.refl _ y4).grown hg2 (fun q e => Or.inl e)
              have hq1 : ∀ q, (Value.slice a1 U.objects.length c1).ownBlock = some q → Q < q := fun q e => by have := (hr1.out.lt q e).1; omega
              replace hv := Lib.hid (row_cg hv.out hcg (fun q e hq => ne1v.out (by rw [hq]; exact e.symm)))
              replace hS := Lib.hid (hS.out.cg hcg hq1)
              replace hbu := Lib.hid (hbu.out.trans (cg_below hcg (fun q e => Nat.le_of_lt (hq1 q e)) hqy))
              have hE := Lib.hid (WdE.born hS.out hbu.out hQ.out hM.out hMp.out hown2 hv.out)
              have x3 := hS.out.c3
              have z3 := hS.out.z 3
              clear hown2 hg2 hat2 hcg hq1 hqy hqz hr1 ho hv
              refine hK.out _ _ ?_ ?_
              · (try dsimp only); exact hS.out
              clear hK K9 hHeld; intro hHeld
              try simp only [Act.put, List.setIfInBounds_toArray, List.set_cons_zero, List.set_cons_succ]
              refine wpAnyH_take (i := 9) (oi := { dst := some 26, op := Op.fieldAddr 28 (Operand.tmp 5) 3, type := 0, pos := "law.go:166", after := #[{ on := 0, ground := Ground.phase }, { on := 1, ground := Ground.phase }, { on := 2, ground := Ground.phase }, { on := 3, ground := Ground.phase }, { on := 4, ground := Ground.phase }, { on := 5, ground := Ground.phase }, { on := 6, ground := Ground.phase }, { on := 7, ground := Ground.phase }, { on := 8, ground := Ground.phase }], guard := none }) (v := ?_) rfl (by kernel_rfl) (by kernel_rfl) (by kernel_rfl) (fun _ _ _ h => h) (Or.inl ⟨by rfl, ?_⟩) (by assumption) ?_
              rotate_left 1
              · intro w hSw; (try dsimp only at hSw); go_simp <;> with_reducible rfl
              try simp only [Act.put, List.setIfInBounds_toArray, List.set_cons_zero, List.set_cons_succ]
              refine last_step (o := { dst := none, op := Op.store 26 (Operand.tmp 26) (Operand.tmp 25), type := 0, pos := "law.go:166", after := #[{ on := 9, ground := Ground.data }, { on := 8, ground := Ground.data }, { on := 8, ground := Ground.chain }, { on := 0, ground := Ground.phase }, { on := 1, ground := Ground.phase }, { on := 2, ground := Ground.phase }, { on := 3, ground := Ground.phase }, { on := 4, ground := Ground.phase }, { on := 5, ground := Ground.phase }, { on := 6, ground := Ground.phase }, { on := 7, ground := Ground.phase }, { on := 8, ground := Ground.phase }], guard := none }) rfl (by kernel_rfl) (fun K hK => ?_)
              go_simp
              refine hK.out _ _ ?_
              clear hK K
              try simp only [Act.put, List.setIfInBounds_toArray, List.set_cons_zero, List.set_cons_succ]
              go_wp2
              go_meet
              exact ⟨a2, c2, hE⟩
            exact AllReadyH.nil
          exact AllReadyH.nil
        exact AllReadyH.nil
      refine AllReadyH.cons (o := { dst := some 22, op := Op.makeSlice 44 (Operand.tmp 21) (Operand.tmp 21), type := 44, pos := "law.go:166", after := #[{ on := 4, ground := Ground.data }, { on := 4, ground := Ground.data }], guard := none }) rfl (fun K9 hK => ?_) ?_
      · go_simp
        have hqz := hS.out.qlt
        have hqy : Q ≤ y1.heap.size := Nat.le_of_lt hqz
        have hv : Hid ((y1.alloc (.cells Z 49)).ownsRow (Q + 1) 49 2 (.slice (some ⟨y1.heap.size, 0, none⟩) kk kk) kk (pr2 (List.replicate kk (0, 0)))) := Lib.hid (by rw [← hZl.out]; exact World.ownsRow_lit y1 Z kk hqz (by omega) hZs.out)
        have ne0v : Hid (b0 ≠ y1.heap.size) := Lib.hid (fun e => by have := (hr0.out.lt b0 rfl).2; omega)
        have hba := (Below.refl y1.heap.size y1).alloc (Nat.le_refl _) (.cells Z 49)
        replace hS := Lib.hid (hS.out.up hba)
        replace hbu := Lib.hid (hbu.out.trans (hba.mono hqy))
        replace hr0 := Lib.hid (row_bel hr0.out hba)
        clear hba hqy hqz
        generalize hgy : y1.alloc (.cells Z 49) = y2 at *
        clear hgy
        generalize y1.heap.size = bv at *
        refine hK.out _ _ ?_ ?_
        · (try dsimp only); exact hS.out
        clear hK K9 hHeld; intro hHeld
        try simp only [Act.put, List.setIfInBounds_toArray, List.set_cons_zero, List.set_cons_succ]
        refine wpAnyH_take (i := 6) (oi := { dst := some 23, op := Op.build 51 #[(0, Operand.const (Value.int IntKind.i64 1)), (1, Operand.tmp 22)], type := 51, pos := "law.go:166", after := #[{ on := 5, ground := Ground.data }], guard := none }) (v := ?_) rfl (by kernel_rfl) (by kernel_rfl) (by kernel_rfl) (fun _ _ _ h => h) (Or.inl ⟨by rfl, ?_⟩) (by assumption) ?_
        rotate_left 1
        · intro w hSw; (try dsimp only at hSw); go_simp <;> with_reducible rfl
        try simp only [Act.put, List.setIfInBounds_toArray, List.set_cons_zero, List.set_cons_succ]
        refine wpAnyH_ready (rs := [3, 7]) (by kernel_rfl) (by simp) ?_
        refine AllReadyH.cons (o := { dst := some 20, op := Op.call { callee := Callee.builtin Builtin.append, args := #[Operand.tmp 17, Operand.tmp 19], argTypes := #[26, 26] }, type := 26, pos := "law.go:166", after := #[{ on := 0, ground := Ground.data }, { on := 2, ground := Ground.data }], guard := none }) rfl (fun K9 hK => ?_) ?_
        · have hqz := hS.out.qlt
          have hqy : Q ≤ y2.heap.size := Nat.le_of_lt hqz
          refine step_app_any rfl (.tmp 17) (.tmp 19) 26 rfl (Q + 1) 51 i3 (.agg #[.int .i64 0, .slice none 0 0]) 2 32 Try.underlying26 hi3 hi3z hi3s hi3b rfl (by decide) (.slice (some ⟨b0, 0, none⟩) 0 0) (.slice oa U.objects.length oc) 0 U.objects.length [] (ob2s M) (by simp [Act.eval]) (by simp [Act.eval]) hr0.out (hrd.out.up (by rw [hQ.out]; exact hbu.out)) hlen.out hone.out (by omega) (by omega) hqz ?_
          intro v1 y3 hown1 hg1 hat1
          rw [Nat.zero_add, List.nil_append] at hown1
          obtain ⟨a1, c1, rfl⟩ := row_shape hown1
          have hcg : Cg (fun q => q = b0) y2 y3 := (Cg.refl (fun q => q = b0) y2).grown hg1 (fun q e => Or.inl (Option.some.inj e).symm)
          have hb0 := (hr0.out.lt b0 rfl).1
          have ne1v : Hid ((Value.slice a1 U.objects.length c1).ownBlock ≠ some bv) := Lib.hid (fun e => by rcases hat1 with h | h; exact ne0v.out (Option.some.inj (h.symm.trans e)); have h3 := Option.some.inj (h.symm.trans e); have := (hv.out.lt bv rfl).2; omega)
          replace hv := Lib.hid (row_cg hv.out hcg (fun q e hq => ne0v.out (hq.symm.trans (Option.some.inj e).symm)))
          replace hS := Lib.hid (hS.out.cg hcg (fun q e => by subst e; omega))
          replace hbu := Lib.hid (hbu.out.trans (cg_below hcg (fun q e => by subst e; omega) hqy))
          have hr1 := Lib.hid hown1
          clear hown1 hg1 hat1 hcg hb0 hr0 hqy hqz
          refine hK.out _ _ ?_ ?_
          · (try dsimp only); exact hS.out
          clear hK K9 hHeld; intro hHeld
          try simp only [Act.put, List.setIfInBounds_toArray, List.set_cons_zero, List.set_cons_succ]
          refine wpAnyH_ready (rs := [7]) (by kernel_rfl) (by simp) ?_
          refine AllReadyH.cons (o := { dst := some 24, op := Op.buildSlice 26 1 #[(0, Operand.tmp 23)], type := 26, pos := "law.go:166", after := #[{ on := 6, ground := Ground.data }], guard := none }) rfl (fun K9 hK => ?_) ?_
          · go_simp
            have hqz := hS.out.qlt
            have hqy : Q ≤ y3.heap.size := Nat.le_of_lt hqz
            have ho : Hid ((y3.alloc (.cells #[.int .i64 1, .slice (some ⟨bv, 0, none⟩) kk kk] 51)).ownsRow (Q + 1) 51 2 (.slice (some ⟨y3.heap.size, 0, none⟩) 1 1) 1 (ob2s [((⟨1, List.replicate kk (0, 0)⟩ : ObjA), Value.slice (some ⟨bv, 0, none⟩) kk kk)])) := Lib.hid (World.ownsRow_lit y3 #[.int .i64 1, .slice (some ⟨bv, 0, none⟩) kk kk] 1 hqz (by omega) rfl)
            have ne1o : Hid ((Value.slice a1 U.objects.length c1).ownBlock ≠ some y3.heap.size) := Lib.hid (fun e => by have := (hr1.out.lt _ e).2; omega)
            have hba := (Below.refl y3.heap.size y3).alloc (Nat.le_refl _) (.cells #[.int .i64 1, .slice (some ⟨bv, 0, none⟩) kk kk] 51)
            replace hS := Lib.hid (hS.out.up hba)
            replace hbu := Lib.hid (hbu.out.trans (hba.mono hqy))
            replace hr1 := Lib.hid (row_bel hr1.out hba)
            replace hv := Lib.hid (row_bel hv.out hba)
            clear hba hqy hqz
            generalize hgy : y3.alloc (.cells #[.int .i64 1, .slice (some ⟨bv, 0, none⟩) kk kk] 51) = y4 at *
            clear hgy
            generalize y3.heap.size = bo at *
            refine hK.out _ _ ?_ ?_
            · (try dsimp only); exact hS.out
            clear hK K9 hHeld; intro hHeld
            try simp only [Act.put, List.setIfInBounds_toArray, List.set_cons_zero, List.set_cons_succ]
            refine wpAnyH_ready (rs := [8]) (by kernel_rfl) (by simp) ?_
            refine AllReadyH.cons (o := { dst := some 25, op := Op.call { callee := Callee.builtin Builtin.append, args := #[Operand.tmp 20, Operand.tmp 24], argTypes := #[26, 26] }, type := 26, pos := "law.go:166", after := #[{ on := 3, ground := Ground.data }, { on := 7, ground := Ground.data }, { on := 3, ground := Ground.chain }], guard := none }) rfl (fun K9 hK => ?_) ?_
            · have hqz := hS.out.qlt
              have hqy : Q ≤ y4.heap.size := Nat.le_of_lt hqz
              refine step_app_any rfl (.tmp 20) (.tmp 24) 26 rfl (Q + 1) 51 i3 (.agg #[.int .i64 0, .slice none 0 0]) 2 32 Try.underlying26 hi3 hi3z hi3s hi3b rfl (by decide) (.slice a1 U.objects.length c1) (.slice (some ⟨bo, 0, none⟩) 1 1) U.objects.length 1 (ob2s M) (ob2s [((⟨1, List.replicate kk (0, 0)⟩ : ObjA), Value.slice (some ⟨bv, 0, none⟩) kk kk)]) (by simp [Act.eval]) (by simp [Act.eval]) hr1.out (rd_own ho.out) rfl (ob2s_one _ (fun y hy => by rw [List.mem_singleton.1 hy]; exact ⟨_, _, _, rfl⟩)) (by omega) (by omega) hqz ?_
              intro v2 y5 hown2 hg2 hat2
              obtain ⟨a2, c2, rfl⟩ := row_shape hown2
              have hcg : Cg (fun q => (Value.slice a1 U.objects.length c1).ownBlock = some q) y4 y5 := (Cg.refl _ y4).grown hg2 (fun q e => Or.inl e)
              have hq1 : ∀ q, (Value.slice a1 U.objects.length c1).ownBlock = some q → Q < q := fun q e => by have := (hr1.out.lt q e).1; omega
              replace hv := Lib.hid (row_cg hv.out hcg (fun q e hq => ne1v.out (by rw [hq]; exact e.symm)))
              replace hS := Lib.hid (hS.out.cg hcg hq1)
              replace hbu := Lib.hid (hbu.out.trans (cg_below hcg (fun q e => Nat.le_of_lt (hq1 q e)) hqy))
              have hE := Lib.hid (WdE.born hS.out hbu.out hQ.out hM.out hMp.out hown2 hv.out)
              have x3 := hS.out.c3
              have z3 := hS.out.z 3
              clear hown2 hg2 hat2 hcg hq1 hqy hqz hr1 ho hv
              refine hK.out _ _ ?_ ?_
              · (try dsimp only); exact hS.out
              clear hK K9 hHeld; intro hHeld
              try simp only [Act.put, List.setIfInBounds_toArray, List.set_cons_zero, List.set_cons_succ]
              refine wpAnyH_take (i := 9) (oi := { dst := some 26, op := Op.fieldAddr 28 (Operand.tmp 5) 3, type := 0, pos := "law.go:166", after := #[{ on := 0, ground := Ground.phase }, { on := 1, ground := Ground.phase }, { on := 2, ground := Ground.phase }, { on := 3, ground := Ground.phase }, { on := 4, ground := Ground.phase }, { on := 5, ground := Ground.phase }, { on := 6, ground := Ground.phase }, { on := 7, ground := Ground.phase }, { on := 8, ground := Ground.phase }], guard := none }) (v := ?_) rfl (by kernel_rfl) (by kernel_rfl) (by kernel_rfl) (fun _ _ _ h => h) (Or.inl ⟨by rfl, ?_⟩) (by assumption) ?_
              rotate_left 1
              · intro w hSw; (try dsimp only at hSw); go_simp <;> with_reducible rfl
              try simp only [Act.put, List.setIfInBounds_toArray, List.set_cons_zero, List.set_cons_succ]
              refine last_step (o := { dst := none, op := Op.store 26 (Operand.tmp 26) (Operand.tmp 25), type := 0, pos := "law.go:166", after := #[{ on := 9, ground := Ground.data }, { on := 8, ground := Ground.data }, { on := 8, ground := Ground.chain }, { on := 0, ground := Ground.phase }, { on := 1, ground := Ground.phase }, { on := 2, ground := Ground.phase }, { on := 3, ground := Ground.phase }, { on := 4, ground := Ground.phase }, { on := 5, ground := Ground.phase }, { on := 6, ground := Ground.phase }, { on := 7, ground := Ground.phase }, { on := 8, ground := Ground.phase }], guard := none }) rfl (by kernel_rfl) (fun K hK => ?_)
              go_simp
              refine hK.out _ _ ?_
              clear hK K
              try simp only [Act.put, List.setIfInBounds_toArray, List.set_cons_zero, List.set_cons_succ]
              go_wp2
              go_meet
              exact ⟨a2, c2, hE⟩
            exact AllReadyH.nil
          exact AllReadyH.nil
        refine AllReadyH.cons (o := { dst := some 24, op := Op.buildSlice 26 1 #[(0, Operand.tmp 23)], type := 26, pos := "law.go:166", after := #[{ on := 6, ground := Ground.data }], guard := none }) rfl (fun K9 hK => ?_) ?_
        · go_simp
          have hqz := hS.out.qlt
          have hqy : Q ≤ y2.heap.size := Nat.le_of_lt hqz
          have ho : Hid ((y2.alloc (.cells #[.int .i64 1, .slice (some ⟨bv, 0, none⟩) kk kk] 51)).ownsRow (Q + 1) 51 2 (.slice (some ⟨y2.heap.size, 0, none⟩) 1 1) 1 (ob2s [((⟨1, List.replicate kk (0, 0)⟩ : ObjA), Value.slice (some ⟨bv, 0, none⟩) kk kk)])) := Lib.hid (World.ownsRow_lit y2 #[.int .i64 1, .slice (some ⟨bv, 0, none⟩) kk kk] 1 hqz (by omega) rfl)
          have ne0o : Hid (b0 ≠ y2.heap.size) := Lib.hid (fun e => by have := (hr0.out.lt b0 rfl).2; omega)
          have hba := (Below.refl y2.heap.size y2).alloc (Nat.le_refl _) (.cells #[.int .i64 1, .slice (some ⟨bv, 0, none⟩) kk kk] 51)
          replace hS := Lib.hid (hS.out.up hba)
          replace hbu := Lib.hid (hbu.out.trans (hba.mono hqy))
          replace hr0 := Lib.hid (row_bel hr0.out hba)
          replace hv := Lib.hid (row_bel hv.out hba)
          clear hba hqy hqz
          generalize hgy : y2.alloc (.cells #[.int .i64 1, .slice (some ⟨bv, 0, none⟩) kk kk] 51) = y3 at *
          clear hgy
          generalize y2.heap.size = bo at *
          refine hK.out _ _ ?_ ?_
          · (try dsimp only); exact hS.out
          clear hK K9 hHeld; intro hHeld
          try simp only [Act.put, List.setIfInBounds_toArray, List.set_cons_zero, List.set_cons_succ]
          refine wpAnyH_ready (rs := [3]) (by kernel_rfl) (by simp) ?_
          refine AllReadyH.cons (o := { dst := some 20, op := Op.call { callee := Callee.builtin Builtin.append, args := #[Operand.tmp 17, Operand.tmp 19], argTypes := #[26, 26] }, type := 26, pos := "law.go:166", after := #[{ on := 0, ground := Ground.data }, { on := 2, ground := Ground.data }], guard := none }) rfl (fun K9 hK => ?_) ?_
          · have hqz := hS.out.qlt
            have hqy : Q ≤ y3.heap.size := Nat.le_of_lt hqz
            refine step_app_any rfl (.tmp 17) (.tmp 19) 26 rfl (Q + 1) 51 i3 (.agg #[.int .i64 0, .slice none 0 0]) 2 32 Try.underlying26 hi3 hi3z hi3s hi3b rfl (by decide) (.slice (some ⟨b0, 0, none⟩) 0 0) (.slice oa U.objects.length oc) 0 U.objects.length [] (ob2s M) (by simp [Act.eval]) (by simp [Act.eval]) hr0.out (hrd.out.up (by rw [hQ.out]; exact hbu.out)) hlen.out hone.out (by omega) (by omega) hqz ?_
            intro v1 y4 hown1 hg1 hat1
            rw [Nat.zero_add, List.nil_append] at hown1
            obtain ⟨a1, c1, rfl⟩ := row_shape hown1
            have hcg : Cg (fun q => q = b0) y3 y4 := (Cg.refl (fun q => q = b0) y3).grown hg1 (fun q e => Or.inl (Option.some.inj e).symm)
            have hb0 := (hr0.out.lt b0 rfl).1
            have ne1v : Hid ((Value.slice a1 U.objects.length c1).ownBlock ≠ some bv) := Lib.hid (fun e => by rcases hat1 with h | h; exact ne0v.out (Option.some.inj (h.symm.trans e)); have h3 := Option.some.inj (h.symm.trans e); have := (hv.out.lt bv rfl).2; omega)
            replace hv := Lib.hid (row_cg hv.out hcg (fun q e hq => ne0v.out (hq.symm.trans (Option.some.inj e).symm)))
            have ne1o : Hid ((Value.slice a1 U.objects.length c1).ownBlock ≠ some bo) := Lib.hid (fun e => by rcases hat1 with h | h; exact ne0o.out (Option.some.inj (h.symm.trans e)); have h3 := Option.some.inj (h.symm.trans e); have := (ho.out.lt bo rfl).2; omega)
            replace ho := Lib.hid (row_cg ho.out hcg (fun q e hq => ne0o.out (hq.symm.trans (Option.some.inj e).symm)))
            replace hS := Lib.hid (hS.out.cg hcg (fun q e => by subst e; omega))
            replace hbu := Lib.hid (hbu.out.trans (cg_below hcg (fun q e => by subst e; omega) hqy))
            have hr1 := Lib.hid hown1
            clear hown1 hg1 hat1 hcg hb0 hr0 hqy hqz
            refine hK.out _ _ ?_ ?_
            · (try dsimp only); exact hS.out
            clear hK K9 hHeld; intro hHeld
            try simp only [Act.put, List.setIfInBounds_toArray, List.set_cons_zero, List.set_cons_succ]
            refine wpAnyH_ready (rs := [8]) (by kernel_rfl) (by simp) ?_
            refine AllReadyH.cons (o := { dst := some 25, op := Op.call { callee := Callee.builtin Builtin.append, args := #[Operand.tmp 20, Operand.tmp 24], argTypes := #[26, 26] }, type := 26, pos := "law.go:166", after := #[{ on := 3, ground := Ground.data }, { on := 7, ground := Ground.data }, { on := 3, ground := Ground.chain }], guard := none }) rfl (fun K9 hK => ?_) ?_
            · have hqz := hS.out.qlt
              have hqy : Q ≤ y4.heap.size := Nat.le_of_lt hqz
              refine step_app_any rfl (.tmp 20) (.tmp 24) 26 rfl (Q + 1) 51 i3 (.agg #[.int .i64 0, .slice none 0 0]) 2 32 Try.underlying26 hi3 hi3z hi3s hi3b rfl (by decide) (.slice a1 U.objects.length c1) (.slice (some ⟨bo, 0, none⟩) 1 1) U.objects.length 1 (ob2s M) (ob2s [((⟨1, List.replicate kk (0, 0)⟩ : ObjA), Value.slice (some ⟨bv, 0, none⟩) kk kk)]) (by simp [Act.eval]) (by simp [Act.eval]) hr1.out (rd_own ho.out) rfl (ob2s_one _ (fun y hy => by rw [List.mem_singleton.1 hy]; exact ⟨_, _, _, rfl⟩)) (by omega) (by omega) hqz ?_
              intro v2 y5 hown2 hg2 hat2
              obtain ⟨a2, c2, rfl⟩ := row_shape hown2
              have hcg : Cg (fun q => (Value.slice a1 U.objects.length c1).ownBlock = some q) y4 y5 := (Cg.refl _ y4).grown hg2 (fun q e => Or.inl e)
              have hq1 : ∀ q, (Value.slice a1 U.objects.length c1).ownBlock = some q → Q < q := fun q e => by have := (hr1.out.lt q e).1; omega
              replace hv := Lib.hid (row_cg hv.out hcg (fun q e hq => ne1v.out (by rw [hq]; exact e.symm)))
              replace hS := Lib.hid (hS.out.cg hcg hq1)
              replace hbu := Lib.hid (hbu.out.trans (cg_below hcg (fun q e => Nat.le_of_lt (hq1 q e)) hqy))
              have hE := Lib.hid (WdE.born hS.out hbu.out hQ.out hM.out hMp.out hown2 hv.out)
              have x3 := hS.out.c3
              have z3 := hS.out.z 3
              clear hown2 hg2 hat2 hcg hq1 hqy hqz hr1 ho hv
              refine hK.out _ _ ?_ ?_
              · (try dsimp only); exact hS.out
              clear hK K9 hHeld; intro hHeld
              try simp only [Act.put, List.setIfInBounds_toArray, List.set_cons_zero, List.set_cons_succ]
              refine wpAnyH_take (i := 9) (oi := { dst := some 26, op := Op.fieldAddr 28 (Operand.tmp 5) 3, type := 0, pos := "law.go:166", after := #[{ on := 0, ground := Ground.phase }, { on := 1, ground := Ground.phase }, { on := 2, ground := Ground.phase }, { on := 3, ground := Ground.phase }, { on := 4, ground := Ground.phase }, { on := 5, ground := Ground.phase }, { on := 6, ground := Ground.phase }, { on := 7, ground := Ground.phase }, { on := 8, ground := Ground.phase }], guard := none }) (v := ?_) rfl (by kernel_rfl) (by kernel_rfl) (by kernel_rfl) (fun _ _ _ h => h) (Or.inl ⟨by rfl, ?_⟩) (by assumption) ?_
              rotate_left 1
              · intro w hSw; (try dsimp only at hSw); go_simp <;> with_reducible rfl
              try simp only [Act.put, List.setIfInBounds_toArray, List.set_cons_zero, List.set_cons_succ]
              refine last_step (o := { dst := none, op := Op.store 26 (Operand.tmp 26) (Operand.tmp 25), type := 0, pos := "law.go:166", after := #[{ on := 9, ground := Ground.data }, { on := 8, ground := Ground.data }, { on := 8, ground := Ground.chain }, { on := 0, ground := Ground.phase }, { on := 1, ground := Ground.phase }, { on := 2, ground := Ground.phase }, { on := 3, ground := Ground.phase }, { on := 4, ground := Ground.phase }, { on := 5, ground := Ground.phase }, { on := 6, ground := Ground.phase }, { on := 7, ground := Ground.phase }, { on := 8, ground := Ground.phase }], guard := none }) rfl (by kernel_rfl) (fun K hK => ?_)
              go_simp
              refine hK.out _ _ ?_
              clear hK K
              try simp only [Act.put, List.setIfInBounds_toArray, List.set_cons_zero, List.set_cons_succ]
              go_wp2
              go_meet
              exact ⟨a2, c2, hE⟩
            exact AllReadyH.nil
          exact AllReadyH.nil
        exact AllReadyH.nil
      exact AllReadyH.nil
    refine AllReadyH.cons (o := { dst := some 22, op := Op.makeSlice 44 (Operand.tmp 21) (Operand.tmp 21), type := 44, pos := "law.go:166", after := #[{ on := 4, ground := Ground.data }, { on := 4, ground := Ground.data }], guard := none }) rfl (fun K9 hK => ?_) ?_
    · go_simp
      have hqz := hS.out.qlt
      have hqy : Q ≤ y0.heap.size := Nat.le_of_lt hqz
      have hv : Hid ((y0.alloc (.cells Z 49)).ownsRow (Q + 1) 49 2 (.slice (some ⟨y0.heap.size, 0, none⟩) kk kk) kk (pr2 (List.replicate kk (0, 0)))) := Lib.hid (by rw [← hZl.out]; exact World.ownsRow_lit y0 Z kk hqz (by omega) hZs.out)
      have hba := (Below.refl y0.heap.size y0).alloc (Nat.le_refl _) (.cells Z 49)
      replace hS := Lib.hid (hS.out.up hba)
      replace hbu := Lib.hid (hbu.out.trans (hba.mono hqy))
      clear hba hqy hqz
      generalize hgy : y0.alloc (.cells Z 49) = y1 at *
      clear hgy
      generalize y0.heap.size = bv at *
      refine hK.out _ _ ?_ ?_
      · (try dsimp only); exact hS.out
      clear hK K9 hHeld; intro hHeld
      try simp only [Act.put, List.setIfInBounds_toArray, List.set_cons_zero, List.set_cons_succ]
      refine wpAnyH_take (i := 6) (oi := { dst := some 23, op := Op.build 51 #[(0, Operand.const (Value.int IntKind.i64 1)), (1, Operand.tmp 22)], type := 51, pos := "law.go:166", after := #[{ on := 5, ground := Ground.data }], guard := none }) (v := ?_) rfl (by kernel_rfl) (by kernel_rfl) (by kernel_rfl) (fun _ _ _ h => h) (Or.inl ⟨by rfl, ?_⟩) (by assumption) ?_
      rotate_left 1
      · intro w hSw; (try dsimp only at hSw); go_simp <;> with_reducible rfl
      try simp only [Act.put, List.setIfInBounds_toArray, List.set_cons_zero, List.set_cons_succ]
      refine wpAnyH_ready (rs := [0, 7]) (by kernel_rfl) (by simp) ?_
      refine AllReadyH.cons (o := { dst := some 17, op := Op.buildSlice 26 0 #[], type := 26, pos := "law.go:166", after := #[], guard := none }) rfl (fun K9 hK => ?_) ?_
      · go_simp
        have hqz := hS.out.qlt
        have hqy : Q ≤ y1.heap.size := Nat.le_of_lt hqz
        have hr0 := Lib.hid (made_none y1 51 2 (Q + 1) hqz)
        have ne0v : Hid (y1.heap.size ≠ bv) := Lib.hid (fun e => by have := (hv.out.lt bv rfl).2; omega)
        have hba := (Below.refl y1.heap.size y1).alloc (Nat.le_refl _) (.cells #[] 51)
        replace hS := Lib.hid (hS.out.up hba)
        replace hbu := Lib.hid (hbu.out.trans (hba.mono hqy))
        replace hv := Lib.hid (row_bel hv.out hba)
        clear hba hqy hqz
        generalize hgy : y1.alloc (.cells #[] 51) = y2 at *
        clear hgy
        generalize y1.heap.size = b0 at *
        refine hK.out _ _ ?_ ?_
        · (try dsimp only); exact hS.out
        clear hK K9 hHeld; intro hHeld
        try simp only [Act.put, List.setIfInBounds_toArray, List.set_cons_zero, List.set_cons_succ]
        refine wpAnyH_ready (rs := [3, 7]) (by kernel_rfl) (by simp) ?_
        refine AllReadyH.cons (o := { dst := some 20, op := Op.call { callee := Callee.builtin Builtin.append, args := #[Operand.tmp 17, Operand.tmp 19], argTypes := #[26, 26] }, type := 26, pos := "law.go:166", after := #[{ on := 0, ground := Ground.data }, { on := 2, ground := Ground.data }], guard := none }) rfl (fun K9 hK => ?_) ?_
        · have hqz := hS.out.qlt
          have hqy : Q ≤ y2.heap.size := Nat.le_of_lt hqz
          refine step_app_any rfl (.tmp 17) (.tmp 19) 26 rfl (Q + 1) 51 i3 (.agg #[.int .i64 0, .slice none 0 0]) 2 32 Try.underlying26 hi3 hi3z hi3s hi3b rfl (by decide) (.slice (some ⟨b0, 0, none⟩) 0 0) (.slice oa U.objects.length oc) 0 U.objects.length [] (ob2s M) (by simp [Act.eval]) (by simp [Act.eval]) hr0.out (hrd.out.up (by rw [hQ.out]; exact hbu.out)) hlen.out hone.out (by omega) (by omega) hqz ?_
          intro v1 y3 hown1 hg1 hat1
          rw [Nat.zero_add, List.nil_append] at hown1
          obtain ⟨a1, c1, rfl⟩ := row_shape hown1
          have hcg : Cg (fun q => q = b0) y2 y3 := (Cg.refl (fun q => q = b0) y2).grown hg1 (fun q e => Or.inl (Option.some.inj e).symm)
          have hb0 := (hr0.out.lt b0 rfl).1
          have ne1v : Hid ((Value.slice a1 U.objects.length c1).ownBlock ≠ some bv) := Lib.hid (fun e => by rcases hat1 with h | h; exact ne0v.out (Option.some.inj (h.symm.trans e)); have h3 := Option.some.inj (h.symm.trans e); have := (hv.out.lt bv rfl).2; omega)
          replace hv := Lib.hid (row_cg hv.out hcg (fun q e hq => ne0v.out (hq.symm.trans (Option.some.inj e).symm)))
          replace hS := Lib.hid (hS.out.cg hcg (fun q e => by subst e; omega))
          replace hbu := Lib.hid (hbu.out.trans (cg_below hcg (fun q e => by subst e; omega) hqy))
          have hr1 := Lib.hid hown1
          clear hown1 hg1 hat1 hcg hb0 hr0 hqy hqz
          refine hK.out _ _ ?_ ?_
          · (try dsimp only); exact hS.out
          clear hK K9 hHeld; intro hHeld
          try simp only [Act.put, List.setIfInBounds_toArray, List.set_cons_zero, List.set_cons_succ]
          refine wpAnyH_ready (rs := [7]) (by kernel_rfl) (by simp) ?_
          refine AllReadyH.cons (o := { dst := some 24, op := Op.buildSlice 26 1 #[(0, Operand.tmp 23)], type := 26, pos := "law.go:166", after := #[{ on := 6, ground := Ground.data }], guard := none }) rfl (fun K9 hK => ?_) ?_
          · go_simp
            have hqz := hS.out.qlt
            have hqy : Q ≤ y3.heap.size := Nat.le_of_lt hqz
            have ho : Hid ((y3.alloc (.cells #[.int .i64 1, .slice (some ⟨bv, 0, none⟩) kk kk] 51)).ownsRow (Q + 1) 51 2 (.slice (some ⟨y3.heap.size, 0, none⟩) 1 1) 1 (ob2s [((⟨1, List.replicate kk (0, 0)⟩ : ObjA), Value.slice (some ⟨bv, 0, none⟩) kk kk)])) := Lib.hid (World.ownsRow_lit y3 #[.int .i64 1, .slice (some ⟨bv, 0, none⟩) kk kk] 1 hqz (by omega) rfl)
            have ne1o : Hid ((Value.slice a1 U.objects.length c1).ownBlock ≠ some y3.heap.size) := Lib.hid (fun e => by have := (hr1.out.lt _ e).2; omega)
            have hba := (Below.refl y3.heap.size y3).alloc (Nat.le_refl _) (.cells #[.int .i64 1, .slice (some ⟨bv, 0, none⟩) kk kk] 51)
            replace hS := Lib.hid (hS.out.up hba)
            replace hbu := Lib.hid (hbu.out.trans (hba.mono hqy))
            replace hr1 := Lib.hid (row_bel hr1.out hba)
            replace hv := Lib.hid (row_bel hv.out hba)
            clear hba hqy hqz
            generalize hgy : y3.alloc (.cells #[.int .i64 1, .slice (some ⟨bv, 0, none⟩) kk kk] 51) = y4 at *
            clear hgy
            generalize y3.heap.size = bo at *
            refine hK.out _ _ ?_ ?_
            · (try dsimp only); exact hS.out
            clear hK K9 hHeld; intro hHeld
            try simp only [Act.put, List.setIfInBounds_toArray, List.set_cons_zero, List.set_cons_succ]
            refine wpAnyH_ready (rs := [8]) (by kernel_rfl) (by simp) ?_
            refine AllReadyH.cons (o := { dst := some 25, op := Op.call { callee := Callee.builtin Builtin.append, args := #[Operand.tmp 20, Operand.tmp 24], argTypes := #[26, 26] }, type := 26, pos := "law.go:166", after := #[{ on := 3, ground := Ground.data }, { on := 7, ground := Ground.data }, { on := 3, ground := Ground.chain }], guard := none }) rfl (fun K9 hK => ?_) ?_
            · have hqz := hS.out.qlt
              have hqy : Q ≤ y4.heap.size := Nat.le_of_lt hqz
              refine step_app_any rfl (.tmp 20) (.tmp 24) 26 rfl (Q + 1) 51 i3 (.agg #[.int .i64 0, .slice none 0 0]) 2 32 Try.underlying26 hi3 hi3z hi3s hi3b rfl (by decide) (.slice a1 U.objects.length c1) (.slice (some ⟨bo, 0, none⟩) 1 1) U.objects.length 1 (ob2s M) (ob2s [((⟨1, List.replicate kk (0, 0)⟩ : ObjA), Value.slice (some ⟨bv, 0, none⟩) kk kk)]) (by simp [Act.eval]) (by simp [Act.eval]) hr1.out (rd_own ho.out) rfl (ob2s_one _ (fun y hy => by rw [List.mem_singleton.1 hy]; exact ⟨_, _, _, rfl⟩)) (by omega) (by omega) hqz ?_
              intro v2 y5 hown2 hg2 hat2
              obtain ⟨a2, c2, rfl⟩ := row_shape hown2
              have hcg : Cg (fun q => (Value.slice a1 U.objects.length c1).ownBlock = some q) y4 y5 := (Cg.refl _ y4).grown hg2 (fun q e => Or.inl e)
              have hq1 : ∀ q, (Value.slice a1 U.objects.length c1).ownBlock = some q → Q < q := fun q e => by have := (hr1.out.lt q e).1; omega
              replace hv := Lib.hid (row_cg hv.out hcg (fun q e hq => ne1v.out (by rw [hq]; exact e.symm)))
              replace hS := Lib.hid (hS.out.cg hcg hq1)
              replace hbu := Lib.hid (hbu.out.trans (cg_below hcg (fun q e => Nat.le_of_lt (hq1 q e)) hqy))
              have hE := Lib.hid (WdE.born hS.out hbu.out hQ.out hM.out hMp.out hown2 hv.out)
              have x3 := hS.out.c3
              have z3 := hS.out.z 3
              clear hown2 hg2 hat2 hcg hq1 hqy hqz hr1 ho hv
              refine hK.out _ _ ?_ ?_
              · (try dsimp only); exact hS.out
              clear hK K9 hHeld; intro hHeld
              try simp only [Act.put, List.setIfInBounds_toArray, List.set_cons_zero, List.set_cons_succ]
              refine wpAnyH_take (i := 9) (oi := { dst := some 26, op := Op.fieldAddr 28 (Operand.tmp 5) 3, type := 0, pos := "law.go:166", after := #[{ on := 0, ground := Ground.phase }, { on := 1, ground := Ground.phase }, { on := 2, ground := Ground.phase }, { on := 3, ground := Ground.phase }, { on := 4, ground := Ground.phase }, { on := 5, ground := Ground.phase }, { on := 6, ground := Ground.phase }, { on := 7, ground := Ground.phase }, { on := 8, ground := Ground.phase }], guard := none }) (v := ?_) rfl (by kernel_rfl) (by kernel_rfl) (by kernel_rfl) (fun _ _ _ h => h) (Or.inl ⟨by rfl, ?_⟩) (by assumption) ?_
              rotate_left 1
              · intro w hSw; (try dsimp only at hSw); go_simp <;> with_reducible rfl
              try simp only [Act.put, List.setIfInBounds_toArray, List.set_cons_zero, List.set_cons_succ]
              refine last_step (o := { dst := none, op := Op.store 26 (Operand.tmp 26) (Operand.tmp 25), type := 0, pos := "law.go:166", after := #[{ on := 9, ground := Ground.data }, { on := 8, ground := Ground.data }, { on := 8, ground := Ground.chain }, { on := 0, ground := Ground.phase }, { on := 1, ground := Ground.phase }, { on := 2, ground := Ground.phase }, { on := 3, ground := Ground.phase }, { on := 4, ground := Ground.phase }, { on := 5, ground := Ground.phase }, { on := 6, ground := Ground.phase }, { on := 7, ground := Ground.phase }, { on := 8, ground := Ground.phase }], guard := none }) rfl (by kernel_rfl) (fun K hK => ?_)
              go_simp
              refine hK.out _ _ ?_
              clear hK K
              try simp only [Act.put, List.setIfInBounds_toArray, List.set_cons_zero, List.set_cons_succ]
              go_wp2
              go_meet
              exact ⟨a2, c2, hE⟩
            exact AllReadyH.nil
          exact AllReadyH.nil
        refine AllReadyH.cons (o := { dst := some 24, op := Op.buildSlice 26 1 #[(0, Operand.tmp 23)], type := 26, pos := "law.go:166", after := #[{ on := 6, ground := Ground.data }], guard := none }) rfl (fun K9 hK => ?_) ?_
        · go_simp
          have hqz := hS.out.qlt
          have hqy : Q ≤ y2.heap.size := Nat.le_of_lt hqz
          have ho : Hid ((y2.alloc (.cells #[.int .i64 1, .slice (some ⟨bv, 0, none⟩) kk kk] 51)).ownsRow (Q + 1) 51 2 (.slice (some ⟨y2.heap.size, 0, none⟩) 1 1) 1 (ob2s [((⟨1, List.replicate kk (0, 0)⟩ : ObjA), Value.slice (some ⟨bv, 0, none⟩) kk kk)])) := Lib.hid (World.ownsRow_lit y2 #[.int .i64 1, .slice (some ⟨bv, 0, none⟩) kk kk] 1 hqz (by omega) rfl)
          have ne0o : Hid (b0 ≠ y2.heap.size) := Lib.hid (fun e => by have := (hr0.out.lt b0 rfl).2; omega)
          have hba := (Below.refl y2.heap.size y2).alloc (Nat.le_refl _) (.cells #[.int .i64 1, .slice (some ⟨bv, 0, none⟩) kk kk] 51)
          replace hS := Lib.hid (hS.out.up hba)
          replace hbu := Lib.hid (hbu.out.trans (hba.mono hqy))
          replace hr0 := Lib.hid (row_bel hr0.out hba)
          replace hv := Lib.hid (row_bel hv.out hba)
          clear hba hqy hqz
          generalize hgy : y2.alloc (.cells #[.int .i64 1, .slice (some ⟨bv, 0, none⟩) kk kk] 51) = y3 at *
          clear hgy
          generalize y2.heap.size = bo at *
          refine hK.out _ _ ?_ ?_
          · (try dsimp only); exact hS.out
          clear hK K9 hHeld; intro hHeld
          try simp only [Act.put, List.setIfInBounds_toArray, List.set_cons_zero, List.set_cons_succ]
          refine wpAnyH_ready (rs := [3]) (by kernel_rfl) (by simp) ?_
          refine AllReadyH.cons (o := { dst := some 20, op := Op.call { callee := Callee.builtin Builtin.append, args := #[Operand.tmp 17, Operand.tmp 19], argTypes := #[26, 26] }, type := 26, pos := "law.go:166", after := #[{ on := 0, ground := Ground.data }, { on := 2, ground := Ground.data }], guard := none }) rfl (fun K9 hK => ?_) ?_
          · have hqz := hS.out.qlt
            have hqy : Q ≤ y3.heap.size := Nat.le_of_lt hqz
            refine step_app_any rfl (.tmp 17) (.tmp 19) 26 rfl (Q + 1) 51 i3 (.agg #[.int .i64 0, .slice none 0 0]) 2 32 Try.underlying26 hi3 hi3z hi3s hi3b rfl (by decide) (.slice (some ⟨b0, 0, none⟩) 0 0) (.slice oa U.objects.length oc) 0 U.objects.length [] (ob2s M) (by simp [Act.eval]) (by simp [Act.eval]) hr0.out (hrd.out.up (by rw [hQ.out]; exact hbu.out)) hlen.out hone.out (by omega) (by omega) hqz ?_
            intro v1 y4 hown1 hg1 hat1
            rw [Nat.zero_add, List.nil_append] at hown1
            obtain ⟨a1, c1, rfl⟩ := row_shape hown1
            have hcg : Cg (fun q => q = b0) y3 y4 := (Cg.refl (fun q => q = b0) y3).grown hg1 (fun q e => Or.inl (Option.some.inj e).symm)
            have hb0 := (hr0.out.lt b0 rfl).1
            have ne1v : Hid ((Value.slice a1 U.objects.length c1).ownBlock ≠ some bv) := Lib.hid (fun e => by rcases hat1 with h | h; exact ne0v.out (Option.some.inj (h.symm.trans e)); have h3 := Option.some.inj (h.symm.trans e); have := (hv.out.lt bv rfl).2; omega)
            replace hv := Lib.hid (row_cg hv.out hcg (fun q e hq => ne0v.out (hq.symm.trans (Option.some.inj e).symm)))
            have ne1o : Hid ((Value.slice a1 U.objects.length c1).ownBlock ≠ some bo) := Lib.hid (fun e => by rcases hat1 with h | h; exact ne0o.out (Option.some.inj (h.symm.trans e)); have h3 := Option.some.inj (h.symm.trans e); have := (ho.out.lt bo rfl).2; omega)
            replace ho := Lib.hid (row_cg ho.out hcg (fun q e hq => ne0o.out (hq.symm.trans (Option.some.inj e).symm)))
            replace hS := Lib.hid (hS.out.cg hcg (fun q e => by subst e; omega))
            replace hbu := Lib.hid (hbu.out.trans (cg_below hcg (fun q e => by subst e; omega) hqy))
            have hr1 := Lib.hid hown1
            clear hown1 hg1 hat1 hcg hb0 hr0 hqy hqz
            refine hK.out _ _ ?_ ?_
            · (try dsimp only); exact hS.out
            clear hK K9 hHeld; intro hHeld
            try simp only [Act.put, List.setIfInBounds_toArray, List.set_cons_zero, List.set_cons_succ]
            refine wpAnyH_ready (rs := [8]) (by kernel_rfl) (by simp) ?_
            refine AllReadyH.cons (o := { dst := some 25, op := Op.call { callee := Callee.builtin Builtin.append, args := #[Operand.tmp 20, Operand.tmp 24], argTypes := #[26, 26] }, type := 26, pos := "law.go:166", after := #[{ on := 3, ground := Ground.data }, { on := 7, ground := Ground.data }, { on := 3, ground := Ground.chain }], guard := none }) rfl (fun K9 hK => ?_) ?_
            · have hqz := hS.out.qlt
              have hqy : Q ≤ y4.heap.size := Nat.le_of_lt hqz
              refine step_app_any rfl (.tmp 20) (.tmp 24) 26 rfl (Q + 1) 51 i3 (.agg #[.int .i64 0, .slice none 0 0]) 2 32 Try.underlying26 hi3 hi3z hi3s hi3b rfl (by decide) (.slice a1 U.objects.length c1) (.slice (some ⟨bo, 0, none⟩) 1 1) U.objects.length 1 (ob2s M) (ob2s [((⟨1, List.replicate kk (0, 0)⟩ : ObjA), Value.slice (some ⟨bv, 0, none⟩) kk kk)]) (by simp [Act.eval]) (by simp [Act.eval]) hr1.out (rd_own ho.out) rfl (ob2s_one _ (fun y hy => by rw [List.mem_singleton.1 hy]; exact ⟨_, _, _, rfl⟩)) (by omega) (by omega) hqz ?_
              intro v2 y5 hown2 hg2 hat2
              obtain ⟨a2, c2, rfl⟩ := row_shape hown2
              have hcg : Cg (fun q => (Value.slice a1 U.objects.length c1).ownBlock = some q) y4 y5 := (Cg.refl _ y4).grown hg2 (fun q e => Or.inl e)
              have hq1 : ∀ q, (Value.slice a1 U.objects.length c1).ownBlock = some q → Q < q := fun q e => by have := (hr1.out.lt q e).1; omega
              replace hv := Lib.hid (row_cg hv.out hcg (fun q e hq => ne1v.out (by rw [hq]; exact e.symm)))
              replace hS := Lib.hid (hS.out.cg hcg hq1)
              replace hbu := Lib.hid (hbu.out.trans (cg_below hcg (fun q e => Nat.le_of_lt (hq1 q e)) hqy))
              have hE := Lib.hid (WdE.born hS.out hbu.out hQ.out hM.out hMp.out hown2 hv.out)
              have x3 := hS.out.c3
              have z3 := hS.out.z 3
              clear hown2 hg2 hat2 hcg hq1 hqy hqz hr1 ho hv
              refine hK.out _ _ ?_ ?_
              · (try dsimp only); exact hS.out
              clear hK K9 hHeld; intro hHeld
              try simp only [Act.put, List.setIfInBounds_toArray, List.set_cons_zero, List.set_cons_succ]
              refine wpAnyH_take (i := 9) (oi := { dst := some 26, op := Op.fieldAddr 28 (Operand.tmp 5) 3, type := 0, pos := "law.go:166", after := #[{ on := 0, ground := Ground.phase }, { on := 1, ground := Ground.phase }, { on := 2, ground := Ground.phase }, { on := 3, ground := Ground.phase }, { on := 4, ground := Ground.phase }, { on := 5, ground := Ground.phase }, { on := 6, ground := Ground.phase }, { on := 7, ground := Ground.phase }, { on := 8, ground := Ground.phase }], guard := none }) (v := ?_) rfl (by kernel_rfl) (by kernel_rfl) (by kernel_rfl) (fun _ _ _ h => h) (Or.inl ⟨by rfl, ?_⟩) (by assumption) ?_
              rotate_left 1
              · intro w hSw; (try dsimp only at hSw); go_simp <;> with_reducible rfl
              try simp only [Act.put, List.setIfInBounds_toArray, List.set_cons_zero, List.set_cons_succ]
              refine last_step (o := { dst := none, op := Op.store 26 (Operand.tmp 26) (Operand.tmp 25), type := 0, pos := "law.go:166", after := #[{ on := 9, ground := Ground.data }, { on := 8, ground := Ground.data }, { on := 8, ground := Ground.chain }, { on := 0, ground := Ground.phase }, { on := 1, ground := Ground.phase }, { on := 2, ground := Ground.phase }, { on := 3, ground := Ground.phase }, { on := 4, ground := Ground.phase }, { on := 5, ground := Ground.phase }, { on := 6, ground := Ground.phase }, { on := 7, ground := Ground.phase }, { on := 8, ground := Ground.phase }], guard := none }) rfl (by kernel_rfl) (fun K hK => ?_)
              go_simp
              refine hK.out _ _ ?_
              clear hK K
              try simp only [Act.put, List.setIfInBounds_toArray, List.set_cons_zero, List.set_cons_succ]
              go_wp2
              go_meet
              exact ⟨a2, c2, hE⟩
            exact AllReadyH.nil
          exact AllReadyH.nil
        exact AllReadyH.nil
      refine AllReadyH.cons (o := { dst := some 24, op := Op.buildSlice 26 1 #[(0, Operand.tmp 23)], type := 26, pos := "law.go:166", after := #[{ on := 6, ground := Ground.data }], guard := none }) rfl (fun K9 hK => ?_) ?_
      · go_simp
        have hqz := hS.out.qlt
        have hqy : Q ≤ y1.heap.size := Nat.le_of_lt hqz
        have ho : Hid ((y1.alloc (.cells #[.int .i64 1, .slice (some ⟨bv, 0, none⟩) kk kk] 51)).ownsRow (Q + 1) 51 2 (.slice (some ⟨y1.heap.size, 0, none⟩) 1 1) 1 (ob2s [((⟨1, List.replicate kk (0, 0)⟩ : ObjA), Value.slice (some ⟨bv, 0, none⟩) kk kk)])) := Lib.hid (World.ownsRow_lit y1 #[.int .i64 1, .slice (some ⟨bv, 0, none⟩) kk kk] 1 hqz (by omega) rfl)
        have hba := (Below.refl y1.heap.size y1).alloc (Nat.le_refl _) (.cells #[.int .i64 1, .slice (some ⟨bv, 0, none⟩) kk kk] 51)
        replace hS := Lib.hid (hS.out.up hba)
        replace hbu := Lib.hid (hbu.out.trans (hba.mono hqy))
        replace hv := Lib.hid (row_bel hv.out hba)
        clear hba hqy hqz
        generalize hgy : y1.alloc (.cells #[.int .i64 1, .slice (some ⟨bv, 0, none⟩) kk kk] 51) = y2 at *
        clear hgy
        generalize y1.heap.size = bo at *
        refine hK.out _ _ ?_ ?_
        · (try dsimp only); exact hS.out
        clear hK K9 hHeld; intro hHeld
        try simp only [Act.put, List.setIfInBounds_toArray, List.set_cons_zero, List.set_cons_succ]
        refine wpAnyH_ready (rs := [0]) (by kernel_rfl) (by simp) ?_
        refine AllReadyH.cons (o := { dst := some 17, op := Op.buildSlice 26 0 #[], type := 26, pos := "law.go:166", after := #[], guard := none }) rfl (fun K9 hK => ?_) ?_
        · go_simp
          have hqz := hS.out.qlt
          have hqy : Q ≤ y2.heap.size := Nat.le_of_lt hqz
          have hr0 := Lib.hid (made_none y2 51 2 (Q + 1) hqz)
          have ne0v : Hid (y2.heap.size ≠ bv) := Lib.hid (fun e => by have := (hv.out.lt bv rfl).2; omega)
          have ne0o : Hid (y2.heap.size ≠ bo) := Lib.hid (fun e => by have := (ho.out.lt bo rfl).2; omega)
          have hba := (Below.refl y2.heap.size y2).alloc (Nat.le_refl _) (.cells #[] 51)
          replace hS := Lib.hid (hS.out.up hba)
          replace hbu := Lib.hid (hbu.out.trans (hba.mono hqy))
          replace hv := Lib.hid (row_bel hv.out hba)
          replace ho := Lib.hid (row_bel ho.out hba)
          clear hba hqy hqz
          generalize hgy : y2.alloc (.cells #[] 51) = y3 at *
          clear hgy
          generalize y2.heap.size = b0 at *
          refine hK.out _ _ ?_ ?_
          · (try dsimp only); exact hS.out
          clear hK K9 hHeld; intro hHeld
          try simp only [Act.put, List.setIfInBounds_toArray, List.set_cons_zero, List.set_cons_succ]
          refine wpAnyH_ready (rs := [3]) (by kernel_rfl) (by simp) ?_
          refine AllReadyH.cons (o := { dst := some 20, op := Op.call { callee := Callee.builtin Builtin.append, args := #[Operand.tmp 17, Operand.tmp 19], argTypes := #[26, 26] }, type := 26, pos := "law.go:166", after := #[{ on := 0, ground := Ground.data }, { on := 2, ground := Ground.data }], guard := none }) rfl (fun K9 hK => ?_) ?_
          · have hqz := hS.out.qlt
            have hqy : Q ≤ y3.heap.size := Nat.le_of_lt hqz
            refine step_app_any rfl (.tmp 17) (.tmp 19) 26 rfl (Q + 1) 51 i3 (.agg #[.int .i64 0, .slice none 0 0]) 2 32 Try.underlying26 hi3 hi3z hi3s hi3b rfl (by decide) (.slice (some ⟨b0, 0, none⟩) 0 0) (.slice oa U.objects.length oc) 0 U.objects.length [] (ob2s M) (by simp [Act.eval]) (by simp [Act.eval]) hr0.out (hrd.out.up (by rw [hQ.out]; exact hbu.out)) hlen.out hone.out (by omega) (by omega) hqz ?_
            intro v1 y4 hown1 hg1 hat1
            rw [Nat.zero_add, List.nil_append] at hown1
            obtain ⟨a1, c1, rfl⟩ := row_shape hown1
            have hcg : Cg (fun q => q = b0) y3 y4 := (Cg.refl (fun q => q = b0) y3).grown hg1 (fun q e => Or.inl (Option.some.inj e).symm)
            have hb0 := (hr0.out.lt b0 rfl).1
            have ne1v : Hid ((Value.slice a1 U.objects.length c1).ownBlock ≠ some bv) := Lib.hid (fun e => by rcases hat1 with h | h; exact ne0v.out (Option.some.inj (h.symm.trans e)); have h3 := Option.some.inj (h.symm.trans e); have := (hv.out.lt bv rfl).2; omega)
            replace hv := Lib.hid (row_cg hv.out hcg (fun q e hq => ne0v.out (hq.symm.trans (Option.some.inj e).symm)))
            have ne1o : Hid ((Value.slice a1 U.objects.length c1).ownBlock ≠ some bo) := Lib.hid (fun e => by rcases hat1 with h | h; exact ne0o.out (Option.some.inj (h.symm.trans e)); have h3 := Option.some.inj (h.symm.trans e); have := (ho.out.lt bo rfl).2; omega)
            replace ho := Lib.hid (row_cg ho.out hcg (fun q e hq => ne0o.out (hq.symm.trans (Option.some.inj e).symm)))
            replace hS := Lib.hid (hS.out.cg hcg (fun q e => by subst e; omega))
            replace hbu := Lib.hid (hbu.out.trans (cg_below hcg (fun q e => by subst e; omega) hqy))
            have hr1 := Lib.hid hown1
            clear hown1 hg1 hat1 hcg hb0 hr0 hqy hqz
            refine hK.out _ _ ?_ ?_
            · (try dsimp only); exact hS.out
            clear hK K9 hHeld; intro hHeld
            try simp only [Act.put, List.setIfInBounds_toArray, List.set_cons_zero, List.set_cons_succ]
            refine wpAnyH_ready (rs := [8]) (by kernel_rfl) (by simp) ?_
            refine AllReadyH.cons (o := { dst := some 25, op := Op.call { callee := Callee.builtin Builtin.append, args := #[Operand.tmp 20, Operand.tmp 24], argTypes := #[26, 26] }, type := 26, pos := "law.go:166", after := #[{ on := 3, ground := Ground.data }, { on := 7, ground := Ground.data }, { on := 3, ground := Ground.chain }], guard := none }) rfl (fun K9 hK => ?_) ?_
            · have hqz := hS.out.qlt
              have hqy : Q ≤ y4.heap.size := Nat.le_of_lt hqz
              refine step_app_any rfl (.tmp 20) (.tmp 24) 26 rfl (Q + 1) 51 i3 (.agg #[.int .i64 0, .slice none 0 0]) 2 32 Try.underlying26 hi3 hi3z hi3s hi3b rfl (by decide) (.slice a1 U.objects.length c1) (.slice (some ⟨bo, 0, none⟩) 1 1) U.objects.length 1 (ob2s M) (ob2s [((⟨1, List.replicate kk (0, 0)⟩ : ObjA), Value.slice (some ⟨bv, 0, none⟩) kk kk)]) (by simp [Act.eval]) (by simp [Act.eval]) hr1.out (rd_own ho.out) rfl (ob2s_one _ (fun y hy => by rw [List.mem_singleton.1 hy]; exact ⟨_, _, _, rfl⟩)) (by omega) (by omega) hqz ?_
              intro v2 y5 hown2 hg2 hat2
              obtain ⟨a2, c2, rfl⟩ := row_shape hown2
              have hcg : Cg (fun q => (Value.slice a1 U.objects.length c1).ownBlock = some q) y4 y5 := (Cg.refl _ y4).grown hg2 (fun q e => Or.inl e)
              have hq1 : ∀ q, (Value.slice a1 U.objects.length c1).ownBlock = some q → Q < q := fun q e => by have := (hr1.out.lt q e).1; omega
              replace hv := Lib.hid (row_cg hv.out hcg (fun q e hq => ne1v.out (by rw [hq]; exact e.symm)))
              replace hS := Lib.hid (hS.out.cg hcg hq1)
              replace hbu := Lib.hid (hbu.out.trans (cg_below hcg (fun q e => Nat.le_of_lt (hq1 q e)) hqy))
              have hE := Lib.hid (WdE.born hS.out hbu.out hQ.out hM.out hMp.out hown2 hv.out)
              have x3 := hS.out.c3
              have z3 := hS.out.z 3
              clear hown2 hg2 hat2 hcg hq1 hqy hqz hr1 ho hv
              refine hK.out _ _ ?_ ?_
              · (try dsimp only); exact hS.out
              clear hK K9 hHeld; intro hHeld
              try simp only [Act.put, List.setIfInBounds_toArray, List.set_cons_zero, List.set_cons_succ]
              refine wpAnyH_take (i := 9) (oi := { dst := some 26, op := Op.fieldAddr 28 (Operand.tmp 5) 3, type := 0, pos := "law.go:166", after := #[{ on := 0, ground := Ground.phase }, { on := 1, ground := Ground.phase }, { on := 2, ground := Ground.phase }, { on := 3, ground := Ground.phase }, { on := 4, ground := Ground.phase }, { on := 5, ground := Ground.phase }, { on := 6, ground := Ground.phase }, { on := 7, ground := Ground.phase }, { on := 8, ground := Ground.phase }], guard := none }) (v := ?_) rfl (by kernel_rfl) (by kernel_rfl) (by kernel_rfl) (fun _ _ _ h => h) (Or.inl ⟨by rfl, ?_⟩) (by assumption) ?_
              rotate_left 1
              · intro w hSw; (try dsimp only at hSw); go_simp <;> with_reducible rfl
              try simp only [Act.put, List.setIfInBounds_toArray, List.set_cons_zero, List.set_cons_succ]
              refine last_step (o := { dst := none, op := Op.store 26 (Operand.tmp 26) (Operand.tmp 25), type := 0, pos := "law.go:166", after := #[{ on := 9, ground := Ground.data }, { on := 8, ground := Ground.data }, { on := 8, ground := Ground.chain }, { on := 0, ground := Ground.phase }, { on := 1, ground := Ground.phase }, { on := 2, ground := Ground.phase }, { on := 3, ground := Ground.phase }, { on := 4, ground := Ground.phase }, { on := 5, ground := Ground.phase }, { on := 6, ground := Ground.phase }, { on := 7, ground := Ground.phase }, { on := 8, ground := Ground.phase }], guard := none }) rfl (by kernel_rfl) (fun K hK => ?_)
              go_simp
              refine hK.out _ _ ?_
              clear hK K
              try simp only [Act.put, List.setIfInBounds_toArray, List.set_cons_zero, List.set_cons_succ]
              go_wp2
              go_meet
              exact ⟨a2, c2, hE⟩
            exact AllReadyH.nil
          exact AllReadyH.nil
        exact AllReadyH.nil
      exact AllReadyH.nil
    exact AllReadyH.nil
  case rest =>
    clear hS hbu hM hMp hrd hone hlen hml hZl hZs hQ hl4
    obtain ⟨a2, d2, hE⟩ := hcut
    have hwf := wd_fo kk (by omega)
    have hb1 := wordsB_snoc U.objects ⟨1, List.replicate kk (0, 0)⟩
    simp only [List.length_replicate] at hb1
    have hlm := hs
    have c0 := hE.out.c0
    have c1 := hE.out.c1
    have c2 := hE.out.c2
    have c3 := hE.out.c3
    have c4 := hE.out.c4
    have PW2 := K.words hE.out.un (by simp; omega)
    replace PW2 : Calls _ _ _ _ (fun e w' => e = .returned (.int .i64 (wordsB (U.objects ++ [⟨1, List.replicate kk (0, 0)⟩]))) ∧ Below _ _ w') := PW2
    rw [hb1] at PW2
    replace PW2 := Lib.hid PW2
    generalize wordsB U.objects = s0 at *
    generalize wd (fo (kk : Int)) = s1 at *
    have wsub : IntKind.i64.wrap (s0 + s1 - s0) = s1 := by rw [IntKind.wrap_i64]; omega
    have wk2 : IntKind.i64.wrap ((kk : Int) + 2) = (kk : Int) + 2 := by rw [IntKind.wrap_i64]; omega
    have w2k : IntKind.i64.wrap (2 * ((kk : Int) + 2)) = 2 * ((kk : Int) + 2) := by rw [IntKind.wrap_i64]; omega
    have g1 : decide (s1 ≥ (kk : Int) + 2) = true := by simp; omega
    clear hb1 hs hlm
    go_wp2_with fail
    with_reducible refine PW2.out.mono ?_
    rintro e w3 ⟨rfl, hb⟩
    replace hE := Lib.hid (hE.out.up hb)
    clear c0 c1 c2 c3 c4 PW2 hb
    have c0 := hE.out.c0
    have c1 := hE.out.c1
    have c2 := hE.out.c2
    have c3 := hE.out.c3
    have c4 := hE.out.c4
    have PR := K.right hE.out.un
    rw [more_right hT (by omega)] at PR
    replace PR := Lib.hid PR
    go_wp2_with fail
    with_reducible refine PR.out.mono ?_
    rintro e w4 ⟨rfl, hb⟩
    replace hE := Lib.hid (hE.out.up hb)
    clear c0 c1 c2 c3 c4 PR hb
    by_cases g4 : 2 * ((kk : Int) + 2) < 4
    · have hg : decide (s1 ≤ 4) = true := by rw [if_pos g4] at hwf; simp; omega
      go_wp2_with fail
      with_reducible refine (PN.out _).mono ?_
      rintro e w5 ⟨rfl, hb⟩
      go_wp2
      go_ret
      exact ⟨rfl, (hE.out.up hb).bel⟩
    · have hg : decide (s1 ≤ 2 * ((kk : Int) + 2)) = true := by rw [if_neg g4] at hwf; simp; omega
      go_wp2_with fail
      with_reducible refine (PN.out _).mono ?_
      rintro e w5 ⟨rfl, hb⟩
      go_wp2
      go_ret
      exact ⟨rfl, (hE.out.up hb).bel⟩
end Wd
end Go.Proofs.Ytgfdgdbkifkehaa

/- A copy, as long as nothing of it is turned; a row of it. -/
namespace Go.Proofs.Ytgfdgdbkifkehaa
open Go.RowKit
set_option linter.unusedVariables false
set_option maxRecDepth 20000
namespace Wd
/-- a copy that was made in blocks from s to t; nothing there was turned since -/
def CpA (s t : Nat) (wr : World) (nv cv mv ov : Value) (U : UnitA) : Prop := ∃ wc : World, wc.heap.size = t ∧ CpN s wc nv cv mv ov U ∧ Cg (fun k => k < s ∨ t ≤ k) wc wr
section
variable {s t : Nat} {w wc wr w1 : World} {nv cv mv ov : Value} {U : UnitA}
theorem CpA.born (h : CpN s w nv cv mv ov U) : CpA s w.heap.size w nv cv mv ov U := ⟨w, rfl, h, Cg.refl _ _⟩
theorem CpA.step (h : CpA s t wr nv cv mv ov U) {F : Nat → Prop} (c : Cg F wr w1) (hF : ∀ k, F k → k < s ∨ t ≤ k) : CpA s t w1 nv cv mv ov U := by
  obtain ⟨wc, e, hc, hg⟩ := h
  exact ⟨wc, e, hc, hg.trans (c.mono hF)⟩
theorem CpA.tle (h : CpA s t wr nv cv mv ov U) : t ≤ wr.heap.size := by
  obtain ⟨wc, e, _, hg⟩ := h
  rw [← e]; exact hg.size
theorem CpA.up (h : CpA s t wr nv cv mv ov U) (b : Below wr.heap.size wr w1) : CpA s t w1 nv cv mv ov U := by
  obtain ⟨wc, e, hc, hg⟩ := h
  exact ⟨wc, e, hc, ⟨b.os.trans hg.os, b.tape.trans hg.tape, b.output.trans hg.output, Nat.le_trans hg.size b.size, fun k hk hn => (b.block k (Nat.lt_of_lt_of_le hk hg.size)).trans (hg.block k hk hn)⟩⟩
/-- a cell of a row of the copy, later -/
theorem keep_cell (hg : Cg (fun k => k < s ∨ wc.heap.size ≤ k) wc wr) {g o : Nat} {v : Value} (hs : s ≤ g) (hc : wc.cell? ⟨g, o, none⟩ = some v) : wr.cell? ⟨g, o, none⟩ = some v := by
  have hlt := World.block_lt_of_cell? _ _ hc
  simp only at hlt
  exact (World.cell?_of_block (a := ⟨g, o, none⟩) (hg.block g hlt (fun h => by omega))).trans hc
theorem keep_loose (hg : Cg (fun k => k < s ∨ wc.heap.size ≤ k) wc wr) {g o : Nat} (hs : s ≤ g) (hlt : g < wc.heap.size) (hz : wc.frozen? ⟨g, o, none⟩ = false) : wr.frozen? ⟨g, o, none⟩ = false :=
  (World.frozen?_of_block (a := ⟨g, o, none⟩) (hg.block g hlt (fun h => by omega))).trans hz
theorem PrV.kp {v : Value} {L : List (Int × Int)} (h : PrV wc v L) (f : Fr s wc v) (hg : Cg (fun k => k < s ∨ wc.heap.size ≤ k) wc wr) : PrV wr v L := by
  obtain ⟨ad, cap, rfl, h1, h2, h3⟩ := h.ex
  refine ⟨ad, cap, rfl, h1, h2, fun k x hx => ?_⟩
  obtain ⟨i1, i2, g, off, e, c0, c1⟩ := h3 k x hx
  subst e
  have hs := (f g off _ _ rfl (by have := (List.getElem?_eq_some_iff.1 hx).1; omega)).1
  exact ⟨i1, i2, g, off, rfl, keep_cell hg hs c0, keep_cell hg hs c1⟩
theorem ByV.kp {v : Value} {L : List Int} (h : ByV wc v L) (f : Fr s wc v) (hg : Cg (fun k => k < s ∨ wc.heap.size ≤ k) wc wr) : ByV wr v L := by
  obtain ⟨ad, cap, rfl, h1, h2, h3⟩ := h.ex
  refine ⟨ad, cap, rfl, h1, h2, fun k x hx => ?_⟩
  obtain ⟨i1, g, off, e, c0⟩ := h3 k x hx
  subst e
  have hs := (f g off _ _ rfl (by have := (List.getElem?_eq_some_iff.1 hx).1; omega)).1
  exact ⟨i1, g, off, rfl, keep_cell hg hs c0⟩
theorem NmV.kp {v : Value} {L : List ByteArray} (h : NmV wc v L) (f : Fr s wc v) (hg : Cg (fun k => k < s ∨ wc.heap.size ≤ k) wc wr) : NmV wr v L := by
  obtain ⟨ad, cap, rfl, h1, h2, h3⟩ := h.ex
  refine ⟨ad, cap, rfl, h1, h2, fun k x hx => ?_⟩
  obtain ⟨g, off, e, c0⟩ := h3 k x hx
  subst e
  have hs := (f g off _ _ rfl (by have := (List.getElem?_eq_some_iff.1 hx).1; omega)).1
  exact ⟨g, off, rfl, keep_cell hg hs c0⟩
theorem CpN.kp (h : CpN s wc nv cv mv ov U) (hg : Cg (fun k => k < s ∨ wc.heap.size ≤ k) wc wr) : UnV wr nv cv mv ov U := by
  refine ⟨h.un.n.kp h.fn hg, ?_, ?_, ?_⟩
  · obtain ⟨ad, cap, rfl, h1, h2, h3⟩ := h.un.c.ex
    refine ⟨ad, cap, rfl, h1, h2, fun k x hx => ?_⟩
    obtain ⟨i1, i2, g, off, bv, e, c0, c1, c2, c3, hb⟩ := h3 k x hx
    subst e
    have hk := (List.getElem?_eq_some_iff.1 hx).1
    have hs := (h.fc g off _ _ rfl (by omega)).1
    exact ⟨i1, i2, g, off, bv, rfl, keep_cell hg hs c0, keep_cell hg hs c1, keep_cell hg hs c2, keep_cell hg hs c3, hb.kp (h.bc g off _ _ k bv rfl hk c3) hg⟩
  · obtain ⟨ad, cap, rfl, h1, h2, h3⟩ := h.un.m.ex
    refine ⟨ad, cap, rfl, h1, h2, fun k x hx => ?_⟩
    obtain ⟨i1, i2, g, off, lv, cv', e, c0, c1, c2, c3, hl, hc⟩ := h3 k x hx
    subst e
    have hk := (List.getElem?_eq_some_iff.1 hx).1
    have hs := (h.fm g off _ _ rfl (by omega)).1
    exact ⟨i1, i2, g, off, lv, cv', rfl, keep_cell hg hs c0, keep_cell hg hs c1, keep_cell hg hs c2, keep_cell hg hs c3, hl.kp (h.bl g off _ _ k lv rfl hk c2) hg, hc.kp (h.bk g off _ _ k cv' rfl hk c3) hg⟩
  · obtain ⟨ad, cap, rfl, h1, h2, h3⟩ := h.un.o.ex
    refine ⟨ad, cap, rfl, h1, h2, fun k x hx => ?_⟩
    obtain ⟨i1, g, off, fv, e, c0, c1, hf⟩ := h3 k x hx
    subst e
    have hk := (List.getElem?_eq_some_iff.1 hx).1
    have hs := (h.fo g off _ _ rfl (by omega)).1
    exact ⟨i1, g, off, fv, rfl, keep_cell hg hs c0, keep_cell hg hs c1, hf.kp (h.bf g off _ _ k fv rfl hk c1) hg⟩
theorem CpA.un (h : CpA s t wr nv cv mv ov U) : UnV wr nv cv mv ov U := by
  obtain ⟨wc, e, hc, hg⟩ := h
  subst e
  exact hc.kp hg
/-- a row that may be written: where it lies -/
def Wr (s t : Nat) (w : World) (g : Nat) : Prop := (s ≤ g ∧ g < t) ∧ ∀ j, w.frozen? ⟨g, j, none⟩ = false
theorem fr_wr {v : Value} {g off n cap i : Nat} {x : Value} (hc : wc.heap.size = t) (f : Fr s wc v) (hv : v = .slice (some ⟨g, off, none⟩) n cap) (hn : 0 < n) (hx : wc.cell? ⟨g, i, none⟩ = some x) (hg : Cg (fun k => k < s ∨ t ≤ k) wc wr) : Wr s t wr g := by
  subst hc
  have hlt := World.block_lt_of_cell? _ _ hx
  simp only at hlt
  obtain ⟨hs, hz⟩ := f g off n cap hv hn
  exact ⟨⟨hs, hlt⟩, fun j => keep_loose hg hs hlt (hz j)⟩
/-- what of a copy is turned: the code, the literals of its method k; its first name; its second class's fields; its first object's fields -/
structure CpR (s t : Nat) (wr : World) (nv cv mv ov : Value) (U : UnitA) (k : Nat) (m : MethA) (o : ObjA) (gn on gc oc gm om go oo : Nat) (lv kv fv : Value) : Prop where
  rn : (∃ c, nv = .slice (some ⟨gn, on, none⟩) U.names.length c) ∧ Wr s t wr gn ∧ ∃ x, wr.cell? ⟨gn, on, none⟩ = some (.string x)
  rc : (∃ c, cv = .slice (some ⟨gc, oc, none⟩) U.classes.length c) ∧ Wr s t wr gc ∧ ∃ x, wr.cell? ⟨gc, oc + 1 * 4 + 2, none⟩ = some (.int .i64 x)
  rm : (∃ c, mv = .slice (some ⟨gm, om, none⟩) U.methods.length c) ∧ wr.cell? ⟨gm, om + k * 4 + 2, none⟩ = some lv ∧ wr.cell? ⟨gm, om + k * 4 + 3, none⟩ = some kv
  rl : PrV wr lv m.lits ∧ ∀ g off n c, lv = .slice (some ⟨g, off, none⟩) n c → 0 < n → Wr s t wr g
  rk : ByV wr kv m.code ∧ ∀ g off n c, kv = .slice (some ⟨g, off, none⟩) n c → 0 < n → Wr s t wr g
  ro : (∃ c, ov = .slice (some ⟨go, oo, none⟩) U.objects.length c) ∧ wr.cell? ⟨go, oo + 1, none⟩ = some fv
  rf : PrV wr fv o.flds ∧ ∀ g off n c, fv = .slice (some ⟨g, off, none⟩) n c → 0 < n → Wr s t wr g
theorem CpA.rows (h : CpA s t wr nv cv mv ov U) {k : Nat} {m : MethA} {o : ObjA} (hk : U.methods[k]? = some m) (ho : U.objects[0]? = some o) {x : ByteArray} (hn : U.names[0]? = some x) {c : ClassA} (hcl : U.classes[1]? = some c) :
    ∃ gn on gc oc gm om go oo lv kv fv, CpR s t wr nv cv mv ov U k m o gn on gc oc gm om go oo lv kv fv := by
  obtain ⟨wc, e, hc, hg⟩ := h
  subst e
  have l1 := (List.getElem?_eq_some_iff.1 hn).1
  have l2 := (List.getElem?_eq_some_iff.1 hcl).1
  have l3 := (List.getElem?_eq_some_iff.1 hk).1
  have l4 := (List.getElem?_eq_some_iff.1 ho).1
  obtain ⟨ad1, cap1, rfl, _, _, n3⟩ := hc.un.n.ex
  obtain ⟨gn, on, e1, nc⟩ := n3 0 x hn
  obtain ⟨ad2, cap2, rfl, _, _, c3⟩ := hc.un.c.ex
  obtain ⟨_, _, gc, oc, _, e2, _, _, cc, _⟩ := c3 1 c hcl
  obtain ⟨ad3, cap3, rfl, _, _, m3⟩ := hc.un.m.ex
  obtain ⟨_, _, gm, om, lv, kv, e3, _, _, ml, mk, hl, hk2⟩ := m3 k m hk
  obtain ⟨ad4, cap4, rfl, _, _, o3⟩ := hc.un.o.ex
  obtain ⟨_, go, oo, fv, e4, _, of, hf⟩ := o3 0 o ho
  subst e1 e2 e3 e4
  rw [Nat.add_zero] at nc
  rw [Nat.zero_mul, Nat.add_zero] at of
  have sn := (hc.fn gn on _ _ rfl (by omega)).1
  have sc := (hc.fc gc oc _ _ rfl (by omega)).1
  have sm := (hc.fm gm om _ _ rfl (by omega)).1
  have so := (hc.fo go oo _ _ rfl (by omega)).1
  have fl := hc.bl gm om _ _ k lv rfl l3 ml
  have fk := hc.bk gm om _ _ k kv rfl l3 mk
  have ff := hc.bf go oo _ _ 0 fv rfl l4 (by rw [Nat.zero_mul, Nat.add_zero]; exact of)
  refine ⟨gn, on, gc, oc, gm, om, go, oo, lv, kv, fv, ⟨⟨cap1, rfl⟩, fr_wr rfl hc.fn rfl (by omega) nc hg, _, keep_cell hg sn nc⟩, ⟨⟨cap2, rfl⟩, fr_wr rfl hc.fc rfl (by omega) cc hg, _, keep_cell hg sc cc⟩, ⟨⟨cap3, rfl⟩, keep_cell hg sm ml, keep_cell hg sm mk⟩, ⟨hl.kp fl hg, ?_⟩, ⟨hk2.kp fk hg, ?_⟩, ⟨⟨cap4, rfl⟩, keep_cell hg so of⟩, ⟨hf.kp ff hg, ?_⟩⟩
  · intro g off n c e hn
    obtain ⟨ad, cap, e5, _, _, h3⟩ := hl.ex
    rw [e] at e5
    injection e5 with e6 e7 _
    obtain ⟨y, hy⟩ : ∃ y, m.lits[0]? = some y := ⟨m.lits[0]'(by omega), by simp⟩
    obtain ⟨_, _, g2, o2, e8, q0, _⟩ := h3 0 y hy
    rw [← e6] at e8
    cases e8
    exact fr_wr rfl fl e hn q0 hg
  · intro g off n c e hn
    obtain ⟨ad, cap, e5, _, _, h3⟩ := hk2.ex
    rw [e] at e5
    injection e5 with e6 e7 _
    obtain ⟨y, hy⟩ : ∃ y, m.code[0]? = some y := ⟨m.code[0]'(by omega), by simp⟩
    obtain ⟨_, g2, o2, e8, q0⟩ := h3 0 y hy
    rw [← e6] at e8
    cases e8
    exact fr_wr rfl fk e hn q0 hg
  · intro g off n c e hn
    obtain ⟨ad, cap, e5, _, _, h3⟩ := hf.ex
    rw [e] at e5
    injection e5 with e6 e7 _
    obtain ⟨y, hy⟩ : ∃ y, o.flds[0]? = some y := ⟨o.flds[0]'(by omega), by simp⟩
    obtain ⟨_, _, g2, o2, e8, q0, _⟩ := h3 0 y hy
    rw [← e6] at e8
    cases e8
    exact fr_wr rfl ff e hn q0 hg
end
/-- five cells in a box of their own -/
structure Bx5 (w : World) (b : Nat) (v0 v1 v2 v3 v4 : Value) : Prop where
  c0 : w.cell? ⟨b, 0, none⟩ = some v0
  c1 : w.cell? ⟨b, 1, none⟩ = some v1
  c2 : w.cell? ⟨b, 2, none⟩ = some v2
  c3 : w.cell? ⟨b, 3, none⟩ = some v3
  c4 : w.cell? ⟨b, 4, none⟩ = some v4
theorem Bx5.cg {w w1 : World} {b : Nat} {v0 v1 v2 v3 v4 : Value} (h : Bx5 w b v0 v1 v2 v3 v4) {F : Nat → Prop} (c : Cg F w w1) (hF : ¬ F b) : Bx5 w1 b v0 v1 v2 v3 v4 := by
  have hk := c.block b (World.block_lt_of_cell? _ _ h.c0) hF
  exact ⟨(World.cell?_of_block (a := ⟨b, 0, none⟩) hk).trans h.c0, (World.cell?_of_block (a := ⟨b, 1, none⟩) hk).trans h.c1, (World.cell?_of_block (a := ⟨b, 2, none⟩) hk).trans h.c2, (World.cell?_of_block (a := ⟨b, 3, none⟩) hk).trans h.c3, (World.cell?_of_block (a := ⟨b, 4, none⟩) hk).trans h.c4⟩
theorem Bx5.up {w w1 : World} {b : Nat} {v0 v1 v2 v3 v4 : Value} (h : Bx5 w b v0 v1 v2 v3 v4) (c : Below w.heap.size w w1) : Bx5 w1 b v0 v1 v2 v3 v4 := h.cg (Cg.below (fun _ => False) c) (fun e => e)
theorem Bx5.rg {w : World} {b : Nat} {v0 v1 v2 v3 v4 : Value} (h : Bx5 w b v0 v1 v2 v3 v4) : w.rangeAt b 0 [v0, v1, v2, v3, v4] := range5 h.c0 h.c1 h.c2 h.c3 h.c4
theorem box_store {w : World} {b : Nat} (h : w.heap[b]? = some uz5) (v0 v1 v2 v3 v4 : Value) : w.there b 0 5 ∧ Bx5 (w.setCells b 0 [v0, v1, v2, v3, v4]) b v0 v1 v2 v3 v4 ∧ Cg (fun q => q = b) w (w.setCells b 0 [v0, v1, v2, v3, v4]) := by
  have y0 : w.cell? ⟨b, 0, none⟩ = some (.slice none 0 0) := cell_in h rfl
  have y1 : w.cell? ⟨b, 1, none⟩ = some (.slice none 0 0) := cell_in h rfl
  have y2 : w.cell? ⟨b, 2, none⟩ = some (.slice none 0 0) := cell_in h rfl
  have y3 : w.cell? ⟨b, 3, none⟩ = some (.slice none 0 0) := cell_in h rfl
  have y4 : w.cell? ⟨b, 4, none⟩ = some (.int .i64 0) := cell_in h rfl
  obtain ⟨r0, r1, r2, r3, r4⟩ := set5_at (v0 := v0) (v1 := v1) (v2 := v2) (v3 := v3) (v4 := v4) y0 y1 y2 y3 y4
  refine ⟨?_, ⟨r0, r1, r2, r3, r4⟩, set5_cg w b v0 v1 v2 v3 v4⟩
  intro j hj
  rcases (show j = 0 ∨ j = 1 ∨ j = 2 ∨ j = 3 ∨ j = 4 by omega) with rfl | rfl | rfl | rfl | rfl
  · exact ⟨by first | exact ⟨_, y0⟩ | (rw [Nat.zero_add, y0]; rfl), loose_in h⟩
  · exact ⟨by first | exact ⟨_, y1⟩ | (rw [Nat.zero_add, y1]; rfl), loose_in h⟩
  · exact ⟨by first | exact ⟨_, y2⟩ | (rw [Nat.zero_add, y2]; rfl), loose_in h⟩
  · exact ⟨by first | exact ⟨_, y3⟩ | (rw [Nat.zero_add, y3]; rfl), loose_in h⟩
  · exact ⟨by first | exact ⟨_, y4⟩ | (rw [Nat.zero_add, y4]; rfl), loose_in h⟩
theorem step_store_mid {P : Program} {w : World} {ops : Array Oper} {o : Oper} {a : Act} {K : Act → World → Prop} {Q : Exit → Act → World → Prop} {E : Prop} (hgd : o.guard = none) (ty : TypeId) (x y : Operand) (ho : o.op = .store ty x y)
    (b off : Nat) (cells : Array Value) (hx : a.eval x = .pointer (some ⟨b, off, none⟩)) (hy : a.eval y = .agg cells)
    (ht : w.there b off cells.size) (hi : (P.info? ty).map (·.size) = some cells.size) (h1 : cells.all (·.oneCell') = true)
    (h : K (a.put o.dst undef) (w.setCells b off cells.toList)) : if Region.wanted o (yielded ops a.tmps) = true then Oper.wp P o a w K Q else E := by
  rw [if_pos (by simp [Region.wanted, hgd])]
  exact wp_store_mid ty x y ho b off cells hx hy ht hi h1 h
end Wd
end Go.Proofs.Ytgfdgdbkifkehaa
