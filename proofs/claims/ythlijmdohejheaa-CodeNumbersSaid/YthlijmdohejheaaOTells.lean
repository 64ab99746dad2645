/- CodeTells, over what the laws ask of the package. -/
import Derived.Test.YthlijmdohejheaaOTelA
namespace Go.Proofs.Ythlijmdohejheaa
open Go.RowKit
set_option linter.unusedVariables false
set_option maxRecDepth 20000
namespace Wd
theorem rd_two (w : World) : ∀ j u, (bys [19, 0])[j]? = some u → (w.alloc (.cells #[.int .u8 19, .int .u8 0] 5)).cell? ((⟨w.heap.size, 0, none⟩ : Addr).add j) = some u := by
  intro j u hu
  have hj : j < 2 := by have := (List.getElem?_eq_some_iff.1 hu).1; simpa [bys] using this
  rw [Addr.add_lit, Nat.zero_add]
  rcases (show j = 0 ∨ j = 1 by omega) with rfl | rfl <;> (simp [bys] at hu; subst hu; simp)
/-- all that the last comparisons read -/
structure T9 (w wr : World) (vR vM vF vU : Value) (mR mM mF : MethA) (U : UnitA) (q13 q14 q15 : Nat) (ra sa la ca fa ga na ka oa : Option Addr) (rc sc lc cc fc gc nc kc oc g ucap : Nat) : Prop where
  bR : MeB wr w.heap.size vR mR ra sa rc sc
  bM : MeB wr q14 vM mM la ca lc cc
  bF : MeB wr q15 vF mF fa ga fc gc
  bU : UnC wr q13 U na ka (some ⟨g, 0, none⟩) oa nc kc ucap oc
  uk : UnK wr vU U
  bel : Below w.heap.size w wr
theorem T9.up {w w1 w2 : World} {vR vM vF vU : Value} {mR mM mF : MethA} {U : UnitA} {q13 q14 q15 : Nat} {ra sa la ca fa ga na ka oa : Option Addr} {rc sc lc cc fc gc nc kc oc g ucap : Nat} (h : T9 w w1 vR vM vF vU mR mM mF U q13 q14 q15 ra sa la ca fa ga na ka oa rc sc lc cc fc gc nc kc oc g ucap) (b : Below w1.heap.size w1 w2) : T9 w w2 vR vM vF vU mR mM mF U q13 q14 q15 ra sa la ca fa ga na ka oa rc sc lc cc fc gc nc kc oc g ucap :=
  ⟨h.bR.up b, h.bM.up b, h.bF.up b, h.bU.up b, h.uk.up b, h.bel.trans (b.mono h.bel.size)⟩
structure R2S (wr : World) (q13 g k ucap : Nat) (mM : MethA) (la ca : Option Addr) (lc cc : Nat) : Prop where
  c2 : wr.cell? ⟨q13, 2, none⟩ = some (.slice (some ⟨g, 0, none⟩) 9 ucap)
  m0 : wr.cell? ⟨g, k * 4, none⟩ = some (.int .i64 mM.args)
  m1 : wr.cell? ⟨g, k * 4 + 1, none⟩ = some (.int .i64 mM.temps)
  m2 : wr.cell? ⟨g, k * 4 + 2, none⟩ = some (.slice la mM.lits.length lc)
  m3 : wr.cell? ⟨g, k * 4 + 3, none⟩ = some (.slice ca mM.code.length cc)
theorem R2S.cs {wr : World} {q13 g k ucap : Nat} {mM : MethA} {la ca : Option Addr} {lc cc : Nat} (h : R2S wr q13 g k ucap mM la ca lc cc) : wr.cell? ⟨q13, 2, none⟩ = some (.slice (some ⟨g, 0, none⟩) 9 ucap) ∧ wr.cell? ⟨g, k * 4, none⟩ = some (.int .i64 mM.args) ∧ wr.cell? ⟨g, k * 4 + 1, none⟩ = some (.int .i64 mM.temps) ∧ wr.cell? ⟨g, k * 4 + 2, none⟩ = some (.slice la mM.lits.length lc) ∧ wr.cell? ⟨g, k * 4 + 3, none⟩ = some (.slice ca mM.code.length cc) := ⟨h.c2, h.m0, h.m1, h.m2, h.m3⟩
theorem R2S.up {w w1 : World} {q13 g k ucap : Nat} {mM : MethA} {la ca : Option Addr} {lc cc : Nat} (h : R2S w q13 g k ucap mM la ca lc cc) (b : Below w.heap.size w w1) : R2S w1 q13 g k ucap mM la ca lc cc := ⟨cell_up b h.c2, cell_up b h.m0, cell_up b h.m1, cell_up b h.m2, cell_up b h.m3⟩
set_option maxHeartbeats 64000000 in
theorem tells_any (K : CodeK) {w : World} {v : Value} {mR : MethA} {ad : Option Addr} {n cap : Nat} (HA : NumA w ad n) (hn : n ≤ 4611686018427387904) (which what at_ x : Int) (hwh : In64 which) (hw : In64 what) (ha : In64 at_) (hx : In64 x) (hM : MeV w v mR) :
    Calls Try.prog 4 #[.slice ad n cap, .int .i64 which, .int .i64 what, .int .i64 at_, .int .i64 x, v] w fun e w' => e = .returned (.bool true) ∧ Below w.heap.size w w' := by
  obtain ⟨ra, rc, sa, sc, rfl, hrl, hrcd⟩ := hM.ex
  have hmx : 100000 ≤ maxLen := by decide
  have hB0 := Lib.hid (MeB.born hM)
  have hW0 := Lib.hid ((Below.refl w.heap.size w).alloc (Nat.le_refl _) (.cells #[.int .i64 mR.args, .int .i64 mR.temps, .slice ra mR.lits.length rc, .slice sa mR.code.length sc] 37))
  have hz0 : Hid (∀ j, (w.alloc (.cells #[.int .i64 mR.args, .int .i64 mR.temps, .slice ra mR.lits.length rc, .slice sa mR.code.length sc] 37)).frozen? ⟨w.heap.size, j, none⟩ = false) := Lib.hid (fun j => World.frozen?_alloc_new _ _ _ _)
  have hs0 : Hid ((w.alloc (.cells #[.int .i64 mR.args, .int .i64 mR.temps, .slice ra mR.lits.length rc, .slice sa mR.code.length sc] 37)).heap.size = w.heap.size + 1) := Lib.hid (by simp)
  have HA0 := Lib.hid (HA.up hW0.out)
  replace hM := Lib.hid hM
  have hPW := Lib.hid (fun w => within40_c which 0 8 hwh.1 hwh.2 (by omega) (by omega) (by omega) w)
  have hka := within_bd which 0 8 (by omega)
  generalize within which 0 8 = kk at *
  obtain ⟨k, rfl⟩ : ∃ k : Nat, kk = (k : Int) := ⟨kk.toNat, by omega⟩
  have k0 : (0 : Int) ≤ (k : Int) := by omega
  have k1 : (k : Int) < 9 := by omega
  have w1 : IntKind.i64.wrap (((9 : Nat) : Int) - 1) = 8 := by decide
  have w8 : IntKind.i64.wrap 8 = 8 := by decide
  clear hrl hrcd HA
  go_enter Try.func4, Try.ntmps4
  go_upto_region 1 with fail
  generalize w.alloc (.cells #[.int .i64 mR.args, .int .i64 mR.temps, .slice ra mR.lits.length rc, .slice sa mR.code.length sc] 37) = W0 at *
  have PU := Lib.hid (unit_t (tape_tp (cap := cap) HA0.out hn))
  go_wp2_with fail
  with_reducible refine PU.out.mono ?_
  rintro e wu ⟨vU, U, g, ucap, M, rfl, hU, hcg⟩
  have hBu := Lib.hid (unit_bel hcg)
  clear PU hcg HA0
  obtain ⟨na, nc, ka, kc, oa, oc, rfl⟩ := hU.ex
  have hBa := (Below.refl wu.heap.size wu).alloc (Nat.le_refl _) (.cells #[.slice na U.names.length nc, .slice ka U.classes.length kc, .slice (some ⟨g, 0, none⟩) U.methods.length ucap, .slice oa U.objects.length oc, .int .i64 U.main] 27)
  have hUB : Hid (UnC (wu.alloc (.cells #[.slice na U.names.length nc, .slice ka U.classes.length kc, .slice (some ⟨g, 0, none⟩) U.methods.length ucap, .slice oa U.objects.length oc, .int .i64 U.main] 27)) wu.heap.size U na ka (some ⟨g, 0, none⟩) oa nc kc ucap oc) := Lib.hid ⟨by simp, by simp, by simp, by simp, by simp⟩
  have hB1 := Lib.hid ((hB0.out.up hBu.out).up hBa)
  have hW1 := Lib.hid ((hW0.out.trans (hBu.out.mono hW0.out.size)).trans (hBa.mono (by have := hW0.out.size; have := hBu.out.size; omega)))
  have hU1 : Hid (UnT (w.heap.size + 1 + 1) (wu.alloc (.cells #[.slice na U.names.length nc, .slice ka U.classes.length kc, .slice (some ⟨g, 0, none⟩) U.methods.length ucap, .slice oa U.objects.length oc, .int .i64 U.main] 27)) _ U g ucap M) := Lib.hid (by
    have h := hU.up hBa
    have e : (W0.alloc (.cells #[.slice ad n cap, .int .i64 0] 32)).heap.size = w.heap.size + 1 + 1 := by rw [World.size_alloc, hs0.out]
    have e2 : (W0.alloc (.cells #[.slice ad n cap, .int .i64 0] 32)).heap.size + 1 = w.heap.size + 1 + 1 + 1 := by rw [e]
    exact ⟨h.ex, fun G w2 hG hl => h.un G w2 hG (fun k hk => by have := hl k hk; omega), h.mm, fun G w2 hG hl => h.ms G w2 hG (fun k hk => by have := hl k hk; omega), h.ta⟩)
  have hz1 : Hid (∀ j, (wu.alloc (.cells #[.slice na U.names.length nc, .slice ka U.classes.length kc, .slice (some ⟨g, 0, none⟩) U.methods.length ucap, .slice oa U.objects.length oc, .int .i64 U.main] 27)).frozen? ⟨w.heap.size, j, none⟩ = false) := Lib.hid (fun j => by
    have hlt := hB0.out.lt
    have h1 := (hBa.block w.heap.size (Nat.lt_of_lt_of_le hlt hBu.out.size)).trans (hBu.out.block w.heap.size hlt)
    exact (World.frozen?_of_block (a := ⟨w.heap.size, j, none⟩) h1).trans (hz0.out j))
  have hq3 : Hid (w.heap.size < wu.heap.size) := Lib.hid (by have := hB0.out.lt; have := hBu.out.size; omega)
  clear hU hB0 hW0 hz0 hs0 hBu hBa
  go_upto_region 2 with fail
  generalize wu.alloc (.cells #[.slice na U.names.length nc, .slice ka U.classes.length kc, .slice (some ⟨g, 0, none⟩) U.methods.length ucap, .slice oa U.objects.length oc, .int .i64 U.main] 27) = W1 at *
  generalize wu.heap.size = q13 at *
  have hml := hU1.out.ml
  obtain ⟨⟨mM, lv, cv⟩, hMk⟩ : ∃ x, M[k]? = some x := ⟨M[k]'(by omega), by simp⟩
  obtain ⟨m0, m1, m2, m3, _, _, hl, hc⟩ := hU1.out.m hMk
  obtain ⟨la, lc, e1, _⟩ := hl.form
  obtain ⟨ca, cc, e2, _⟩ := hc.form
  simp only at m0 m1 m2 m3 e1 e2
  subst e1
  subst e2
  have hme := hU1.out.me hMk
  clear hl hc
  have u0 := hUB.out.c0
  have u1 := hUB.out.c1
  have u2' := hUB.out.c2
  have hlen9 : U.methods.length = 9 := hml.2
  rw [hlen9] at u2'
  have hC2 := Lib.hid (R2S.mk u2' m0 m1 m2 m3)
  go_cut [14] (fun v14 wx => ∃ q14 : Nat, v14 = .pointer (some ⟨q14, 0, none⟩) ∧ Hid (T2 w wx (.agg #[.int .i64 mR.args, .int .i64 mR.temps, .slice ra mR.lits.length rc, .slice sa mR.code.length sc]) (.agg #[.int .i64 mM.args, .int .i64 mM.temps, .slice la mM.lits.length lc, .slice ca mM.code.length cc]) mR mM (.agg #[.slice na U.names.length nc, .slice ka U.classes.length kc, .slice (some ⟨g, 0, none⟩) U.methods.length ucap, .slice oa U.objects.length oc, .int .i64 U.main]) U g ucap M k q13 q14 na ka oa la ca ra sa nc kc oc lc cc rc sc))
  case first =>
    have hC := Lib.hid (hC2.out.up ((Below.refl _ _).drew))
    clear m0 m1 m2 m3 u0 u1 u2'
    have hBa := (Below.refl W1.heap.size W1).alloc (Nat.le_refl _) (.cells #[.int .i64 mM.args, .int .i64 mM.temps, .slice la mM.lits.length lc, .slice ca mM.code.length cc] 37)
    have hBm := hBa.trans (((Below.refl _ (W1.alloc (.cells #[.int .i64 mM.args, .int .i64 mM.temps, .slice la mM.lits.length lc, .slice ca mM.code.length cc] 37))).drew).mono hBa.size)
    have hT : Hid (T2 w (W1.alloc (.cells #[.int .i64 mM.args, .int .i64 mM.temps, .slice la mM.lits.length lc, .slice ca mM.code.length cc] 37)).drew (.agg #[.int .i64 mR.args, .int .i64 mR.temps, .slice ra mR.lits.length rc, .slice sa mR.code.length sc]) (.agg #[.int .i64 mM.args, .int .i64 mM.temps, .slice la mM.lits.length lc, .slice ca mM.code.length cc]) mR mM (.agg #[.slice na U.names.length nc, .slice ka U.classes.length kc, .slice (some ⟨g, 0, none⟩) U.methods.length ucap, .slice oa U.objects.length oc, .int .i64 U.main]) U g ucap M k q13 W1.heap.size na ka oa la ca ra sa nc kc oc lc cc rc sc) := Lib.hid ⟨hB1.out.up hBm, hU1.out.up hBm, hUB.out.up hBm, ⟨rfl, by simp, by simp, by simp, by simp, hme.up hBm⟩, ⟨_, _, hMk, rfl⟩, hq3.out, hB1.out.lt, fun j => (World.frozen?_of_block (a := ⟨w.heap.size, j, none⟩) (hBm.block _ hB1.out.lt)).trans (hz1.out j), hW1.out.trans (hBm.mono hW1.out.size)⟩
    clear hBa hBm
    refine wp_region_held_drew (S := (fun wr' => wr'.cell? ⟨q13, 2, none⟩ = some (.slice (some ⟨g, 0, none⟩) 9 ucap) ∧ wr'.cell? ⟨g, k * 4, none⟩ = some (.int .i64 mM.args) ∧ wr'.cell? ⟨g, k * 4 + 1, none⟩ = some (.int .i64 mM.temps) ∧ wr'.cell? ⟨g, k * 4 + 2, none⟩ = some (.slice la mM.lits.length lc) ∧ wr'.cell? ⟨g, k * 4 + 3, none⟩ = some (.slice ca mM.code.length cc))) (by kernel_rfl) ?_ (fun hHeld => ?_)
    · (try dsimp only); exact hC.out.cs
    try simp only [Act.put, List.setIfInBounds_toArray, List.set_cons_zero, List.set_cons_succ]
    refine wpAnyH_take (i := 0) (oi := { dst := some 21, op := Op.fieldAddr 27 (Operand.tmp 13) 2, type := 0, pos := "law.go:98", after := #[], guard := none }) (v := ?_) rfl (by kernel_rfl) (by kernel_rfl) (by kernel_rfl) (fun _ _ _ h => h) (Or.inl ⟨by rfl, ?_⟩) (by assumption) ?_
    rotate_left 1
    · intro w hSw; (try dsimp only at hSw); go_simp <;> with_reducible rfl
    try simp only [Act.put, List.setIfInBounds_toArray, List.set_cons_zero, List.set_cons_succ]
    refine wpAnyH_take (i := 1) (oi := { dst := some 22, op := Op.load 24 (Operand.tmp 21), type := 24, pos := "law.go:98", after := #[{ on := 0, ground := Ground.data }], guard := none }) (v := ?_) rfl (by kernel_rfl) (by kernel_rfl) (by kernel_rfl) (fun _ _ _ h => h) (Or.inl ⟨by rfl, ?_⟩) (by assumption) ?_
    rotate_left 1
    · intro w hSw; (try dsimp only at hSw); go_simp <;> with_reducible rfl
    try simp only [Act.put, List.setIfInBounds_toArray, List.set_cons_zero, List.set_cons_succ]
    refine wpAnyH_take (i := 2) (oi := { dst := some 23, op := Op.move (Operand.tmp 1), type := 3, pos := "law.go:98", after := #[], guard := none }) (v := ?_) rfl (by kernel_rfl) (by kernel_rfl) (by kernel_rfl) (fun _ _ _ h => h) (Or.inl ⟨by rfl, ?_⟩) (by assumption) ?_
    rotate_left 1
    · intro w hSw; (try dsimp only at hSw); go_simp <;> with_reducible rfl
    try simp only [Act.put, List.setIfInBounds_toArray, List.set_cons_zero, List.set_cons_succ]
    refine wpAnyH_take (i := 3) (oi := { dst := some 24, op := Op.fieldAddr 27 (Operand.tmp 13) 2, type := 0, pos := "law.go:98", after := #[], guard := none }) (v := ?_) rfl (by kernel_rfl) (by kernel_rfl) (by kernel_rfl) (fun _ _ _ h => h) (Or.inl ⟨by rfl, ?_⟩) (by assumption) ?_
    rotate_left 1
    · intro w hSw; (try dsimp only at hSw); go_simp <;> with_reducible rfl
    try simp only [Act.put, List.setIfInBounds_toArray, List.set_cons_zero, List.set_cons_succ]
    refine wpAnyH_take (i := 4) (oi := { dst := some 25, op := Op.load 24 (Operand.tmp 24), type := 24, pos := "law.go:98", after := #[{ on := 3, ground := Ground.data }], guard := none }) (v := ?_) rfl (by kernel_rfl) (by kernel_rfl) (by kernel_rfl) (fun _ _ _ h => h) (Or.inl ⟨by rfl, ?_⟩) (by assumption) ?_
    rotate_left 1
    · intro w hSw; (try dsimp only at hSw); go_simp <;> with_reducible rfl
    try simp only [Act.put, List.setIfInBounds_toArray, List.set_cons_zero, List.set_cons_succ]
    refine wpAnyH_take (i := 5) (oi := { dst := some 26, op := Op.call { callee := Callee.builtin Builtin.len, args := #[Operand.tmp 25], argTypes := #[24] }, type := 3, pos := "law.go:98", after := #[{ on := 4, ground := Ground.data }], guard := none }) (v := ?_) rfl (by kernel_rfl) (by kernel_rfl) (by kernel_rfl) (fun _ _ _ h => h) (Or.inl ⟨by rfl, ?_⟩) (by assumption) ?_
    rotate_left 1
    · intro w hSw; (try dsimp only at hSw); go_simp <;> with_reducible rfl
    try simp only [Act.put, List.setIfInBounds_toArray, List.set_cons_zero, List.set_cons_succ]
    refine wpAnyH_take (i := 6) (oi := { dst := some 27, op := Op.binOp BinOp.sub 3 (Operand.tmp 26) (Operand.const (Value.int IntKind.i64 1)) 3, type := 3, pos := "law.go:98", after := #[{ on := 5, ground := Ground.data }], guard := none }) (v := ?_) rfl (by kernel_rfl) (by kernel_rfl) (by kernel_rfl) (fun _ _ _ h => h) (Or.inl ⟨by rfl, ?_⟩) (by assumption) ?_
    rotate_left 1
    · intro w hSw; (try dsimp only at hSw); go_simp <;> with_reducible rfl
    try simp only [Act.put, List.setIfInBounds_toArray, List.set_cons_zero, List.set_cons_succ]
    refine wpAnyH_ready (rs := [7, 10]) (by kernel_rfl) (by simp) ?_
    refine AllReadyH.cons (o := { dst := some 28, op := Op.call { callee := Callee.value (Operand.func 13), args := #[Operand.tmp 23, Operand.const (Value.int IntKind.i64 0), Operand.tmp 27], argTypes := #[3, 3, 3] }, type := 3, pos := "law.go:98", after := #[{ on := 2, ground := Ground.data }, { on := 6, ground := Ground.data }], guard := none }) rfl (fun K9 hK => ?_) ?_
    · go_simp
      with_reducible refine (hPW.out _).mono ?_
      rintro e y1 ⟨rfl, hy1⟩
      subst y1
      go_wp2_with fail
      refine hK.out _ _ ?_ ?_
      · (try dsimp only); exact hC.out.cs
      clear hK K9 hHeld; intro hHeld
      try simp only [Act.put, List.setIfInBounds_toArray, List.set_cons_zero, List.set_cons_succ]
      refine wpAnyH_take (i := 8) (oi := { dst := some 29, op := Op.indexAddr 24 (Operand.tmp 22) (Operand.tmp 28), type := 0, pos := "law.go:98", after := #[{ on := 1, ground := Ground.data }, { on := 7, ground := Ground.data }], guard := none }) (v := ?_) rfl (by kernel_rfl) (by kernel_rfl) (by kernel_rfl) (fun _ _ _ h => h) (Or.inl ⟨by rfl, ?_⟩) (by assumption) ?_
      rotate_left 1
      · intro w hSw; (try dsimp only at hSw); go_simp <;> with_reducible rfl
      try simp only [Act.put, List.setIfInBounds_toArray, List.set_cons_zero, List.set_cons_succ]
      refine wpAnyH_take (i := 9) (oi := { dst := some 30, op := Op.load 37 (Operand.tmp 29), type := 37, pos := "law.go:98", after := #[{ on := 8, ground := Ground.data }], guard := none }) (v := ?_) rfl (by kernel_rfl) (by kernel_rfl) (by kernel_rfl) (fun _ _ _ h => h) (Or.inl ⟨by rfl, ?_⟩) (by assumption) ?_
      rotate_left 1
      · intro w hSw; (try dsimp only at hSw); go_simp <;> with_reducible rfl
      try simp only [Act.put, List.setIfInBounds_toArray, List.set_cons_zero, List.set_cons_succ]
      refine wpAnyH_ready (rs := [10]) (by kernel_rfl) (by simp) ?_
      refine AllReadyH.cons (o := { dst := some 14, op := Op.alloc 37, type := 0, pos := "law.go:98", after := #[], guard := none }) rfl (fun K9 hK => ?_) ?_
      · go_simp
        replace hC := Lib.hid (hC.out.up ((Below.refl _ _).alloc (Nat.le_refl _) (.cells #[.int .i64 0, .int .i64 0, .slice none 0 0, .slice none 0 0] 37)))
        refine hK.out _ _ ?_ ?_
        · (try dsimp only); exact hC.out.cs
        clear hK K9 hHeld; intro hHeld
        try simp only [Act.put, List.setIfInBounds_toArray, List.set_cons_zero, List.set_cons_succ]
        refine wpAnyH_ready (rs := [11]) (by kernel_rfl) (by simp) ?_
        refine AllReadyH.cons (o := { dst := none, op := Op.store 37 (Operand.tmp 14) (Operand.tmp 30), type := 0, pos := "law.go:98", after := #[{ on := 10, ground := Ground.data }, { on := 9, ground := Ground.data }, { on := 7, ground := Ground.chain }, { on := 0, ground := Ground.phase }, { on := 1, ground := Ground.phase }, { on := 2, ground := Ground.phase }, { on := 3, ground := Ground.phase }, { on := 4, ground := Ground.phase }, { on := 5, ground := Ground.phase }, { on := 6, ground := Ground.phase }, { on := 7, ground := Ground.phase }, { on := 8, ground := Ground.phase }, { on := 9, ground := Ground.phase }, { on := 10, ground := Ground.phase }], guard := none }) rfl (fun K9 hK => ?_) ?_
        · go_simp
          replace hC := Lib.hid ((hC2.out.up ((Below.refl W1.heap.size W1).alloc (Nat.le_refl _) (.cells #[.int .i64 mM.args, .int .i64 mM.temps, .slice la mM.lits.length lc, .slice ca mM.code.length cc] 37))).up ((Below.refl _ _).drew))
          refine hK.out _ _ ?_ ?_
          · (try dsimp only); exact hC.out.cs
          clear hK K9 hHeld; intro hHeld
          try simp only [Act.put, List.setIfInBounds_toArray, List.set_cons_zero, List.set_cons_succ]
          refine wpAnyH_done (by kernel_rfl) ?_ _
          go_wp2_with fail
          go_meet
          exact ⟨_, rfl, hT⟩
        exact AllReadyH.nil
      exact AllReadyH.nil
    refine AllReadyH.cons (o := { dst := some 14, op := Op.alloc 37, type := 0, pos := "law.go:98", after := #[], guard := none }) rfl (fun K9 hK => ?_) ?_
    · go_simp
      replace hC := Lib.hid (hC.out.up ((Below.refl _ _).alloc (Nat.le_refl _) (.cells #[.int .i64 0, .int .i64 0, .slice none 0 0, .slice none 0 0] 37)))
      refine hK.out _ _ ?_ ?_
      · (try dsimp only); exact hC.out.cs
      clear hK K9 hHeld; intro hHeld
      try simp only [Act.put, List.setIfInBounds_toArray, List.set_cons_zero, List.set_cons_succ]
      refine wpAnyH_ready (rs := [7]) (by kernel_rfl) (by simp) ?_
      refine AllReadyH.cons (o := { dst := some 28, op := Op.call { callee := Callee.value (Operand.func 13), args := #[Operand.tmp 23, Operand.const (Value.int IntKind.i64 0), Operand.tmp 27], argTypes := #[3, 3, 3] }, type := 3, pos := "law.go:98", after := #[{ on := 2, ground := Ground.data }, { on := 6, ground := Ground.data }], guard := none }) rfl (fun K9 hK => ?_) ?_
      · go_simp
        with_reducible refine (hPW.out _).mono ?_
        rintro e y1 ⟨rfl, hy1⟩
        subst y1
        go_wp2_with fail
        refine hK.out _ _ ?_ ?_
        · (try dsimp only); exact hC.out.cs
        clear hK K9 hHeld; intro hHeld
        try simp only [Act.put, List.setIfInBounds_toArray, List.set_cons_zero, List.set_cons_succ]
        refine wpAnyH_take (i := 8) (oi := { dst := some 29, op := Op.indexAddr 24 (Operand.tmp 22) (Operand.tmp 28), type := 0, pos := "law.go:98", after := #[{ on := 1, ground := Ground.data }, { on := 7, ground := Ground.data }], guard := none }) (v := ?_) rfl (by kernel_rfl) (by kernel_rfl) (by kernel_rfl) (fun _ _ _ h => h) (Or.inl ⟨by rfl, ?_⟩) (by assumption) ?_
        rotate_left 1
        · intro w hSw; (try dsimp only at hSw); go_simp <;> with_reducible rfl
        try simp only [Act.put, List.setIfInBounds_toArray, List.set_cons_zero, List.set_cons_succ]
        refine wpAnyH_take (i := 9) (oi := { dst := some 30, op := Op.load 37 (Operand.tmp 29), type := 37, pos := "law.go:98", after := #[{ on := 8, ground := Ground.data }], guard := none }) (v := ?_) rfl (by kernel_rfl) (by kernel_rfl) (by kernel_rfl) (fun _ _ _ h => h) (Or.inl ⟨by rfl, ?_⟩) (by assumption) ?_
        rotate_left 1
        · intro w hSw; (try dsimp only at hSw); go_simp <;> with_reducible rfl
        try simp only [Act.put, List.setIfInBounds_toArray, List.set_cons_zero, List.set_cons_succ]
        refine wpAnyH_ready (rs := [11]) (by kernel_rfl) (by simp) ?_
        refine AllReadyH.cons (o := { dst := none, op := Op.store 37 (Operand.tmp 14) (Operand.tmp 30), type := 0, pos := "law.go:98", after := #[{ on := 10, ground := Ground.data }, { on := 9, ground := Ground.data }, { on := 7, ground := Ground.chain }, { on := 0, ground := Ground.phase }, { on := 1, ground := Ground.phase }, { on := 2, ground := Ground.phase }, { on := 3, ground := Ground.phase }, { on := 4, ground := Ground.phase }, { on := 5, ground := Ground.phase }, { on := 6, ground := Ground.phase }, { on := 7, ground := Ground.phase }, { on := 8, ground := Ground.phase }, { on := 9, ground := Ground.phase }, { on := 10, ground := Ground.phase }], guard := none }) rfl (fun K9 hK => ?_) ?_
        · go_simp
          replace hC := Lib.hid ((hC2.out.up ((Below.refl W1.heap.size W1).alloc (Nat.le_refl _) (.cells #[.int .i64 mM.args, .int .i64 mM.temps, .slice la mM.lits.length lc, .slice ca mM.code.length cc] 37))).up ((Below.refl _ _).drew))
          refine hK.out _ _ ?_ ?_
          · (try dsimp only); exact hC.out.cs
          clear hK K9 hHeld; intro hHeld
          try simp only [Act.put, List.setIfInBounds_toArray, List.set_cons_zero, List.set_cons_succ]
          refine wpAnyH_done (by kernel_rfl) ?_ _
          go_wp2_with fail
          go_meet
          exact ⟨_, rfl, hT⟩
        exact AllReadyH.nil
      exact AllReadyH.nil
    exact AllReadyH.nil
  case rest =>
    obtain ⟨q14, rfl, hT⟩ := hcut
    obtain ⟨W2, hW2⟩ : ∃ W, W = wc := ⟨_, rfl⟩
    subst hW2
    have hlM : Hid (mM.code.length ≤ 300 ∧ mM.lits.length ≤ 20) := Lib.hid (by
      have hk' : U.methods[k]? = some mM := by rw [← hU1.out.mm, List.getElem?_map, hMk]; rfl
      exact meth_len (hU1.out.ta.mts k mM hk'))
    clear hB1 hU1 hUB hz1 hq3 hW1 hme hPW hC2 m0 m1 m2 m3 u0 u1 u2' hml hlen9
    have r3 := hT.out.raw.c3
    have z3 := hT.out.z 3
    obtain ⟨hcapC, hcapL⟩ : mR.code.length ≤ sc ∧ mR.lits.length ≤ rc := by
      obtain ⟨la', lc', ca', cc', e, h1, h2⟩ := hM.out.ex
      cases e
      obtain ⟨_, _, e3, h3, _⟩ := h1.form
      cases e3
      obtain ⟨_, _, e4, h4, _⟩ := h2.form
      cases e4
      exact ⟨h4, h3⟩
    go_upto_region 3 with fail
    go_cut [] (fun wx => ∃ (m1 : MethA) (v1 : Value), m1.lits.length = mR.lits.length ∧ Hid (T2 w wx v1 (.agg #[.int .i64 mM.args, .int .i64 mM.temps, .slice la mM.lits.length lc, .slice ca mM.code.length cc]) m1 mM (.agg #[.slice na U.names.length nc, .slice ka U.classes.length kc, .slice (some ⟨g, 0, none⟩) U.methods.length ucap, .slice oa U.objects.length oc, .int .i64 U.main]) U g ucap M k q13 q14 na ka oa la ca ra sa nc kc oc lc cc rc sc ∧ MeV w v1 m1 ∧ m1.code.length ≤ 140 ∧ m1.code.length ≤ sc))
    case first =>
      by_cases h140 : 140 < mR.code.length
      · have i0 : (0 : Int) ≤ 140 := by omega
        have i1 : (140 : Nat) ≤ sc := by omega
        have c9 : (140 : Int) < (mR.code.length : Int) := by omega
        have hX := Lib.hid ((hT.out.cut hM.out).1 140 (by omega))
        go_wp2
        go_meet
        exact ⟨⟨mR.args, mR.temps, mR.lits, mR.code.take 140⟩, _, rfl, Lib.hid ⟨hX.out.1, hX.out.2, by simp only [List.length_take]; omega, by simp only [List.length_take]; omega⟩⟩
      · have c9 : ¬ (140 : Int) < (mR.code.length : Int) := by omega
        have hX := Lib.hid ((hT.out.cut hM.out).1 mR.code.length (Nat.le_refl _))
        go_wp2
        go_meet
        exact ⟨⟨mR.args, mR.temps, mR.lits, mR.code.take mR.code.length⟩, _, rfl, Lib.hid ⟨hX.out.1, hX.out.2, by simp only [List.length_take]; omega, by simp only [List.length_take]; omega⟩⟩
    case rest =>
    clear r3 z3 hT
    obtain ⟨m1, vR1, hl1, hX⟩ := hcut
    obtain ⟨hT, hM1, hc1, hcs1⟩ := hX.out
    clear hX
    obtain ⟨W3, hW3⟩ : ∃ W, W = wc := ⟨_, rfl⟩
    subst hW3
    have eR := hT.raw.e
    subst eR
    replace hT := Lib.hid hT
    replace hM1 := Lib.hid hM1
    have r2 := hT.out.raw.c2
    have z2 := hT.out.z 2
    rw [← hl1] at hcapL
    clear hl1
    go_upto_region 4 with fail
    go_cut [] (fun wx => ∃ (m2 : MethA) (v2 : Value), Hid (T2 w wx v2 (.agg #[.int .i64 mM.args, .int .i64 mM.temps, .slice la mM.lits.length lc, .slice ca mM.code.length cc]) m2 mM (.agg #[.slice na U.names.length nc, .slice ka U.classes.length kc, .slice (some ⟨g, 0, none⟩) U.methods.length ucap, .slice oa U.objects.length oc, .int .i64 U.main]) U g ucap M k q13 q14 na ka oa la ca ra sa nc kc oc lc cc rc sc ∧ MeV w v2 m2) ∧ m2.code.length ≤ 140 ∧ m2.lits.length ≤ 20 ∧ m2.code.length ≤ sc)
    case first =>
      by_cases h20 : 20 < m1.lits.length
      · have i0 : (0 : Int) ≤ 20 := by omega
        have i1 : (20 : Nat) ≤ rc := by omega
        have c9 : (20 : Int) < (m1.lits.length : Int) := by omega
        have hX := Lib.hid ((hT.out.cut hM1.out).2 20 (by omega))
        go_wp2
        go_meet
        exact ⟨⟨m1.args, m1.temps, m1.lits.take 20, m1.code⟩, _, Lib.hid ⟨hX.out.1, hX.out.2⟩, hc1, by simp only [List.length_take]; omega, hcs1⟩
      · have c9 : ¬ (20 : Int) < (m1.lits.length : Int) := by omega
        have hX := Lib.hid ((hT.out.cut hM1.out).2 m1.lits.length (Nat.le_refl _))
        go_wp2
        go_meet
        exact ⟨⟨m1.args, m1.temps, m1.lits.take m1.lits.length, m1.code⟩, _, Lib.hid ⟨hX.out.1, hX.out.2⟩, hc1, by simp only [List.length_take]; omega, hcs1⟩
    case rest =>
    clear r2 z2 hT hM1 hcapC hcapL hc1 hcs1
    obtain ⟨m2, vR2, hX, hc2, hl2, hcs2⟩ := hcut
    obtain ⟨hT, hM2⟩ := hX.out
    clear hX
    obtain ⟨W4, hW4⟩ : ∃ W, W = wc := ⟨_, rfl⟩
    subst hW4
    have eR := hT.raw.e
    subst eR
    replace hT := Lib.hid hT
    replace hM2 := Lib.hid hM2
    have r0 := hT.out.raw.c0
    have r1 := hT.out.raw.c1
    have r2 := hT.out.raw.c2
    have r3 := hT.out.raw.c3
    obtain ⟨i0, hi0, hz0, hz1, hz2⟩ := info_parts infoB8
    have hh5 : Hid (Below W4.heap.size W4 (W4.alloc (.cells #[.int .i64 m2.args, .int .i64 m2.temps, .slice ra m2.lits.length rc, .slice sa m2.code.length sc] 37))) := Lib.hid ((Below.refl _ _).alloc (Nat.le_refl _) _)
    have hs5 : Hid (W4.heap.size + 1 ≤ (W4.alloc (.cells #[.int .i64 m2.args, .int .i64 m2.temps, .slice ra m2.lits.length rc, .slice sa m2.code.length sc] 37)).heap.size) := Lib.hid (by simp)
    have hw5 : Hid (∀ {w1 w2 : World} {a1 : Option Addr} {n1 c1 : Nat} {o : Obj}, Below (W4.alloc (.cells #[.int .i64 m2.args, .int .i64 m2.temps, .slice ra m2.lits.length rc, .slice sa m2.code.length sc] 37)).heap.size (W4.alloc (.cells #[.int .i64 m2.args, .int .i64 m2.temps, .slice ra m2.lits.length rc, .slice sa m2.code.length sc] 37)) w1 → (∀ k, (Value.slice a1 n1 c1).ownBlock = some k → (W4.alloc (.cells #[.int .i64 m2.args, .int .i64 m2.temps, .slice ra m2.lits.length rc, .slice sa m2.code.length sc] 37)).heap.size ≤ k) → (w1.alloc o).grownBy w2 (Value.slice a1 n1 c1).ownBlock → Below (W4.alloc (.cells #[.int .i64 m2.args, .int .i64 m2.temps, .slice ra m2.lits.length rc, .slice sa m2.code.length sc] 37)).heap.size (W4.alloc (.cells #[.int .i64 m2.args, .int .i64 m2.temps, .slice ra m2.lits.length rc, .slice sa m2.code.length sc] 37)) w2) := Lib.hid (fun h1 h2 h3 => (h1.trans (((Below.refl _ _).alloc (Nat.le_refl _) _).mono h1.size)).grown h3 (by have := h1.size; simp only [World.size_alloc] at *; omega) h2)
    have hborn := Lib.hid (fun (w2 : World) (cv' : Value) (C : List Int) => Fw.born (wt := W4) (w2 := w2) (a := m2.args) (t := m2.temps) (lv := .slice ra m2.lits.length rc) (cv := .slice sa m2.code.length sc) (cv' := cv') (C := C))
    go_upto_region 6 with fail
    have hT5 := Lib.hid (hT.out.up hh5.out)
    obtain ⟨d, hd⟩ : ∃ d, d = m2.code.length / 2 := ⟨_, rfl⟩
    obtain ⟨j2, hj2⟩ : ∃ j, j = 2 * d := ⟨_, rfl⟩
    have q1 : Int.tdiv (m2.code.length : Int) 2 = (d : Int) := by rw [hd]; exact (Int.ofNat_tdiv _ 2).symm
    have q2 : IntKind.i64.wrap ((d : Int) * 2) = (j2 : Int) := by rw [IntKind.wrap_i64]; omega
    have q3 : IntKind.i64.wrap (d : Int) = (d : Int) := by rw [IntKind.wrap_i64]; omega
    have hj2l : j2 ≤ m2.code.length := by omega
    have hj140 : j2 ≤ 140 := by omega
    have hjs : j2 ≤ sc := by omega
    obtain ⟨C1, hC1e⟩ : ∃ C, C = m2.code.take j2 := ⟨_, rfl⟩
    have hC1 : Hid (C1.length = j2) := Lib.hid (by rw [hC1e, List.length_take]; omega)
    have hby : Hid (ByV w (.slice sa j2 sc) C1 ∧ PrV w (.slice ra m2.lits.length rc) m2.lits) := by
      obtain ⟨la', lc', ca', cc', e, h1, h2⟩ := hM2.out.ex
      cases e
      exact Lib.hid ⟨by rw [hC1e]; exact h2.take j2 hj2l, h1⟩
    have hC8 : Hid (∀ x ∈ C1 ++ [19, 0], 0 ≤ x ∧ x ≤ 255) := Lib.hid (fun x hx => by
      rcases List.mem_append.1 hx with hx | hx
      · exact hby.out.1.b8 x hx
      · simp only [List.mem_cons, List.not_mem_nil, or_false] at hx
        rcases hx with rfl | rfl <;> omega)
    clear hC1e hj2 hd r0 r1 r2 r3
    generalize W4.alloc (.cells #[.int .i64 m2.args, .int .i64 m2.temps, .slice ra m2.lits.length rc, .slice sa m2.code.length sc] 37) = W5 at *
    have hrc : Hid (Rd (W5.alloc (.cells #[] 5)) (.slice sa j2 sc) j2 (bys C1)) := by
      have := (hby.out.1.rd.up hT5.out.bel).up ((Below.refl W5.heap.size W5).alloc (Nat.le_refl _) (.cells #[] 5))
      rw [hC1.out] at this
      exact Lib.hid this
    have r3 : (W5.alloc (.cells #[] 5)).cell? ⟨w.heap.size, 3, none⟩ = some (.slice sa m2.code.length sc) := (hT5.out.up ((Below.refl _ _).alloc (Nat.le_refl _) _)).raw.c3
    go_upto_region 7 with (first | (at_builtin; refine wpList_app_any rfl (.tmp 48) (.tmp 56) 35 rfl (W4.heap.size + 1) 5 i0 (.int .u8 0) 1 1 Try.underlying35 hi0 hz0 hz1 hz2 rfl (by decide) (.slice (some ⟨W5.heap.size, 0, none⟩) 0 0) (.slice sa j2 sc) 0 j2 [] (bys C1) (by simp [Act.eval]) (by simp [Act.eval]) (made_none W5 5 1 _ hs5.out) hrc.out (by rw [bys_len]; have := hC1.out; omega) (bys_one _) (by omega) (by omega) (by have := hs5.out; simp only [World.size_alloc]; omega) ?_; intro v1 w1 hown1 hgrow1 hat1; rw [Nat.zero_add, List.nil_append] at hown1; obtain ⟨a1, c1, rfl⟩ := row_shape hown1; have hb1 := Lib.hid (grow_new hgrow1); have hn1 := Lib.hid (new_at hat1); replace hown1 := Lib.hid hown1; clear hgrow1 hat1) | (at_builtin; refine wpList_app_any rfl (.tmp 57) (.tmp 58) 35 rfl (W4.heap.size + 1) 5 i0 (.int .u8 0) 1 1 Try.underlying35 hi0 hz0 hz1 hz2 rfl (by decide) (.slice a1 j2 c1) (.slice (some ⟨w1.heap.size, 0, none⟩) 2 2) j2 2 (bys C1) (bys [19, 0]) (by simp [Act.eval]) (by simp [Act.eval]) (row_bel hown1.out ((Below.refl _ _).alloc (Nat.le_refl _) _)) (Or.inr ⟨_, _, rfl, rd_two w1⟩) rfl (bys_one _) (by omega) (by omega) (by have := hs5.out; have := hb1.out.size; simp only [World.size_alloc]; omega) ?_; intro v2 w2 hown2 hgrow2 hat2; obtain ⟨a2, c2, rfl⟩ := row_shape hown2; obtain ⟨f3, fz, hF⟩ := hborn.out _ _ (C1 ++ [19, 0]) (hw5.out hb1.out hn1.out hgrow2) (by rw [List.length_append, bys_app]; have := hC1.out; rw [this]; exact hown2) (hC8.out); replace hF := Lib.hid hF; clear hown2 hgrow2 hat2))
    generalize w2.setCell ⟨W4.heap.size, 3, none⟩ (.slice a2 (j2 + 2) c2) = W6 at *
    obtain ⟨g2, rfl⟩ := row_some (by have := hF.out.c; rw [List.length_append, hC1.out] at this; exact this) (by omega)
    obtain ⟨nf, hnf⟩ : ∃ n, n = j2 + 2 := ⟨_, rfl⟩
    rw [← hnf] at hF ⊢
    have hnf142 : nf ≤ 142 := by omega
    have hst : Hid (∃ C : List Int, C.length = nf ∧ Fw W4 W6 m2.args m2.temps (.slice ra m2.lits.length rc) (.slice (some ⟨g2, 0, none⟩) nf c2) C) := Lib.hid ⟨C1 ++ [19, 0], by rw [List.length_append, hC1.out, hnf]; rfl, hF.out⟩
    clear f3 fz hF hC8 hb1 hn1 hown1 hborn hrc r3 hT5 hw5 hs5 hh5 hC1 q1 q2 q3 hj2l hj140 hjs hnf
    have x3 : W6.cell? ⟨W4.heap.size, 3, none⟩ = some (.slice (some ⟨g2, 0, none⟩) nf c2) := by
      obtain ⟨C, _, h⟩ := hst.out
      exact h.b3
    go_wp2
    clear x3
    go_loopw [64] (fun i64 wr => ∃ i : Nat, i ≤ nf ∧ i64 = .int .i64 i ∧ Hid (∃ C : List Int, C.length = nf ∧ Fw W4 wr m2.args m2.temps (.slice ra m2.lits.length rc) (.slice (some ⟨g2, 0, none⟩) nf c2) C)) (fun i64 _ => nf - (intOf i64).toNat)
    case atStart => exact ⟨0, by omega, rfl, hst⟩
    case round =>
      clear hst
      obtain ⟨i, hi, rfl, hst⟩ := hrel
      obtain ⟨C, hCn, hF⟩ := hst.out
      clear hst
      replace hF := Lib.hid hF
      replace hCn := Lib.hid hCn
      by_cases hlt : i < nf
      · have d1 : decide ((i : Int) < (nf : Int)) = true := by simp; omega
        have i0' : (0 : Int) ≤ (i : Int) := by omega
        have i1' : (i : Int) < (nf : Int) := by omega
        have x3 := hF.out.b3
        obtain ⟨b, hb⟩ : ∃ b, C[i]? = some b := ⟨C[i]'(by have := hCn.out; omega), by simp⟩
        have hbb := hF.out.c8 b (List.mem_of_getElem? hb)
        have hcr := hF.out.c
        rw [hCn.out] at hcr
        have xb : wr.cell? ⟨g2, i, none⟩ = some (.int .u8 b) := (hcr.cellAt i (by omega)).trans (by simp [bys, hb])
        have hy : 0 ≤ b.tmod 26 ∧ b.tmod 26 ≤ 25 := by
          have h1 := Int.tmod_lt_of_pos b (show (0 : Int) < 26 by omega)
          have h2 := Int.tmod_nonneg 26 hbb.1
          omega
        have wy : IntKind.u8.wrap (b.tmod 26) = b.tmod 26 := by
          have e : IntKind.u8.wrap (b.tmod 26) = (b.tmod 26) % 256 := rfl
          rw [e]; omega
        clear hcr
        go_upto_region 10 with fail
        refine wp_region_still_tail 10 (by kernel_rfl) (by kernel_rfl) ?_
        simp only [List.take_succ_cons, List.take_zero, List.drop_succ_cons, List.drop_zero]
        iterate 10 still_step
        refine wpStill_nil ?_
        change wpList _ _ _ _ _ wr.drew
        generalize b.tmod 26 = y at *
        have hFd := Lib.hid hF.out.drew
        have hcd := hFd.out.c
        rw [hCn.out] at hcd
        have xb' : wr.drew.cell? ⟨g2, i, none⟩ = some (.int .u8 b) := (hcd.cellAt i (by omega)).trans (by simp [bys, hb])
        have zb := hcd.frozenAt i
        have hN := Lib.hid (hFd.out.byte hCn.out.symm i y ⟨hy.1, by omega⟩)
        clear hcd hFd hF x3 xb hb
        generalize wr.drew = wd at *
        go_wp2
        go_roundw
        case rel => exact ⟨i + 1, by omega, by go_num, Lib.hid ⟨_, by rw [List.length_set]; exact hCn.out, hN.out⟩⟩
        case measure => simp [intOf]; omega
      · have d1 : decide ((i : Int) < (nf : Int)) = false := by simp; omega
        have d2 : ¬ (i : Int) < (nf : Int) := by omega
        have hlt4 := hT.out.raw.lt
        have hTr := Lib.hid (hT.out.up hF.out.bel)
        have r0 := hTr.out.raw.c0
        have r1 := hTr.out.raw.c1
        have b0 := hF.out.b0
        have b1 := hF.out.b1
        have z0 := hF.out.z 0
        have z1 := hF.out.z 1
        have ne1 : w.heap.size ≠ W4.heap.size := by omega
        have ne2 : W4.heap.size ≠ w.heap.size := by omega
        obtain ⟨p, hp3, hpb⟩ : ∃ p, bits .and .i64 m2.args 3 = p ∧ In64 p := ⟨_, rfl, by rw [mask3]; exact in64_of (by omega) (by omega)⟩
        obtain ⟨pt, hpt3, hptb⟩ : ∃ p, bits .and .i64 m2.temps 3 = p ∧ In64 p := ⟨_, rfl, by rw [mask3]; exact in64_of (by omega) (by omega)⟩
        have hF2 := Lib.hid (hF.out.set01 p pt).drew
        go_upto_region 12 with fail
        go_cut [] (fun wx => Hid (Fw W4 wx p pt (.slice ra m2.lits.length rc) (.slice (some ⟨g2, 0, none⟩) nf c2) C))
        case first =>
          go_region
          all_goals go_wp2
          all_goals go_meet
          all_goals exact hF2
        case rest =>
        clear hF2 hp3 hpt3 ne1 ne2 z0 z1 b0 b1 r0 r1 hTr hF hlt4 d1 d2
        replace hF := hcut.out
        clear hcut
        have hT9 := hT.out.up hF.bel
        have hCl := hCn.out
        subst hCl
        have hpf : PrV wc (.slice ra m2.lits.length rc) m2.lits ∧ ByV wc (.slice (some ⟨g2, 0, none⟩) C.length c2) C := ⟨hby.out.2.up hT9.bel, ByV.own hF.c hF.c8⟩
        have hS := Lib.hid ((show T9 w wc (.agg #[.int .i64 m2.args, .int .i64 m2.temps, .slice ra m2.lits.length rc, .slice sa m2.code.length sc]) (.agg #[.int .i64 mM.args, .int .i64 mM.temps, .slice la mM.lits.length lc, .slice ca mM.code.length cc]) (.agg #[.int .i64 p, .int .i64 pt, .slice ra m2.lits.length rc, .slice (some ⟨g2, 0, none⟩) C.length c2]) (.agg #[.slice na U.names.length nc, .slice ka U.classes.length kc, .slice (some ⟨g, 0, none⟩) U.methods.length ucap, .slice oa U.objects.length oc, .int .i64 U.main]) m2 mM ⟨p, pt, m2.lits, C⟩ U q13 q14 W4.heap.size ra sa la ca ra (some ⟨g2, 0, none⟩) na ka oa rc sc lc cc rc c2 nc kc oc g ucap from ⟨hT9.raw, hT9.met, ⟨rfl, hF.b0, hF.b1, hF.b2, hF.b3, MeV.of hpf.1 hpf.2 hpb hptb⟩, hT9.box, hT9.un.k, hT9.bel⟩).up ((Below.refl _ _).drew))
        clear hT9 hF hpf
        have h2 : In64 2 := in64_of (by omega) (by omega)
        obtain ⟨p63, hp63, h63⟩ : ∃ p, bits .and .i64 at_ 63 = p ∧ In64 p := ⟨_, rfl, by rw [mask63]; exact in64_of (by omega) (by omega)⟩
        obtain ⟨p31, hp31, h31⟩ : ∃ p, bits .and .i64 at_ 31 = p ∧ In64 p := ⟨_, rfl, by rw [mask31]; exact in64_of (by omega) (by omega)⟩
        obtain ⟨x31, hpx31, hx31⟩ : ∃ p, bits .and .i64 x 31 = p ∧ In64 p := ⟨_, rfl, by rw [mask31]; exact in64_of (by omega) (by omega)⟩
        obtain ⟨hcM, hlM0⟩ := hlM.out
        have hlM1 : mM.lits.length ≤ 100 := by omega
        obtain ⟨dM, hdM, hrM⟩ := rowM
        obtain ⟨dU, hdU, hrU⟩ := rowU
        replace hdM := Lib.hid hdM
        replace hrM := Lib.hid hrM
        replace hdU := Lib.hid hdU
        replace hrU := Lib.hid hrU
        clear hT hby hM hM2 hCn hnf142 hi
        go_upto_region 13 with fail
        refine wp_region_held_drew (S := (fun wr' => T9 w wr' (.agg #[.int .i64 m2.args, .int .i64 m2.temps, .slice ra m2.lits.length rc, .slice sa m2.code.length sc]) (.agg #[.int .i64 mM.args, .int .i64 mM.temps, .slice la mM.lits.length lc, .slice ca mM.code.length cc]) (.agg #[.int .i64 p, .int .i64 pt, .slice ra m2.lits.length rc, .slice (some ⟨g2, 0, none⟩) C.length c2]) (.agg #[.slice na U.names.length nc, .slice ka U.classes.length kc, .slice (some ⟨g, 0, none⟩) U.methods.length ucap, .slice oa U.objects.length oc, .int .i64 U.main]) m2 mM ⟨p, pt, m2.lits, C⟩ U q13 q14 W4.heap.size ra sa la ca ra (some ⟨g2, 0, none⟩) na ka oa rc sc lc cc rc c2 nc kc oc g ucap)) (by kernel_rfl) ?_ (fun hHeld => ?_)
        · (try dsimp only); exact hS.out
        try simp only [Act.put, List.setIfInBounds_toArray, List.set_cons_zero, List.set_cons_succ]
        refine wpAnyH_take (i := 0) (oi := { dst := some 86, op := Op.load 37 (Operand.tmp 14), type := 37, pos := "law.go:107", after := #[], guard := none }) (v := (.agg #[.int .i64 mM.args, .int .i64 mM.temps, .slice la mM.lits.length lc, .slice ca mM.code.length cc])) rfl (by kernel_rfl) (by kernel_rfl) (by kernel_rfl) (fun _ _ _ h => h) (yieldsIf_load_mid (by rfl) _ _ rfl q14 0 rfl [.int .i64 mM.args, .int .i64 mM.temps, .slice la mM.lits.length lc, .slice ca mM.code.length cc] dM (fun w hw => hw.bM.range) hdM.out hrM.out infoM) (by assumption) ?_
        try simp only [Act.put, List.setIfInBounds_toArray, List.set_cons_zero, List.set_cons_succ]
        refine wpAnyH_take (i := 1) (oi := { dst := some 87, op := Op.load 27 (Operand.tmp 13), type := 27, pos := "law.go:107", after := #[], guard := none }) (v := (.agg #[.slice na U.names.length nc, .slice ka U.classes.length kc, .slice (some ⟨g, 0, none⟩) U.methods.length ucap, .slice oa U.objects.length oc, .int .i64 U.main])) rfl (by kernel_rfl) (by kernel_rfl) (by kernel_rfl) (fun _ _ _ h => h) (yieldsIf_load_mid (by rfl) _ _ rfl q13 0 rfl [.slice na U.names.length nc, .slice ka U.classes.length kc, .slice (some ⟨g, 0, none⟩) U.methods.length ucap, .slice oa U.objects.length oc, .int .i64 U.main] dU (fun w hw => hw.bU.range) hdU.out hrU.out infoU) (by assumption) ?_
        try simp only [Act.put, List.setIfInBounds_toArray, List.set_cons_zero, List.set_cons_succ]
        refine wpAnyH_take (i := 2) (oi := { dst := some 88, op := Op.move (Operand.tmp 3), type := 3, pos := "law.go:107", after := #[], guard := none }) (v := ?_) rfl (by kernel_rfl) (by kernel_rfl) (by kernel_rfl) (fun _ _ _ h => h) (Or.inl ⟨by rfl, ?_⟩) (by assumption) ?_
        rotate_left 1
        · intro w hSw; (try dsimp only at hSw); go_simp <;> with_reducible rfl
        try simp only [Act.put, List.setIfInBounds_toArray, List.set_cons_zero, List.set_cons_succ]
        refine wpAnyH_take (i := 3) (oi := { dst := some 89, op := Op.binOp BinOp.and 3 (Operand.tmp 88) (Operand.const (Value.int IntKind.i64 63)) 3, type := 3, pos := "law.go:107", after := #[{ on := 2, ground := Ground.data }], guard := none }) (v := ?_) rfl (by kernel_rfl) (by kernel_rfl) (by kernel_rfl) (fun _ _ _ h => h) (Or.inl ⟨by rfl, ?_⟩) (by assumption) ?_
        rotate_left 1
        · intro w hSw; (try dsimp only at hSw); go_simp <;> with_reducible rfl
        try simp only [Act.put, List.setIfInBounds_toArray, List.set_cons_zero, List.set_cons_succ]
        refine wpAnyH_ready (rs := [4]) (by kernel_rfl) (by simp) ?_
        refine AllReadyH.cons (o := { dst := some 90, op := Op.call { callee := Callee.value (Operand.func 10), args := #[Operand.tmp 86, Operand.tmp 87, Operand.tmp 89], argTypes := #[37, 27, 3] }, type := 4, pos := "law.go:107", after := #[{ on := 0, ground := Ground.data }, { on := 1, ground := Ground.data }, { on := 3, ground := Ground.data }], guard := none }) rfl (fun K9 hK => ?_) ?_
        · go_simp
          with_reducible refine (same_c K hS.out.bM.me hS.out.uk p63 h63).mono ?_
          rintro e y1 ⟨rfl, hb⟩
          replace hS := Lib.hid (hS.out.up hb)
          clear hb
          go_wp2_with fail
          refine hK.out _ _ ?_ ?_
          · (try dsimp only); exact hS.out
          clear hK K9 hHeld; intro hHeld
          try simp only [Act.put, List.setIfInBounds_toArray, List.set_cons_zero, List.set_cons_succ]
          refine wpAnyH_take (i := 5) (oi := { dst := some 91, op := Op.move (Operand.tmp 90), type := 4, pos := "law.go:107", after := #[{ on := 4, ground := Ground.data }, { on := 4, ground := Ground.chain }], guard := none }) (v := ?_) rfl (by kernel_rfl) (by kernel_rfl) (by kernel_rfl) (fun _ _ _ h => h) (Or.inl ⟨by rfl, ?_⟩) (by assumption) ?_
          rotate_left 1
          · intro w hSw; (try dsimp only at hSw); go_simp <;> with_reducible rfl
          try simp only [Act.put, List.setIfInBounds_toArray, List.set_cons_zero, List.set_cons_succ]
          refine wpAnyH_take (i := 6) (oi := { dst := some 92, op := Op.load 37 (Operand.tmp 14), type := 37, pos := "law.go:107", after := #[{ on := 5, ground := Ground.guard }], guard := some (5, true) }) (v := (.agg #[.int .i64 mM.args, .int .i64 mM.temps, .slice la mM.lits.length lc, .slice ca mM.code.length cc])) rfl (by kernel_rfl) (by kernel_rfl) (by kernel_rfl) (fun _ _ _ h => h) (yieldsIf_load_mid (by rfl) _ _ rfl q14 0 rfl [.int .i64 mM.args, .int .i64 mM.temps, .slice la mM.lits.length lc, .slice ca mM.code.length cc] dM (fun w hw => hw.bM.range) hdM.out hrM.out infoM) (by assumption) ?_
          try simp only [Act.put, List.setIfInBounds_toArray, List.set_cons_zero, List.set_cons_succ]
          refine wpAnyH_take (i := 11) (oi := { dst := some 97, op := Op.load 27 (Operand.tmp 13), type := 27, pos := "law.go:107", after := #[{ on := 5, ground := Ground.guard }], guard := some (5, true) }) (v := (.agg #[.slice na U.names.length nc, .slice ka U.classes.length kc, .slice (some ⟨g, 0, none⟩) U.methods.length ucap, .slice oa U.objects.length oc, .int .i64 U.main])) rfl (by kernel_rfl) (by kernel_rfl) (by kernel_rfl) (fun _ _ _ h => h) (yieldsIf_load_mid (by rfl) _ _ rfl q13 0 rfl [.slice na U.names.length nc, .slice ka U.classes.length kc, .slice (some ⟨g, 0, none⟩) U.methods.length ucap, .slice oa U.objects.length oc, .int .i64 U.main] dU (fun w hw => hw.bU.range) hdU.out hrU.out infoU) (by assumption) ?_
          try simp only [Act.put, List.setIfInBounds_toArray, List.set_cons_zero, List.set_cons_succ]
          refine wpAnyH_take (i := 7) (oi := { dst := some 93, op := Op.move (Operand.tmp 2), type := 3, pos := "law.go:107", after := #[{ on := 5, ground := Ground.guard }], guard := some (5, true) }) (v := ?_) rfl (by kernel_rfl) (by kernel_rfl) (by kernel_rfl) (fun _ _ _ h => h) (Or.inl ⟨by rfl, ?_⟩) (by assumption) ?_
          rotate_left 1
          · intro w hSw; (try dsimp only at hSw); go_simp <;> with_reducible rfl
          try simp only [Act.put, List.setIfInBounds_toArray, List.set_cons_zero, List.set_cons_succ]
          refine wpAnyH_take (i := 8) (oi := { dst := some 94, op := Op.move (Operand.tmp 3), type := 3, pos := "law.go:107", after := #[{ on := 5, ground := Ground.guard }], guard := some (5, true) }) (v := ?_) rfl (by kernel_rfl) (by kernel_rfl) (by kernel_rfl) (fun _ _ _ h => h) (Or.inl ⟨by rfl, ?_⟩) (by assumption) ?_
          rotate_left 1
          · intro w hSw; (try dsimp only at hSw); go_simp <;> with_reducible rfl
          try simp only [Act.put, List.setIfInBounds_toArray, List.set_cons_zero, List.set_cons_succ]
          refine wpAnyH_take (i := 9) (oi := { dst := some 95, op := Op.move (Operand.tmp 4), type := 3, pos := "law.go:107", after := #[{ on := 5, ground := Ground.guard }], guard := some (5, true) }) (v := ?_) rfl (by kernel_rfl) (by kernel_rfl) (by kernel_rfl) (fun _ _ _ h => h) (Or.inl ⟨by rfl, ?_⟩) (by assumption) ?_
          rotate_left 1
          · intro w hSw; (try dsimp only at hSw); go_simp <;> with_reducible rfl
          try simp only [Act.put, List.setIfInBounds_toArray, List.set_cons_zero, List.set_cons_succ]
          refine wpAnyH_take (i := 12) (oi := { dst := some 98, op := Op.move (Operand.tmp 4), type := 3, pos := "law.go:107", after := #[{ on := 5, ground := Ground.guard }], guard := some (5, true) }) (v := ?_) rfl (by kernel_rfl) (by kernel_rfl) (by kernel_rfl) (fun _ _ _ h => h) (Or.inl ⟨by rfl, ?_⟩) (by assumption) ?_
          rotate_left 1
          · intro w hSw; (try dsimp only at hSw); go_simp <;> with_reducible rfl
          try simp only [Act.put, List.setIfInBounds_toArray, List.set_cons_zero, List.set_cons_succ]
          refine wpAnyH_ready (rs := [10]) (by kernel_rfl) (by simp) ?_
          refine AllReadyH.cons (o := { dst := some 96, op := Op.call { callee := Callee.value (Operand.func 11), args := #[Operand.tmp 92, Operand.tmp 93, Operand.tmp 94, Operand.tmp 95], argTypes := #[37, 3, 3, 3] }, type := 37, pos := "law.go:107", after := #[{ on := 6, ground := Ground.data }, { on := 7, ground := Ground.data }, { on := 8, ground := Ground.data }, { on := 9, ground := Ground.data }, { on := 5, ground := Ground.chain }, { on := 5, ground := Ground.guard }], guard := some (5, true) }) rfl (fun K9 hK => ?_) ?_
          · go_simp
            with_reducible refine (odd_c hS.out.bM.me hcM hlM1 what at_ x hw ha hx).mono ?_
            rintro e y2 ⟨v5, rfl, m5, hm5, hc5, hl5, hb⟩
            replace hS := Lib.hid (hS.out.up hb)
            replace hm5 := Lib.hid hm5
            replace hl5 : m5.lits.length ≤ 100 := by omega
            clear hb
            go_wp2_with fail
            refine hK.out _ _ ?_ ?_
            · (try dsimp only); exact hS.out
            clear hK K9 hHeld; intro hHeld
            try simp only [Act.put, List.setIfInBounds_toArray, List.set_cons_zero, List.set_cons_succ]
            refine wpAnyH_ready (rs := [13]) (by kernel_rfl) (by simp) ?_
            refine AllReadyH.cons (o := { dst := some 99, op := Op.call { callee := Callee.value (Operand.func 10), args := #[Operand.tmp 96, Operand.tmp 97, Operand.tmp 98], argTypes := #[37, 27, 3] }, type := 4, pos := "law.go:107", after := #[{ on := 10, ground := Ground.data }, { on := 11, ground := Ground.data }, { on := 12, ground := Ground.data }, { on := 10, ground := Ground.chain }, { on := 5, ground := Ground.guard }], guard := some (5, true) }) rfl (fun K9 hK => ?_) ?_
            · go_simp
              with_reducible refine (same_c K hm5.out hS.out.uk x hx).mono ?_
              rintro e y3 ⟨rfl, hb⟩
              replace hS := Lib.hid (hS.out.up hb)
              clear hb
              go_wp2_with fail
              refine hK.out _ _ ?_ ?_
              · (try dsimp only); exact hS.out
              clear hK K9 hHeld; intro hHeld
              try simp only [Act.put, List.setIfInBounds_toArray, List.set_cons_zero, List.set_cons_succ]
              refine wpAnyH_take (i := 14) (oi := { dst := some 100, op := Op.pick (Operand.tmp 91) (Operand.tmp 99) (Operand.const (Value.bool false)), type := 4, pos := "law.go:107", after := #[{ on := 5, ground := Ground.data }, { on := 13, ground := Ground.data }], guard := none }) (v := ?_) rfl (by kernel_rfl) (by kernel_rfl) (by kernel_rfl) (fun _ _ _ h => h) (Or.inl ⟨by rfl, ?_⟩) (by assumption) ?_
              rotate_left 1
              · intro w hSw; (try dsimp only at hSw); go_simp <;> with_reducible rfl
              try simp only [Act.put, List.setIfInBounds_toArray, List.set_cons_zero, List.set_cons_succ]
              refine wpAnyH_take (i := 15) (oi := { dst := some 101, op := Op.move (Operand.tmp 100), type := 4, pos := "law.go:107", after := #[{ on := 14, ground := Ground.data }, { on := 13, ground := Ground.chain }], guard := none }) (v := ?_) rfl (by kernel_rfl) (by kernel_rfl) (by kernel_rfl) (fun _ _ _ h => h) (Or.inl ⟨by rfl, ?_⟩) (by assumption) ?_
              rotate_left 1
              · intro w hSw; (try dsimp only at hSw); go_simp <;> with_reducible rfl
              try simp only [Act.put, List.setIfInBounds_toArray, List.set_cons_zero, List.set_cons_succ]
              refine wpAnyH_take (i := 16) (oi := { dst := some 102, op := Op.load 37 (Operand.tmp 14), type := 37, pos := "law.go:107", after := #[{ on := 15, ground := Ground.guard }], guard := some (15, true) }) (v := (.agg #[.int .i64 mM.args, .int .i64 mM.temps, .slice la mM.lits.length lc, .slice ca mM.code.length cc])) rfl (by kernel_rfl) (by kernel_rfl) (by kernel_rfl) (fun _ _ _ h => h) (yieldsIf_load_mid (by rfl) _ _ rfl q14 0 rfl [.int .i64 mM.args, .int .i64 mM.temps, .slice la mM.lits.length lc, .slice ca mM.code.length cc] dM (fun w hw => hw.bM.range) hdM.out hrM.out infoM) (by assumption) ?_
              try simp only [Act.put, List.setIfInBounds_toArray, List.set_cons_zero, List.set_cons_succ]
              refine wpAnyH_take (i := 22) (oi := { dst := some 108, op := Op.load 27 (Operand.tmp 13), type := 27, pos := "law.go:107", after := #[{ on := 15, ground := Ground.guard }], guard := some (15, true) }) (v := (.agg #[.slice na U.names.length nc, .slice ka U.classes.length kc, .slice (some ⟨g, 0, none⟩) U.methods.length ucap, .slice oa U.objects.length oc, .int .i64 U.main])) rfl (by kernel_rfl) (by kernel_rfl) (by kernel_rfl) (fun _ _ _ h => h) (yieldsIf_load_mid (by rfl) _ _ rfl q13 0 rfl [.slice na U.names.length nc, .slice ka U.classes.length kc, .slice (some ⟨g, 0, none⟩) U.methods.length ucap, .slice oa U.objects.length oc, .int .i64 U.main] dU (fun w hw => hw.bU.range) hdU.out hrU.out infoU) (by assumption) ?_
              try simp only [Act.put, List.setIfInBounds_toArray, List.set_cons_zero, List.set_cons_succ]
              refine wpAnyH_take (i := 17) (oi := { dst := some 103, op := Op.move (Operand.tmp 2), type := 3, pos := "law.go:107", after := #[{ on := 15, ground := Ground.guard }], guard := some (15, true) }) (v := ?_) rfl (by kernel_rfl) (by kernel_rfl) (by kernel_rfl) (fun _ _ _ h => h) (Or.inl ⟨by rfl, ?_⟩) (by assumption) ?_
              rotate_left 1
              · intro w hSw; (try dsimp only at hSw); go_simp <;> with_reducible rfl
              try simp only [Act.put, List.setIfInBounds_toArray, List.set_cons_zero, List.set_cons_succ]
              refine wpAnyH_take (i := 18) (oi := { dst := some 104, op := Op.move (Operand.tmp 3), type := 3, pos := "law.go:107", after := #[{ on := 15, ground := Ground.guard }], guard := some (15, true) }) (v := ?_) rfl (by kernel_rfl) (by kernel_rfl) (by kernel_rfl) (fun _ _ _ h => h) (Or.inl ⟨by rfl, ?_⟩) (by assumption) ?_
              rotate_left 1
              · intro w hSw; (try dsimp only at hSw); go_simp <;> with_reducible rfl
              try simp only [Act.put, List.setIfInBounds_toArray, List.set_cons_zero, List.set_cons_succ]
              refine wpAnyH_take (i := 19) (oi := { dst := some 105, op := Op.move (Operand.tmp 4), type := 3, pos := "law.go:107", after := #[{ on := 15, ground := Ground.guard }], guard := some (15, true) }) (v := ?_) rfl (by kernel_rfl) (by kernel_rfl) (by kernel_rfl) (fun _ _ _ h => h) (Or.inl ⟨by rfl, ?_⟩) (by assumption) ?_
              rotate_left 1
              · intro w hSw; (try dsimp only at hSw); go_simp <;> with_reducible rfl
              try simp only [Act.put, List.setIfInBounds_toArray, List.set_cons_zero, List.set_cons_succ]
              refine wpAnyH_take (i := 20) (oi := { dst := some 106, op := Op.binOp BinOp.and 3 (Operand.tmp 105) (Operand.const (Value.int IntKind.i64 31)) 3, type := 3, pos := "law.go:107", after := #[{ on := 19, ground := Ground.data }, { on := 15, ground := Ground.guard }], guard := some (15, true) }) (v := ?_) rfl (by kernel_rfl) (by kernel_rfl) (by kernel_rfl) (fun _ _ _ h => h) (Or.inl ⟨by rfl, ?_⟩) (by assumption) ?_
              rotate_left 1
              · intro w hSw; (try dsimp only at hSw); go_simp <;> with_reducible rfl
              try simp only [Act.put, List.setIfInBounds_toArray, List.set_cons_zero, List.set_cons_succ]
              refine wpAnyH_take (i := 23) (oi := { dst := some 109, op := Op.move (Operand.tmp 3), type := 3, pos := "law.go:107", after := #[{ on := 15, ground := Ground.guard }], guard := some (15, true) }) (v := ?_) rfl (by kernel_rfl) (by kernel_rfl) (by kernel_rfl) (fun _ _ _ h => h) (Or.inl ⟨by rfl, ?_⟩) (by assumption) ?_
              rotate_left 1
              · intro w hSw; (try dsimp only at hSw); go_simp <;> with_reducible rfl
              try simp only [Act.put, List.setIfInBounds_toArray, List.set_cons_zero, List.set_cons_succ]
              refine wpAnyH_take (i := 24) (oi := { dst := some 110, op := Op.binOp BinOp.and 3 (Operand.tmp 109) (Operand.const (Value.int IntKind.i64 31)) 3, type := 3, pos := "law.go:107", after := #[{ on := 23, ground := Ground.data }, { on := 15, ground := Ground.guard }], guard := some (15, true) }) (v := ?_) rfl (by kernel_rfl) (by kernel_rfl) (by kernel_rfl) (fun _ _ _ h => h) (Or.inl ⟨by rfl, ?_⟩) (by assumption) ?_
              rotate_left 1
              · intro w hSw; (try dsimp only at hSw); go_simp <;> with_reducible rfl
              try simp only [Act.put, List.setIfInBounds_toArray, List.set_cons_zero, List.set_cons_succ]
              refine wpAnyH_ready (rs := [21]) (by kernel_rfl) (by simp) ?_
              refine AllReadyH.cons (o := { dst := some 107, op := Op.call { callee := Callee.value (Operand.func 11), args := #[Operand.tmp 102, Operand.tmp 103, Operand.tmp 104, Operand.tmp 106], argTypes := #[37, 3, 3, 3] }, type := 37, pos := "law.go:107", after := #[{ on := 16, ground := Ground.data }, { on := 17, ground := Ground.data }, { on := 18, ground := Ground.data }, { on := 20, ground := Ground.data }, { on := 15, ground := Ground.chain }, { on := 15, ground := Ground.guard }], guard := some (15, true) }) rfl (fun K9 hK => ?_) ?_
              · go_simp
                with_reducible refine (odd_c hS.out.bM.me hcM hlM1 what at_ x31 hw ha hx31).mono ?_
                rintro e y4 ⟨v6, rfl, m6, hm6, hc6, hl6, hb⟩
                replace hS := Lib.hid (hS.out.up hb)
                replace hm6 := Lib.hid hm6
                replace hl6 : m6.lits.length ≤ 100 := by omega
                clear hb
                go_wp2_with fail
                refine hK.out _ _ ?_ ?_
                · (try dsimp only); exact hS.out
                clear hK K9 hHeld; intro hHeld
                try simp only [Act.put, List.setIfInBounds_toArray, List.set_cons_zero, List.set_cons_succ]
                refine wpAnyH_ready (rs := [25]) (by kernel_rfl) (by simp) ?_
                refine AllReadyH.cons (o := { dst := some 111, op := Op.call { callee := Callee.value (Operand.func 10), args := #[Operand.tmp 107, Operand.tmp 108, Operand.tmp 110], argTypes := #[37, 27, 3] }, type := 4, pos := "law.go:107", after := #[{ on := 21, ground := Ground.data }, { on := 22, ground := Ground.data }, { on := 24, ground := Ground.data }, { on := 21, ground := Ground.chain }, { on := 15, ground := Ground.guard }], guard := some (15, true) }) rfl (fun K9 hK => ?_) ?_
                · go_simp
                  with_reducible refine (same_c K hm6.out hS.out.uk p31 h31).mono ?_
                  rintro e y5 ⟨rfl, hb⟩
                  replace hS := Lib.hid (hS.out.up hb)
                  clear hb
                  go_wp2_with fail
                  refine hK.out _ _ ?_ ?_
                  · (try dsimp only); exact hS.out
                  clear hK K9 hHeld; intro hHeld
                  try simp only [Act.put, List.setIfInBounds_toArray, List.set_cons_zero, List.set_cons_succ]
                  refine wpAnyH_take (i := 26) (oi := { dst := some 112, op := Op.pick (Operand.tmp 101) (Operand.tmp 111) (Operand.const (Value.bool false)), type := 4, pos := "law.go:107", after := #[{ on := 15, ground := Ground.data }, { on := 25, ground := Ground.data }], guard := none }) (v := ?_) rfl (by kernel_rfl) (by kernel_rfl) (by kernel_rfl) (fun _ _ _ h => h) (Or.inl ⟨by rfl, ?_⟩) (by assumption) ?_
                  rotate_left 1
                  · intro w hSw; (try dsimp only at hSw); go_simp <;> with_reducible rfl
                  try simp only [Act.put, List.setIfInBounds_toArray, List.set_cons_zero, List.set_cons_succ]
                  refine wpAnyH_take (i := 27) (oi := { dst := some 113, op := Op.move (Operand.tmp 112), type := 4, pos := "law.go:107", after := #[{ on := 26, ground := Ground.data }, { on := 25, ground := Ground.chain }], guard := none }) (v := ?_) rfl (by kernel_rfl) (by kernel_rfl) (by kernel_rfl) (fun _ _ _ h => h) (Or.inl ⟨by rfl, ?_⟩) (by assumption) ?_
                  rotate_left 1
                  · intro w hSw; (try dsimp only at hSw); go_simp <;> with_reducible rfl
                  try simp only [Act.put, List.setIfInBounds_toArray, List.set_cons_zero, List.set_cons_succ]
                  refine wpAnyH_take (i := 28) (oi := { dst := some 114, op := Op.load 37 (Operand.tmp 14), type := 37, pos := "law.go:107", after := #[{ on := 27, ground := Ground.guard }], guard := some (27, true) }) (v := (.agg #[.int .i64 mM.args, .int .i64 mM.temps, .slice la mM.lits.length lc, .slice ca mM.code.length cc])) rfl (by kernel_rfl) (by kernel_rfl) (by kernel_rfl) (fun _ _ _ h => h) (yieldsIf_load_mid (by rfl) _ _ rfl q14 0 rfl [.int .i64 mM.args, .int .i64 mM.temps, .slice la mM.lits.length lc, .slice ca mM.code.length cc] dM (fun w hw => hw.bM.range) hdM.out hrM.out infoM) (by assumption) ?_
                  try simp only [Act.put, List.setIfInBounds_toArray, List.set_cons_zero, List.set_cons_succ]
                  refine wpAnyH_take (i := 38) (oi := { dst := some 124, op := Op.load 27 (Operand.tmp 13), type := 27, pos := "law.go:107", after := #[{ on := 27, ground := Ground.guard }], guard := some (27, true) }) (v := (.agg #[.slice na U.names.length nc, .slice ka U.classes.length kc, .slice (some ⟨g, 0, none⟩) U.methods.length ucap, .slice oa U.objects.length oc, .int .i64 U.main])) rfl (by kernel_rfl) (by kernel_rfl) (by kernel_rfl) (fun _ _ _ h => h) (yieldsIf_load_mid (by rfl) _ _ rfl q13 0 rfl [.slice na U.names.length nc, .slice ka U.classes.length kc, .slice (some ⟨g, 0, none⟩) U.methods.length ucap, .slice oa U.objects.length oc, .int .i64 U.main] dU (fun w hw => hw.bU.range) hdU.out hrU.out infoU) (by assumption) ?_
                  try simp only [Act.put, List.setIfInBounds_toArray, List.set_cons_zero, List.set_cons_succ]
                  refine wpAnyH_take (i := 29) (oi := { dst := some 115, op := Op.move (Operand.tmp 3), type := 3, pos := "law.go:107", after := #[{ on := 27, ground := Ground.guard }], guard := some (27, true) }) (v := ?_) rfl (by kernel_rfl) (by kernel_rfl) (by kernel_rfl) (fun _ _ _ h => h) (Or.inl ⟨by rfl, ?_⟩) (by assumption) ?_
                  rotate_left 1
                  · intro w hSw; (try dsimp only at hSw); go_simp <;> with_reducible rfl
                  try simp only [Act.put, List.setIfInBounds_toArray, List.set_cons_zero, List.set_cons_succ]
                  refine wpAnyH_take (i := 30) (oi := { dst := some 116, op := Op.move (Operand.tmp 4), type := 3, pos := "law.go:107", after := #[{ on := 27, ground := Ground.guard }], guard := some (27, true) }) (v := ?_) rfl (by kernel_rfl) (by kernel_rfl) (by kernel_rfl) (fun _ _ _ h => h) (Or.inl ⟨by rfl, ?_⟩) (by assumption) ?_
                  rotate_left 1
                  · intro w hSw; (try dsimp only at hSw); go_simp <;> with_reducible rfl
                  try simp only [Act.put, List.setIfInBounds_toArray, List.set_cons_zero, List.set_cons_succ]
                  refine wpAnyH_take (i := 31) (oi := { dst := some 117, op := Op.binOp BinOp.and 3 (Operand.tmp 116) (Operand.const (Value.int IntKind.i64 31)) 3, type := 3, pos := "law.go:107", after := #[{ on := 30, ground := Ground.data }, { on := 27, ground := Ground.guard }], guard := some (27, true) }) (v := ?_) rfl (by kernel_rfl) (by kernel_rfl) (by kernel_rfl) (fun _ _ _ h => h) (Or.inl ⟨by rfl, ?_⟩) (by assumption) ?_
                  rotate_left 1
                  · intro w hSw; (try dsimp only at hSw); go_simp <;> with_reducible rfl
                  try simp only [Act.put, List.setIfInBounds_toArray, List.set_cons_zero, List.set_cons_succ]
                  refine wpAnyH_take (i := 33) (oi := { dst := some 119, op := Op.move (Operand.tmp 2), type := 3, pos := "law.go:107", after := #[{ on := 27, ground := Ground.guard }], guard := some (27, true) }) (v := ?_) rfl (by kernel_rfl) (by kernel_rfl) (by kernel_rfl) (fun _ _ _ h => h) (Or.inl ⟨by rfl, ?_⟩) (by assumption) ?_
                  rotate_left 1
                  · intro w hSw; (try dsimp only at hSw); go_simp <;> with_reducible rfl
                  try simp only [Act.put, List.setIfInBounds_toArray, List.set_cons_zero, List.set_cons_succ]
                  refine wpAnyH_take (i := 34) (oi := { dst := some 120, op := Op.move (Operand.tmp 4), type := 3, pos := "law.go:107", after := #[{ on := 27, ground := Ground.guard }], guard := some (27, true) }) (v := ?_) rfl (by kernel_rfl) (by kernel_rfl) (by kernel_rfl) (fun _ _ _ h => h) (Or.inl ⟨by rfl, ?_⟩) (by assumption) ?_
                  rotate_left 1
                  · intro w hSw; (try dsimp only at hSw); go_simp <;> with_reducible rfl
                  try simp only [Act.put, List.setIfInBounds_toArray, List.set_cons_zero, List.set_cons_succ]
                  refine wpAnyH_take (i := 35) (oi := { dst := some 121, op := Op.move (Operand.tmp 3), type := 3, pos := "law.go:107", after := #[{ on := 27, ground := Ground.guard }], guard := some (27, true) }) (v := ?_) rfl (by kernel_rfl) (by kernel_rfl) (by kernel_rfl) (fun _ _ _ h => h) (Or.inl ⟨by rfl, ?_⟩) (by assumption) ?_
                  rotate_left 1
                  · intro w hSw; (try dsimp only at hSw); go_simp <;> with_reducible rfl
                  try simp only [Act.put, List.setIfInBounds_toArray, List.set_cons_zero, List.set_cons_succ]
                  refine wpAnyH_take (i := 36) (oi := { dst := some 122, op := Op.binOp BinOp.and 3 (Operand.tmp 121) (Operand.const (Value.int IntKind.i64 31)) 3, type := 3, pos := "law.go:107", after := #[{ on := 35, ground := Ground.data }, { on := 27, ground := Ground.guard }], guard := some (27, true) }) (v := ?_) rfl (by kernel_rfl) (by kernel_rfl) (by kernel_rfl) (fun _ _ _ h => h) (Or.inl ⟨by rfl, ?_⟩) (by assumption) ?_
                  rotate_left 1
                  · intro w hSw; (try dsimp only at hSw); go_simp <;> with_reducible rfl
                  try simp only [Act.put, List.setIfInBounds_toArray, List.set_cons_zero, List.set_cons_succ]
                  refine wpAnyH_ready (rs := [32]) (by kernel_rfl) (by simp) ?_
                  refine AllReadyH.cons (o := { dst := some 118, op := Op.call { callee := Callee.value (Operand.func 11), args := #[Operand.tmp 114, Operand.const (Value.int IntKind.i64 2), Operand.tmp 115, Operand.tmp 117], argTypes := #[37, 3, 3, 3] }, type := 37, pos := "law.go:107", after := #[{ on := 28, ground := Ground.data }, { on := 29, ground := Ground.data }, { on := 31, ground := Ground.data }, { on := 27, ground := Ground.chain }, { on := 27, ground := Ground.guard }], guard := some (27, true) }) rfl (fun K9 hK => ?_) ?_
                  · go_simp
                    with_reducible refine (odd_c hS.out.bM.me hcM hlM1 2 at_ x31 h2 ha hx31).mono ?_
                    rintro e y6 ⟨v7, rfl, m7, hm7, hc7, hl7, hb⟩
                    replace hS := Lib.hid (hS.out.up hb)
                    replace hm7 := Lib.hid hm7
                    replace hl7 : m7.lits.length ≤ 100 := by omega
                    clear hb
                    go_wp2_with fail
                    refine hK.out _ _ ?_ ?_
                    · (try dsimp only); exact hS.out
                    clear hK K9 hHeld; intro hHeld
                    try simp only [Act.put, List.setIfInBounds_toArray, List.set_cons_zero, List.set_cons_succ]
                    refine wpAnyH_ready (rs := [37]) (by kernel_rfl) (by simp) ?_
                    refine AllReadyH.cons (o := { dst := some 123, op := Op.call { callee := Callee.value (Operand.func 11), args := #[Operand.tmp 118, Operand.tmp 119, Operand.tmp 120, Operand.tmp 122], argTypes := #[37, 3, 3, 3] }, type := 37, pos := "law.go:107", after := #[{ on := 32, ground := Ground.data }, { on := 33, ground := Ground.data }, { on := 34, ground := Ground.data }, { on := 36, ground := Ground.data }, { on := 32, ground := Ground.chain }, { on := 27, ground := Ground.guard }], guard := some (27, true) }) rfl (fun K9 hK => ?_) ?_
                    · go_simp
                      with_reducible refine (odd_c hm7.out hc7 hl7 what x p31 hw hx h31).mono ?_
                      rintro e y7 ⟨v8, rfl, m8, hm8, hc8, hl8, hb⟩
                      replace hS := Lib.hid (hS.out.up hb)
                      replace hm8 := Lib.hid hm8
                      clear hl8
                      clear hb
                      go_wp2_with fail
                      refine hK.out _ _ ?_ ?_
                      · (try dsimp only); exact hS.out
                      clear hK K9 hHeld; intro hHeld
                      try simp only [Act.put, List.setIfInBounds_toArray, List.set_cons_zero, List.set_cons_succ]
                      refine wpAnyH_ready (rs := [39]) (by kernel_rfl) (by simp) ?_
                      refine AllReadyH.cons (o := { dst := some 125, op := Op.call { callee := Callee.value (Operand.func 10), args := #[Operand.tmp 123, Operand.tmp 124, Operand.const (Value.int IntKind.i64 2)], argTypes := #[37, 27, 3] }, type := 4, pos := "law.go:107", after := #[{ on := 37, ground := Ground.data }, { on := 38, ground := Ground.data }, { on := 37, ground := Ground.chain }, { on := 27, ground := Ground.guard }], guard := some (27, true) }) rfl (fun K9 hK => ?_) ?_
                      · go_simp
                        with_reducible refine (same_c K hm8.out hS.out.uk 2 h2).mono ?_
                        rintro e y8 ⟨rfl, hb⟩
                        replace hS := Lib.hid (hS.out.up hb)
                        clear hb
                        go_wp2_with fail
                        refine hK.out _ _ ?_ ?_
                        · (try dsimp only); exact hS.out
                        clear hK K9 hHeld; intro hHeld
                        try simp only [Act.put, List.setIfInBounds_toArray, List.set_cons_zero, List.set_cons_succ]
                        refine wpAnyH_take (i := 40) (oi := { dst := some 126, op := Op.pick (Operand.tmp 113) (Operand.tmp 125) (Operand.const (Value.bool false)), type := 4, pos := "law.go:107", after := #[{ on := 27, ground := Ground.data }, { on := 39, ground := Ground.data }], guard := none }) (v := ?_) rfl (by kernel_rfl) (by kernel_rfl) (by kernel_rfl) (fun _ _ _ h => h) (Or.inl ⟨by rfl, ?_⟩) (by assumption) ?_
                        rotate_left 1
                        · intro w hSw; (try dsimp only at hSw); go_simp <;> with_reducible rfl
                        try simp only [Act.put, List.setIfInBounds_toArray, List.set_cons_zero, List.set_cons_succ]
                        refine wpAnyH_take (i := 41) (oi := { dst := some 127, op := Op.move (Operand.tmp 126), type := 4, pos := "law.go:107", after := #[{ on := 40, ground := Ground.data }, { on := 39, ground := Ground.chain }], guard := none }) (v := ?_) rfl (by kernel_rfl) (by kernel_rfl) (by kernel_rfl) (fun _ _ _ h => h) (Or.inl ⟨by rfl, ?_⟩) (by assumption) ?_
                        rotate_left 1
                        · intro w hSw; (try dsimp only at hSw); go_simp <;> with_reducible rfl
                        try simp only [Act.put, List.setIfInBounds_toArray, List.set_cons_zero, List.set_cons_succ]
                        refine wpAnyH_take (i := 42) (oi := { dst := some 128, op := Op.load 37 (Operand.tmp 11), type := 37, pos := "law.go:107", after := #[{ on := 41, ground := Ground.guard }], guard := some (41, true) }) (v := (.agg #[.int .i64 m2.args, .int .i64 m2.temps, .slice ra m2.lits.length rc, .slice sa m2.code.length sc])) rfl (by kernel_rfl) (by kernel_rfl) (by kernel_rfl) (fun _ _ _ h => h) (yieldsIf_load_mid (by rfl) _ _ rfl w.heap.size 0 rfl [.int .i64 m2.args, .int .i64 m2.temps, .slice ra m2.lits.length rc, .slice sa m2.code.length sc] dM (fun w hw => hw.bR.range) hdM.out hrM.out infoM) (by assumption) ?_
                        try simp only [Act.put, List.setIfInBounds_toArray, List.set_cons_zero, List.set_cons_succ]
                        refine wpAnyH_take (i := 43) (oi := { dst := some 129, op := Op.load 27 (Operand.tmp 13), type := 27, pos := "law.go:107", after := #[{ on := 41, ground := Ground.guard }], guard := some (41, true) }) (v := (.agg #[.slice na U.names.length nc, .slice ka U.classes.length kc, .slice (some ⟨g, 0, none⟩) U.methods.length ucap, .slice oa U.objects.length oc, .int .i64 U.main])) rfl (by kernel_rfl) (by kernel_rfl) (by kernel_rfl) (fun _ _ _ h => h) (yieldsIf_load_mid (by rfl) _ _ rfl q13 0 rfl [.slice na U.names.length nc, .slice ka U.classes.length kc, .slice (some ⟨g, 0, none⟩) U.methods.length ucap, .slice oa U.objects.length oc, .int .i64 U.main] dU (fun w hw => hw.bU.range) hdU.out hrU.out infoU) (by assumption) ?_
                        try simp only [Act.put, List.setIfInBounds_toArray, List.set_cons_zero, List.set_cons_succ]
                        refine wpAnyH_take (i := 44) (oi := { dst := some 130, op := Op.move (Operand.tmp 3), type := 3, pos := "law.go:107", after := #[{ on := 41, ground := Ground.guard }], guard := some (41, true) }) (v := ?_) rfl (by kernel_rfl) (by kernel_rfl) (by kernel_rfl) (fun _ _ _ h => h) (Or.inl ⟨by rfl, ?_⟩) (by assumption) ?_
                        rotate_left 1
                        · intro w hSw; (try dsimp only at hSw); go_simp <;> with_reducible rfl
                        try simp only [Act.put, List.setIfInBounds_toArray, List.set_cons_zero, List.set_cons_succ]
                        refine wpAnyH_ready (rs := [45]) (by kernel_rfl) (by simp) ?_
                        refine AllReadyH.cons (o := { dst := some 131, op := Op.call { callee := Callee.value (Operand.func 10), args := #[Operand.tmp 128, Operand.tmp 129, Operand.tmp 130], argTypes := #[37, 27, 3] }, type := 4, pos := "law.go:107", after := #[{ on := 42, ground := Ground.data }, { on := 43, ground := Ground.data }, { on := 44, ground := Ground.data }, { on := 41, ground := Ground.chain }, { on := 41, ground := Ground.guard }], guard := some (41, true) }) rfl (fun K9 hK => ?_) ?_
                        · go_simp
                          with_reducible refine (same_c K hS.out.bR.me hS.out.uk at_ ha).mono ?_
                          rintro e y9 ⟨rfl, hb⟩
                          replace hS := Lib.hid (hS.out.up hb)
                          clear hb
                          go_wp2_with fail
                          refine hK.out _ _ ?_ ?_
                          · (try dsimp only); exact hS.out
                          clear hK K9 hHeld; intro hHeld
                          try simp only [Act.put, List.setIfInBounds_toArray, List.set_cons_zero, List.set_cons_succ]
                          refine wpAnyH_take (i := 46) (oi := { dst := some 132, op := Op.pick (Operand.tmp 127) (Operand.tmp 131) (Operand.const (Value.bool false)), type := 4, pos := "law.go:107", after := #[{ on := 41, ground := Ground.data }, { on := 45, ground := Ground.data }], guard := none }) (v := ?_) rfl (by kernel_rfl) (by kernel_rfl) (by kernel_rfl) (fun _ _ _ h => h) (Or.inl ⟨by rfl, ?_⟩) (by assumption) ?_
                          rotate_left 1
                          · intro w hSw; (try dsimp only at hSw); go_simp <;> with_reducible rfl
                          try simp only [Act.put, List.setIfInBounds_toArray, List.set_cons_zero, List.set_cons_succ]
                          refine wpAnyH_take (i := 47) (oi := { dst := some 133, op := Op.move (Operand.tmp 132), type := 4, pos := "law.go:107", after := #[{ on := 46, ground := Ground.data }, { on := 45, ground := Ground.chain }], guard := none }) (v := ?_) rfl (by kernel_rfl) (by kernel_rfl) (by kernel_rfl) (fun _ _ _ h => h) (Or.inl ⟨by rfl, ?_⟩) (by assumption) ?_
                          rotate_left 1
                          · intro w hSw; (try dsimp only at hSw); go_simp <;> with_reducible rfl
                          try simp only [Act.put, List.setIfInBounds_toArray, List.set_cons_zero, List.set_cons_succ]
                          refine wpAnyH_take (i := 48) (oi := { dst := some 134, op := Op.load 37 (Operand.tmp 15), type := 37, pos := "law.go:107", after := #[{ on := 47, ground := Ground.guard }], guard := some (47, true) }) (v := (.agg #[.int .i64 p, .int .i64 pt, .slice ra m2.lits.length rc, .slice (some ⟨g2, 0, none⟩) C.length c2])) rfl (by kernel_rfl) (by kernel_rfl) (by kernel_rfl) (fun _ _ _ h => h) (yieldsIf_load_mid (by rfl) _ _ rfl W4.heap.size 0 rfl [.int .i64 p, .int .i64 pt, .slice ra m2.lits.length rc, .slice (some ⟨g2, 0, none⟩) C.length c2] dM (fun w hw => hw.bF.range) hdM.out hrM.out infoM) (by assumption) ?_
                          try simp only [Act.put, List.setIfInBounds_toArray, List.set_cons_zero, List.set_cons_succ]
                          refine wpAnyH_take (i := 49) (oi := { dst := some 135, op := Op.load 27 (Operand.tmp 13), type := 27, pos := "law.go:107", after := #[{ on := 47, ground := Ground.guard }], guard := some (47, true) }) (v := (.agg #[.slice na U.names.length nc, .slice ka U.classes.length kc, .slice (some ⟨g, 0, none⟩) U.methods.length ucap, .slice oa U.objects.length oc, .int .i64 U.main])) rfl (by kernel_rfl) (by kernel_rfl) (by kernel_rfl) (fun _ _ _ h => h) (yieldsIf_load_mid (by rfl) _ _ rfl q13 0 rfl [.slice na U.names.length nc, .slice ka U.classes.length kc, .slice (some ⟨g, 0, none⟩) U.methods.length ucap, .slice oa U.objects.length oc, .int .i64 U.main] dU (fun w hw => hw.bU.range) hdU.out hrU.out infoU) (by assumption) ?_
                          try simp only [Act.put, List.setIfInBounds_toArray, List.set_cons_zero, List.set_cons_succ]
                          refine wpAnyH_take (i := 50) (oi := { dst := some 136, op := Op.move (Operand.tmp 3), type := 3, pos := "law.go:107", after := #[{ on := 47, ground := Ground.guard }], guard := some (47, true) }) (v := ?_) rfl (by kernel_rfl) (by kernel_rfl) (by kernel_rfl) (fun _ _ _ h => h) (Or.inl ⟨by rfl, ?_⟩) (by assumption) ?_
                          rotate_left 1
                          · intro w hSw; (try dsimp only at hSw); go_simp <;> with_reducible rfl
                          try simp only [Act.put, List.setIfInBounds_toArray, List.set_cons_zero, List.set_cons_succ]
                          refine wpAnyH_take (i := 51) (oi := { dst := some 137, op := Op.binOp BinOp.and 3 (Operand.tmp 136) (Operand.const (Value.int IntKind.i64 31)) 3, type := 3, pos := "law.go:107", after := #[{ on := 50, ground := Ground.data }, { on := 47, ground := Ground.guard }], guard := some (47, true) }) (v := ?_) rfl (by kernel_rfl) (by kernel_rfl) (by kernel_rfl) (fun _ _ _ h => h) (Or.inl ⟨by rfl, ?_⟩) (by assumption) ?_
                          rotate_left 1
                          · intro w hSw; (try dsimp only at hSw); go_simp <;> with_reducible rfl
                          try simp only [Act.put, List.setIfInBounds_toArray, List.set_cons_zero, List.set_cons_succ]
                          refine wpAnyH_ready (rs := [52]) (by kernel_rfl) (by simp) ?_
                          refine AllReadyH.cons (o := { dst := some 138, op := Op.call { callee := Callee.value (Operand.func 10), args := #[Operand.tmp 134, Operand.tmp 135, Operand.tmp 137], argTypes := #[37, 27, 3] }, type := 4, pos := "law.go:107", after := #[{ on := 48, ground := Ground.data }, { on := 49, ground := Ground.data }, { on := 51, ground := Ground.data }, { on := 47, ground := Ground.chain }, { on := 47, ground := Ground.guard }], guard := some (47, true) }) rfl (fun K9 hK => ?_) ?_
                          · go_simp
                            with_reducible refine (same_c K hS.out.bF.me hS.out.uk p31 h31).mono ?_
                            rintro e y10 ⟨rfl, hb⟩
                            replace hS := Lib.hid (hS.out.up hb)
                            clear hb
                            go_wp2_with fail
                            refine hK.out _ _ ?_ ?_
                            · (try dsimp only); exact hS.out
                            clear hK K9 hHeld; intro hHeld
                            try simp only [Act.put, List.setIfInBounds_toArray, List.set_cons_zero, List.set_cons_succ]
                            refine wpAnyH_take (i := 53) (oi := { dst := some 139, op := Op.pick (Operand.tmp 133) (Operand.tmp 138) (Operand.const (Value.bool false)), type := 4, pos := "law.go:107", after := #[{ on := 47, ground := Ground.data }, { on := 52, ground := Ground.data }], guard := none }) (v := ?_) rfl (by kernel_rfl) (by kernel_rfl) (by kernel_rfl) (fun _ _ _ h => h) (Or.inl ⟨by rfl, ?_⟩) (by assumption) ?_
                            rotate_left 1
                            · intro w hSw; (try dsimp only at hSw); go_simp <;> with_reducible rfl
                            try simp only [Act.put, List.setIfInBounds_toArray, List.set_cons_zero, List.set_cons_succ]
                            refine wpAnyH_take (i := 54) (oi := { dst := some 140, op := Op.move (Operand.tmp 139), type := 4, pos := "law.go:107", after := #[{ on := 53, ground := Ground.data }, { on := 52, ground := Ground.chain }], guard := none }) (v := ?_) rfl (by kernel_rfl) (by kernel_rfl) (by kernel_rfl) (fun _ _ _ h => h) (Or.inl ⟨by rfl, ?_⟩) (by assumption) ?_
                            rotate_left 1
                            · intro w hSw; (try dsimp only at hSw); go_simp <;> with_reducible rfl
                            try simp only [Act.put, List.setIfInBounds_toArray, List.set_cons_zero, List.set_cons_succ]
                            refine wpAnyH_ready (rs := [55]) (by kernel_rfl) (by simp) ?_
                            refine AllReadyH.cons (o := { dst := some 141, op := Op.call { callee := Callee.value (Operand.func 12), args := #[], argTypes := #[] }, type := 4, pos := "law.go:107", after := #[{ on := 54, ground := Ground.chain }, { on := 54, ground := Ground.guard }], guard := some (54, true) }) rfl (fun K9 hK => ?_) ?_
                            · go_simp
                              with_reducible refine (known_c K _).mono ?_
                              rintro e y11 ⟨rfl, hb⟩
                              replace hS := Lib.hid (hS.out.up hb)
                              clear hb
                              go_wp2_with fail
                              refine hK.out _ _ ?_ ?_
                              · (try dsimp only); exact hS.out
                              clear hK K9 hHeld; intro hHeld
                              try simp only [Act.put, List.setIfInBounds_toArray, List.set_cons_zero, List.set_cons_succ]
                              refine wpAnyH_take (i := 56) (oi := { dst := some 142, op := Op.pick (Operand.tmp 140) (Operand.tmp 141) (Operand.const (Value.bool false)), type := 4, pos := "law.go:107", after := #[{ on := 54, ground := Ground.data }, { on := 55, ground := Ground.data }], guard := none }) (v := ?_) rfl (by kernel_rfl) (by kernel_rfl) (by kernel_rfl) (fun _ _ _ h => h) (Or.inl ⟨by rfl, ?_⟩) (by assumption) ?_
                              rotate_left 1
                              · intro w hSw; (try dsimp only at hSw); go_simp <;> with_reducible rfl
                              try simp only [Act.put, List.setIfInBounds_toArray, List.set_cons_zero, List.set_cons_succ]
                              refine wpAnyH_take (i := 57) (oi := { dst := some 12, op := Op.assign (Operand.tmp 142), type := 4, pos := "law.go:107", after := #[{ on := 56, ground := Ground.data }, { on := 55, ground := Ground.chain }, { on := 0, ground := Ground.phase }, { on := 1, ground := Ground.phase }, { on := 2, ground := Ground.phase }, { on := 3, ground := Ground.phase }, { on := 4, ground := Ground.phase }, { on := 5, ground := Ground.phase }, { on := 6, ground := Ground.phase }, { on := 7, ground := Ground.phase }, { on := 8, ground := Ground.phase }, { on := 9, ground := Ground.phase }, { on := 10, ground := Ground.phase }, { on := 11, ground := Ground.phase }, { on := 12, ground := Ground.phase }, { on := 13, ground := Ground.phase }, { on := 14, ground := Ground.phase }, { on := 15, ground := Ground.phase }, { on := 16, ground := Ground.phase }, { on := 17, ground := Ground.phase }, { on := 18, ground := Ground.phase }, { on := 19, ground := Ground.phase }, { on := 20, ground := Ground.phase }, { on := 21, ground := Ground.phase }, { on := 22, ground := Ground.phase }, { on := 23, ground := Ground.phase }, { on := 24, ground := Ground.phase }, { on := 25, ground := Ground.phase }, { on := 26, ground := Ground.phase }, { on := 27, ground := Ground.phase }, { on := 28, ground := Ground.phase }, { on := 29, ground := Ground.phase }, { on := 30, ground := Ground.phase }, { on := 31, ground := Ground.phase }, { on := 32, ground := Ground.phase }, { on := 33, ground := Ground.phase }, { on := 34, ground := Ground.phase }, { on := 35, ground := Ground.phase }, { on := 36, ground := Ground.phase }, { on := 37, ground := Ground.phase }, { on := 38, ground := Ground.phase }, { on := 39, ground := Ground.phase }, { on := 40, ground := Ground.phase }, { on := 41, ground := Ground.phase }, { on := 42, ground := Ground.phase }, { on := 43, ground := Ground.phase }, { on := 44, ground := Ground.phase }, { on := 45, ground := Ground.phase }, { on := 46, ground := Ground.phase }, { on := 47, ground := Ground.phase }, { on := 48, ground := Ground.phase }, { on := 49, ground := Ground.phase }, { on := 50, ground := Ground.phase }, { on := 51, ground := Ground.phase }, { on := 52, ground := Ground.phase }, { on := 53, ground := Ground.phase }, { on := 54, ground := Ground.phase }, { on := 55, ground := Ground.phase }, { on := 56, ground := Ground.phase }], guard := none }) (v := ?_) rfl (by kernel_rfl) (by kernel_rfl) (by kernel_rfl) (fun _ _ _ h => h) (Or.inl ⟨by rfl, ?_⟩) (by assumption) ?_
                              rotate_left 1
                              · intro w hSw; (try dsimp only at hSw); go_simp <;> with_reducible rfl
                              try simp only [Act.put, List.setIfInBounds_toArray, List.set_cons_zero, List.set_cons_succ]
                              refine wpAnyH_done (by kernel_rfl) ?_ _
                              go_wp2_with fail
                              go_ret
                              exact ⟨by simp, hS.out.bel⟩
                            exact AllReadyH.nil
                          exact AllReadyH.nil
                        exact AllReadyH.nil
                      exact AllReadyH.nil
                    exact AllReadyH.nil
                  exact AllReadyH.nil
                exact AllReadyH.nil
              exact AllReadyH.nil
            exact AllReadyH.nil
          exact AllReadyH.nil
        exact AllReadyH.nil
end Wd
end Go.Proofs.Ythlijmdohejheaa
