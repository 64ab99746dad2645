/- What the laws ask of a cache: play. -/
import Derived.Test.YtpilbpofikdkmaaYLaw
import Derived.Deep.CutBlock
import Derived.Deep.DeepCutAuto
import Derived.Deep.RegionHeld3
namespace Go.Proofs.Ytpilbpofikdkmaa
open Go.RowKit
set_option linter.unusedVariables false
set_option maxRecDepth 20000
namespace Wd
theorem ch_cell {F : Nat → Prop} {w w' : World} {a : Addr} {v : Value} (h : w.cell? a = some v) (c : Ch F w w') (hF : ¬ F a.block) : w'.cell? a = some v :=
  (World.cell?_of_block (c.block a.block (World.block_lt_of_cell? w _ h) hF)).trans h
/-- a cache of the package's, and one of the document's, both of the call's own -/
structure PlS (CA : CAt) (w0 wr : World) (p b : Nat) (S : Cst) (F : Nat → Prop) : Prop where
  pc : PC CA w0 wr p S F
  ref : RefC wr b S
  nf : ¬ F b
  fb : w0.heap.size ≤ b
/-- the package's has been asked, the document's not yet -/
structure PlM (CA : CAt) (w0 wr : World) (p b : Nat) (S S' : Cst) (F : Nat → Prop) : Prop where
  pc : PC CA w0 wr p S' F
  ref : RefC wr b S
  nf : ¬ F b
  fb : w0.heap.size ≤ b
section
variable {CA : CAt} {w0 wr wA w1 : World} {p b : Nat} {S S' : Cst} {F F' : Nat → Prop}
theorem PlS.keep (K : CacK CA) (h : PlS CA w0 wr p b S F) (g : Below wr.heap.size wr wA) : PlS CA w0 wA p b S F :=
  ⟨h.pc.keep K g, h.ref.keep g, h.nf, h.fb⟩
theorem PlS.mid (h : PlS CA w0 wr p b S F) (hm : PC CA w0 w1 p S' F') (c : Ch F wr w1) (hn : Newer F F' wr.heap.size) : PlM CA w0 w1 p b S S' F' :=
  ⟨hm, h.ref.same (c.block b h.ref.lt h.nf), fun hF => by rcases hn b hF with e | e; exact h.nf e; have := h.ref.lt; omega, h.fb⟩
theorem PlM.keep (K : CacK CA) (h : PlM CA w0 wr p b S S' F) (g : Below wr.heap.size wr wA) : PlM CA w0 wA p b S S' F :=
  ⟨h.pc.keep K g, h.ref.keep g, h.nf, h.fb⟩
theorem PlM.last (K : CacK CA) (h : PlM CA w0 wr p b S S' F) (hr : RefC w1 b S') (c : Ch (fun k => k = b) wr w1) : PlS CA w0 w1 p b S' F :=
  ⟨⟨K.keep h.pc.da (fun k hk => c.block k (K.lt h.pc.da k hk) (fun e => h.nf (e ▸ hk))), below_ch h.pc.bel c (fun k hk => by subst hk; exact h.fb), h.pc.fF⟩, hr, h.nf, h.fb⟩
/-- a new one of the document's takes its place -/
theorem PlM.renew (K : CacK CA) (h : PlM CA w0 wr p b S S' F) {v : Obj} (hr : RefC (wr.alloc v) wr.heap.size S') : PlS CA w0 (wr.alloc v) p wr.heap.size S' F :=
  ⟨h.pc.keep K ((Below.refl _ _).alloc (Nat.le_refl _) _), hr, fun hF => by have := K.lt h.pc.da _ hF; omega, h.pc.bel.size⟩
end
/-- asks that came in -/
def AskV (w : World) (ad : Option Addr) (n : Nat) : Prop := ∀ k, k < n → ∃ (g off : Nat) (x y z u : Int), ad = some ⟨g, off, none⟩ ∧ I64 x ∧ I64 y ∧ I64 z ∧ I64 u ∧ w.cell? ⟨g, off + k * 4, none⟩ = some (.int .i64 x) ∧ w.cell? ⟨g, off + k * 4 + 1, none⟩ = some (.int .i64 y) ∧ w.cell? ⟨g, off + k * 4 + 2, none⟩ = some (.int .i64 z) ∧ w.cell? ⟨g, off + k * 4 + 3, none⟩ = some (.int .i64 u)
theorem AskV.up {w w' : World} {ad : Option Addr} {n : Nat} (h : AskV w ad n) (b : Below w.heap.size w w') : AskV w' ad n := by
  intro k hk
  obtain ⟨g, off, x, y, z, u, e, i1, i2, i3, i4, c0, c1, c2, c3⟩ := h k hk
  exact ⟨g, off, x, y, z, u, e, i1, i2, i3, i4, cell_up b c0, cell_up b c1, cell_up b c2, cell_up b c3⟩
/-- an ask, and its key, in blocks of their own -/
structure AkS (w : World) (B : Nat) (x y z u : Int) : Prop where
  a0 : w.cell? ⟨B, 0, none⟩ = some (.int .i64 x)
  a1 : w.cell? ⟨B, 1, none⟩ = some (.int .i64 y)
  a2 : w.cell? ⟨B, 2, none⟩ = some (.int .i64 z)
  a3 : w.cell? ⟨B, 3, none⟩ = some (.int .i64 u)
  k0 : w.cell? ⟨B + 1, 0, none⟩ = some (.int .i64 y)
  k1 : w.cell? ⟨B + 1, 1, none⟩ = some (.int .i64 z)
theorem AkS.ch {w w' : World} {B : Nat} {x y z u : Int} {F : Nat → Prop} (h : AkS w B x y z u) (c : Ch F w w') (h0 : ¬ F B) (h1 : ¬ F (B + 1)) : AkS w' B x y z u :=
  ⟨ch_cell h.a0 c h0, ch_cell h.a1 c h0, ch_cell h.a2 c h0, ch_cell h.a3 c h0, ch_cell h.k0 c h1, ch_cell h.k1 c h1⟩
theorem aks_new (w : World) (x y z u : Int) : AkS ((w.alloc (.cells #[.int .i64 x, .int .i64 y, .int .i64 z, .int .i64 u] 24)).alloc (.cells #[.int .i64 y, .int .i64 z] 32)) w.heap.size x y z u :=
  ⟨by simp, by simp, by simp, by simp, by simp, by simp⟩
set_option maxHeartbeats 32000000 in
theorem play_any {CA : CAt} (K : CacK CA) {w : World} {ad : Option Addr} {n cap : Nat} (HA : AskV w ad n) (hn : n ≤ 9223372036854775807) :
    Calls Try.prog 7 #[.slice ad n cap] w fun e w' => e = .returned (.bool true) ∧ Below w.heap.size w w' := by
  replace HA := Lib.hid HA
  have hbC := run_zeroC
  go_enter Try.func7, Try.ntmps7
  go_wp2_with fail
  refine (new_s K _).mono ?_
  rintro e1 w1 ⟨p, F, rfl, h0⟩
  have st0 : Hid (PlS CA w (w1.alloc (.cells (zeroC 0 0) 42)) p w1.heap.size S0 F) := Lib.hid ⟨h0.keep K ((Below.refl _ _).alloc (Nat.le_refl _) _), zero_ref 0 0 w1, fun h => by have := K.lt h0.da _ h; omega, h0.bel.size⟩
  clear h0
  go_upto_region 2 with fail
  generalize w1.alloc (.cells (zeroC 0 0) 42) = w2 at *
  generalize w1.heap.size = b at *
  clear hbC
  go_wp2
  go_loopw [4, 5] (fun i4 i5 wr => ∃ (k : Nat) (S : Cst) (b : Nat) (F : Nat → Prop), k ≤ n ∧ k ≤ 150 ∧ i4 = .pointer (some ⟨b, 0, none⟩) ∧ i5 = .int .i64 k ∧ Hid (PlS CA w wr p b S F) ∧ Hid (S.h + S.m ≤ k)) (fun _ i5 _ => 150 - (intOf i5).toNat)
  case atStart => exact ⟨0, _, _, _, by omega, by omega, rfl, rfl, st0, Lib.hid (Nat.le_refl 0)⟩
  case round =>
    clear st0
    obtain ⟨k, S, b, F, hk, hk2, rfl, rfl, hS, hbS⟩ := hrel
    by_cases hlt : k < n ∧ k < 150
    · have d1 : decide ((k : Int) < (n : Int)) = true := by simp; omega
      have d2 : decide ((k : Int) < 150) = true := by simp; omega
      have p0 : (0 : Int) ≤ (k : Int) := by omega
      have p1 : (k : Int) < (n : Int) := by omega
      have hk99 : k < 150 := hlt.2
      obtain ⟨g, off, x, y, z, u, rfl, ix, iy, iz, iu, c0, c1, c2, c3⟩ := (HA.out.up hS.out.pc.bel) k hlt.1
      have hy := Lib.hid iy
      have hz := Lib.hid iz
      have hu := Lib.hid iu
      have hA := Lib.hid (aks_new wr x y z u)
      have hBb : Below wr.heap.size wr ((wr.alloc (.cells #[.int .i64 x, .int .i64 y, .int .i64 z, .int .i64 u] 24)).alloc (.cells #[.int .i64 y, .int .i64 z] 32)) := ((Below.refl _ _).alloc (Nat.le_refl _) _).alloc (by simp) _
      have hS0 := Lib.hid (hS.out.keep K hBb)
      have hBF : Hid ((¬ F wr.heap.size ∧ ¬ F (wr.heap.size + 1)) ∧ wr.heap.size ≠ b ∧ wr.heap.size + 1 ≠ b) := Lib.hid ⟨⟨fun h => by have := K.lt hS.out.pc.da _ h; omega, fun h => by have := K.lt hS.out.pc.da _ h; omega⟩, by have := hS.out.ref.lt; omega, by have := hS.out.ref.lt; omega⟩
      clear ix iy iz iu hBb
      go_upto_region 9 with fail
      replace hS := hS0
      clear hS0 c0 c1 c2 c3
      generalize (wr.alloc (.cells #[.int .i64 x, .int .i64 y, .int .i64 z, .int .i64 u] 24)).alloc (.cells #[.int .i64 y, .int .i64 z] 32) = W at *
      generalize wr.heap.size = B at *
      have a0 := hA.out.a0
      go_upto_block 2 with fail
      go_cut [4] (fun i4 wx => ∃ (S' : Cst) (b' : Nat) (F' : Nat → Prop), i4 = .pointer (some ⟨b', 0, none⟩) ∧ Hid (PlS CA w wx p b' S' F') ∧ Hid (S'.h + S'.m ≤ k + 1))
      case first =>
        as_aux_lemma =>
        by_cases h0 : x = 0
        · have h0' : (x == 0) = true := by simp [h0]
          have hb2 : Hid ((putS S y z u).h + (putS S y z u).m ≤ k + 1) := Lib.hid (by have := hbS.out; unfold putS; simp only; omega)
          have a3 := hA.out.a3
          have k0 := hA.out.k0
          have k1 := hA.out.k1
          clear h0
          go_wp2_with fail
          refine (put_s K hS.out.pc hy.out hz.out hu.out (S' := putS S y z u) rfl).mono ?_
          rintro e w4 ⟨F', rfl, h0, hc, hn⟩
          have hM := Lib.hid (hS.out.mid h0 hc hn)
          replace hA := Lib.hid (hA.out.ch hc hBF.out.1.1 hBF.out.1.2)
          clear h0 hc hn hS a0 a3 k0 k1
          have a1 := hA.out.a1
          have a2 := hA.out.a2
          have a3 := hA.out.a3
          go_wp2_with fail
          refine (rput_c hM.out.ref y z u hy.out hz.out hu.out).mono ?_
          rintro e w5 ⟨rfl, h1, hc⟩
          have hS2 := Lib.hid (hM.out.last K h1 hc)
          clear h1 hc hM hA a1 a2 a3
          go_wp2_with fail
          go_meet
          exact ⟨_, b, F', rfl, hS2, hb2⟩
        have h0' : (x == 0) = false := by simpa using h0
        by_cases h3 : x = 3
        · have h3' : (x == 3) = true := by simp [h3]
          have hb2 : Hid ((clrS S).h + (clrS S).m ≤ k + 1) := Lib.hid (by have := hbS.out; unfold clrS; simp only; omega)
          clear h0 h3
          go_wp2_with fail
          refine (clear_s K hS.out.pc (S' := clrS S) rfl).mono ?_
          rintro e w4 ⟨F', rfl, h0, hc, hn⟩
          have hM := Lib.hid (hS.out.mid h0 hc hn)
          clear h0 hc hn hS a0 hA
          have hh := hM.out.ref.hh
          have hm := hM.out.ref.hm
          have hM2 := Lib.hid ((hM.out.keep K ((Below.refl _ _).drew)).renew K (zero_ref S.h S.m w4.drew))
          go_wp2_with fail
          go_region
          go_wp2_with (refine wpList_buildC2 rfl (.tmp 90) (.tmp 91) rfl S.h S.m rfl rfl ?_)
          go_meet
          exact ⟨_, _, F', rfl, hM2, hb2⟩
        · have h3' : (x == 3) = false := by simpa using h3
          have hb2 : Hid ((getS S y z).h + (getS S y z).m ≤ k + 1) := Lib.hid (by have := hbS.out; rw [get_sum]; omega)
          have hb3 : S.h + S.m < 1000000 := by have := hbS.out; omega
          replace hb3 := Lib.hid hb3
          have k0 := hA.out.k0
          have k1 := hA.out.k1
          obtain ⟨gx, hgx0⟩ : ∃ gx, getM S y z = gx := ⟨_, rfl⟩
          obtain ⟨gy, hgy0⟩ : ∃ gy, getB S y z = gy := ⟨_, rfl⟩
          have hgx := Lib.hid hgx0
          have hgy := Lib.hid hgy0
          clear h0 h3 hgx0 hgy0
          go_wp2_with fail
          refine (get_s K hS.out.pc hy.out hz.out hb3.out hgx.out hgy.out (S' := getS S y z) rfl).mono ?_
          rintro e w4 ⟨F', rfl, h0, hc, hn⟩
          have hM := Lib.hid (hS.out.mid h0 hc hn)
          replace hA := Lib.hid (hA.out.ch hc hBF.out.1.1 hBF.out.1.2)
          clear h0 hc hn hS a0 k0 k1
          have a1 := hA.out.a1
          have a2 := hA.out.a2
          go_wp2_with fail
          refine (rget_c hM.out.ref y z hy.out hz.out hb3.out).mono ?_
          rintro e w5 ⟨he, h1, hc⟩
          rw [hgx.out, hgy.out] at he
          subst he
          have hS2 := Lib.hid (hM.out.last K h1 hc)
          clear h1 hc hM hA a1 a2
          go_wp2_with fail
          go_meet
          exact ⟨_, b, F', rfl, hS2, hb2⟩
      case rest =>
        as_aux_lemma =>
        clear hS hA hBF a0 hbS
        obtain ⟨S', b', F', rfl, hS, hbS⟩ := hcut
        obtain ⟨hN, hh0⟩ : ∃ n, S'.h = n := ⟨_, rfl⟩
        obtain ⟨mN, hm0⟩ : ∃ n, S'.m = n := ⟨_, rfl⟩
        obtain ⟨cN, hc0⟩ : ∃ n, cntL S' = n := ⟨_, rfl⟩
        have hx1 := hS.out.ref.hh
        have hx2 := hS.out.ref.hm
        rw [hh0] at hx1
        rw [hm0] at hx2
        replace hx1 : Hid (wc.drew.cell? ⟨b', 128, none⟩ = some (.int .i64 (hN : Nat))) := Lib.hid hx1
        replace hx2 : Hid (wc.drew.cell? ⟨b', 129, none⟩ = some (.int .i64 (mN : Nat))) := Lib.hid hx2
        replace hS := Lib.hid (hS.out.keep K ((Below.refl _ _).drew))
        have hh := Lib.hid hh0
        have hm := Lib.hid hm0
        have hc := Lib.hid hc0
        clear hh0 hm0 hc0
        go_wp2_with fail
        refine wp_region_held_drew (S := (fun wr' => wr'.cell? ⟨b', 128, none⟩ = some (.int .i64 (hN : Nat)) ∧ wr'.cell? ⟨b', 129, none⟩ = some (.int .i64 (mN : Nat)))) (by kernel_rfl) ?_ (fun hHeld => ?_)
        · (try dsimp only); exact ⟨hx1.out, hx2.out⟩
        try simp only [Act.put, List.setIfInBounds_toArray, List.set_cons_zero, List.set_cons_succ]
        refine wpAnyH_take (i := 0) (oi := { dst := some 94, op := Op.move (Operand.tmp 3), type := 28, pos := "law.go:52", after := #[], guard := none }) (v := ?_) rfl (by kernel_rfl) (by kernel_rfl) (by kernel_rfl) (fun _ _ _ h => h) (Or.inl ⟨by rfl, ?_⟩) (by assumption) ?_
        rotate_left 1
        · intro w hSw; (try dsimp only at hSw); go_simp <;> with_reducible rfl
        try simp only [Act.put, List.setIfInBounds_toArray, List.set_cons_zero, List.set_cons_succ]
        refine wpAnyH_take (i := 2) (oi := { dst := some 96, op := Op.move (Operand.tmp 4), type := 38, pos := "law.go:52", after := #[], guard := none }) (v := ?_) rfl (by kernel_rfl) (by kernel_rfl) (by kernel_rfl) (fun _ _ _ h => h) (Or.inl ⟨by rfl, ?_⟩) (by assumption) ?_
        rotate_left 1
        · intro w hSw; (try dsimp only at hSw); go_simp <;> with_reducible rfl
        try simp only [Act.put, List.setIfInBounds_toArray, List.set_cons_zero, List.set_cons_succ]
        refine wpAnyH_take (i := 3) (oi := { dst := some 97, op := Op.nilCheck (Operand.tmp 96), type := 0, pos := "law.go:52", after := #[{ on := 2, ground := Ground.data }], guard := none }) (v := ?_) rfl (by kernel_rfl) (by kernel_rfl) (by kernel_rfl) (fun _ _ _ h => h) (Or.inl ⟨by rfl, ?_⟩) (by assumption) ?_
        rotate_left 1
        · intro w hSw; (try dsimp only at hSw); go_simp <;> with_reducible rfl
        try simp only [Act.put, List.setIfInBounds_toArray, List.set_cons_zero, List.set_cons_succ]
        refine wpAnyH_take (i := 4) (oi := { dst := some 98, op := Op.fieldAddr 42 (Operand.tmp 97) 4, type := 0, pos := "law.go:52", after := #[{ on := 3, ground := Ground.data }], guard := none }) (v := ?_) rfl (by kernel_rfl) (by kernel_rfl) (by kernel_rfl) (fun _ _ _ h => h) (Or.inl ⟨by rfl, ?_⟩) (by assumption) ?_
        rotate_left 1
        · intro w hSw; (try dsimp only at hSw); go_simp <;> with_reducible rfl
        try simp only [Act.put, List.setIfInBounds_toArray, List.set_cons_zero, List.set_cons_succ]
        refine wpAnyH_take (i := 5) (oi := { dst := some 99, op := Op.load 3 (Operand.tmp 98), type := 3, pos := "law.go:52", after := #[{ on := 4, ground := Ground.data }], guard := none }) (v := ?_) rfl (by kernel_rfl) (by kernel_rfl) (by kernel_rfl) (fun _ _ _ h => h) (Or.inl ⟨by rfl, ?_⟩) (by assumption) ?_
        rotate_left 1
        · intro w hSw; (try dsimp only at hSw); go_simp <;> with_reducible rfl
        try simp only [Act.put, List.setIfInBounds_toArray, List.set_cons_zero, List.set_cons_succ]
        refine wpAnyH_ready (rs := [1]) (by kernel_rfl) (by simp) ?_
        refine AllReadyH.cons (o := { dst := some 95, op := Op.call { callee := Callee.value (Operand.func 13), args := #[Operand.tmp 94], argTypes := #[28] }, type := 3, pos := "law.go:52", after := #[{ on := 0, ground := Ground.data }], guard := none }) rfl (fun K9 hK => ?_) ?_
        · go_simp
          with_reducible refine (hits_s K hS.out.pc hh.out).mono ?_
          rintro e y1 ⟨rfl, _, hb⟩
          replace hx1 := Lib.hid (cell_up hb hx1.out)
          replace hx2 := Lib.hid (cell_up hb hx2.out)
          replace hS := Lib.hid (hS.out.keep K hb)
          clear hb
          go_wp2_with fail
          refine hK.out _ _ ?_ ?_
          · (try dsimp only); exact ⟨hx1.out, hx2.out⟩
          clear hK K9 hHeld; intro hHeld
          try simp only [Act.put, List.setIfInBounds_toArray, List.set_cons_zero, List.set_cons_succ]
          refine wpAnyH_take (i := 6) (oi := { dst := some 100, op := Op.binOp BinOp.neq 3 (Operand.tmp 95) (Operand.tmp 99) 3, type := 4, pos := "law.go:52", after := #[{ on := 1, ground := Ground.data }, { on := 5, ground := Ground.data }], guard := none }) (v := ?_) rfl (by kernel_rfl) (by kernel_rfl) (by kernel_rfl) (fun _ _ _ h => h) (Or.inl ⟨by rfl, ?_⟩) (by assumption) ?_
          rotate_left 1
          · intro w hSw; (try dsimp only at hSw); go_simp <;> with_reducible rfl
          try simp only [Act.put, List.setIfInBounds_toArray, List.set_cons_zero, List.set_cons_succ]
          refine wpAnyH_take (i := 7) (oi := { dst := some 101, op := Op.move (Operand.tmp 100), type := 4, pos := "law.go:52", after := #[{ on := 6, ground := Ground.data }, { on := 1, ground := Ground.chain }], guard := none }) (v := ?_) rfl (by kernel_rfl) (by kernel_rfl) (by kernel_rfl) (fun _ _ _ h => h) (Or.inl ⟨by rfl, ?_⟩) (by assumption) ?_
          rotate_left 1
          · intro w hSw; (try dsimp only at hSw); go_simp <;> with_reducible rfl
          try simp only [Act.put, List.setIfInBounds_toArray, List.set_cons_zero, List.set_cons_succ]
          refine wpAnyH_take (i := 8) (oi := { dst := some 102, op := Op.move (Operand.tmp 3), type := 28, pos := "law.go:52", after := #[{ on := 7, ground := Ground.guard }], guard := some (7, false) }) (v := ?_) rfl (by kernel_rfl) (by kernel_rfl) (by kernel_rfl) (fun _ _ _ h => h) (Or.inl ⟨by rfl, ?_⟩) (by assumption) ?_
          rotate_left 1
          · intro w hSw; (try dsimp only at hSw); go_simp <;> with_reducible rfl
          try simp only [Act.put, List.setIfInBounds_toArray, List.set_cons_zero, List.set_cons_succ]
          refine wpAnyH_take (i := 10) (oi := { dst := some 104, op := Op.move (Operand.tmp 4), type := 38, pos := "law.go:52", after := #[{ on := 7, ground := Ground.guard }], guard := some (7, false) }) (v := ?_) rfl (by kernel_rfl) (by kernel_rfl) (by kernel_rfl) (fun _ _ _ h => h) (Or.inl ⟨by rfl, ?_⟩) (by assumption) ?_
          rotate_left 1
          · intro w hSw; (try dsimp only at hSw); go_simp <;> with_reducible rfl
          try simp only [Act.put, List.setIfInBounds_toArray, List.set_cons_zero, List.set_cons_succ]
          refine wpAnyH_take (i := 11) (oi := { dst := some 105, op := Op.nilCheck (Operand.tmp 104), type := 0, pos := "law.go:52", after := #[{ on := 10, ground := Ground.data }, { on := 7, ground := Ground.guard }], guard := some (7, false) }) (v := ?_) rfl (by kernel_rfl) (by kernel_rfl) (by kernel_rfl) (fun _ _ _ h => h) (Or.inl ⟨by rfl, ?_⟩) (by assumption) ?_
          rotate_left 1
          · intro w hSw; (try dsimp only at hSw); go_simp <;> with_reducible rfl
          try simp only [Act.put, List.setIfInBounds_toArray, List.set_cons_zero, List.set_cons_succ]
          refine wpAnyH_take (i := 12) (oi := { dst := some 106, op := Op.fieldAddr 42 (Operand.tmp 105) 5, type := 0, pos := "law.go:52", after := #[{ on := 11, ground := Ground.data }, { on := 7, ground := Ground.guard }], guard := some (7, false) }) (v := ?_) rfl (by kernel_rfl) (by kernel_rfl) (by kernel_rfl) (fun _ _ _ h => h) (Or.inl ⟨by rfl, ?_⟩) (by assumption) ?_
          rotate_left 1
          · intro w hSw; (try dsimp only at hSw); go_simp <;> with_reducible rfl
          try simp only [Act.put, List.setIfInBounds_toArray, List.set_cons_zero, List.set_cons_succ]
          refine wpAnyH_take (i := 13) (oi := { dst := some 107, op := Op.load 3 (Operand.tmp 106), type := 3, pos := "law.go:52", after := #[{ on := 12, ground := Ground.data }, { on := 7, ground := Ground.guard }], guard := some (7, false) }) (v := ?_) rfl (by kernel_rfl) (by kernel_rfl) (by kernel_rfl) (fun _ _ _ h => h) (Or.inl ⟨by rfl, ?_⟩) (by assumption) ?_
          rotate_left 1
          · intro w hSw; (try dsimp only at hSw); go_simp <;> with_reducible rfl
          try simp only [Act.put, List.setIfInBounds_toArray, List.set_cons_zero, List.set_cons_succ]
          refine wpAnyH_ready (rs := [9]) (by kernel_rfl) (by simp) ?_
          refine AllReadyH.cons (o := { dst := some 103, op := Op.call { callee := Callee.value (Operand.func 14), args := #[Operand.tmp 102], argTypes := #[28] }, type := 3, pos := "law.go:52", after := #[{ on := 8, ground := Ground.data }, { on := 7, ground := Ground.chain }, { on := 7, ground := Ground.guard }], guard := some (7, false) }) rfl (fun K9 hK => ?_) ?_
          · go_simp
            with_reducible refine (misses_s K hS.out.pc hm.out).mono ?_
            rintro e y2 ⟨rfl, _, hb⟩
            replace hx1 := Lib.hid (cell_up hb hx1.out)
            replace hx2 := Lib.hid (cell_up hb hx2.out)
            replace hS := Lib.hid (hS.out.keep K hb)
            clear hb
            go_wp2_with fail
            refine hK.out _ _ ?_ ?_
            · (try dsimp only); exact ⟨hx1.out, hx2.out⟩
            clear hK K9 hHeld; intro hHeld
            try simp only [Act.put, List.setIfInBounds_toArray, List.set_cons_zero, List.set_cons_succ]
            refine wpAnyH_take (i := 14) (oi := { dst := some 108, op := Op.binOp BinOp.neq 3 (Operand.tmp 103) (Operand.tmp 107) 3, type := 4, pos := "law.go:52", after := #[{ on := 9, ground := Ground.data }, { on := 13, ground := Ground.data }, { on := 7, ground := Ground.guard }], guard := some (7, false) }) (v := ?_) rfl (by kernel_rfl) (by kernel_rfl) (by kernel_rfl) (fun _ _ _ h => h) (Or.inl ⟨by rfl, ?_⟩) (by assumption) ?_
            rotate_left 1
            · intro w hSw; (try dsimp only at hSw); go_simp <;> with_reducible rfl
            try simp only [Act.put, List.setIfInBounds_toArray, List.set_cons_zero, List.set_cons_succ]
            refine wpAnyH_take (i := 15) (oi := { dst := some 109, op := Op.pick (Operand.tmp 101) (Operand.const (Value.bool true)) (Operand.tmp 108), type := 4, pos := "law.go:52", after := #[{ on := 7, ground := Ground.data }, { on := 14, ground := Ground.data }], guard := none }) (v := ?_) rfl (by kernel_rfl) (by kernel_rfl) (by kernel_rfl) (fun _ _ _ h => h) (Or.inl ⟨by rfl, ?_⟩) (by assumption) ?_
            rotate_left 1
            · intro w hSw; (try dsimp only at hSw); go_simp <;> with_reducible rfl
            try simp only [Act.put, List.setIfInBounds_toArray, List.set_cons_zero, List.set_cons_succ]
            refine wpAnyH_take (i := 16) (oi := { dst := some 110, op := Op.move (Operand.tmp 109), type := 4, pos := "law.go:52", after := #[{ on := 15, ground := Ground.data }, { on := 9, ground := Ground.chain }], guard := none }) (v := ?_) rfl (by kernel_rfl) (by kernel_rfl) (by kernel_rfl) (fun _ _ _ h => h) (Or.inl ⟨by rfl, ?_⟩) (by assumption) ?_
            rotate_left 1
            · intro w hSw; (try dsimp only at hSw); go_simp <;> with_reducible rfl
            try simp only [Act.put, List.setIfInBounds_toArray, List.set_cons_zero, List.set_cons_succ]
            refine wpAnyH_take (i := 17) (oi := { dst := some 111, op := Op.move (Operand.tmp 3), type := 28, pos := "law.go:52", after := #[{ on := 16, ground := Ground.guard }], guard := some (16, false) }) (v := ?_) rfl (by kernel_rfl) (by kernel_rfl) (by kernel_rfl) (fun _ _ _ h => h) (Or.inl ⟨by rfl, ?_⟩) (by assumption) ?_
            rotate_left 1
            · intro w hSw; (try dsimp only at hSw); go_simp <;> with_reducible rfl
            try simp only [Act.put, List.setIfInBounds_toArray, List.set_cons_zero, List.set_cons_succ]
            refine wpAnyH_take (i := 19) (oi := { dst := some 113, op := Op.move (Operand.tmp 4), type := 38, pos := "law.go:52", after := #[{ on := 16, ground := Ground.guard }], guard := some (16, false) }) (v := ?_) rfl (by kernel_rfl) (by kernel_rfl) (by kernel_rfl) (fun _ _ _ h => h) (Or.inl ⟨by rfl, ?_⟩) (by assumption) ?_
            rotate_left 1
            · intro w hSw; (try dsimp only at hSw); go_simp <;> with_reducible rfl
            try simp only [Act.put, List.setIfInBounds_toArray, List.set_cons_zero, List.set_cons_succ]
            refine wpAnyH_ready (rs := [18]) (by kernel_rfl) (by simp) ?_
            refine AllReadyH.cons (o := { dst := some 112, op := Op.call { callee := Callee.value (Operand.func 15), args := #[Operand.tmp 111], argTypes := #[28] }, type := 3, pos := "law.go:52", after := #[{ on := 17, ground := Ground.data }, { on := 16, ground := Ground.chain }, { on := 16, ground := Ground.guard }], guard := some (16, false) }) rfl (fun K9 hK => ?_) ?_
            · go_simp
              with_reducible refine (len_s K hS.out.pc hc.out).mono ?_
              rintro e y3 ⟨rfl, _, hb⟩
              replace hx1 := Lib.hid (cell_up hb hx1.out)
              replace hx2 := Lib.hid (cell_up hb hx2.out)
              replace hS := Lib.hid (hS.out.keep K hb)
              clear hb
              go_wp2_with fail
              refine hK.out _ _ ?_ ?_
              · (try dsimp only); exact ⟨hx1.out, hx2.out⟩
              clear hK K9 hHeld; intro hHeld
              try simp only [Act.put, List.setIfInBounds_toArray, List.set_cons_zero, List.set_cons_succ]
              refine wpAnyH_ready (rs := [20]) (by kernel_rfl) (by simp) ?_
              refine AllReadyH.cons (o := { dst := some 114, op := Op.call { callee := Callee.value (Operand.func 19), args := #[Operand.tmp 113], argTypes := #[38] }, type := 3, pos := "law.go:52", after := #[{ on := 19, ground := Ground.data }, { on := 18, ground := Ground.chain }, { on := 16, ground := Ground.guard }], guard := some (16, false) }) rfl (fun K9 hK => ?_) ?_
              · go_simp
                with_reducible refine (rlen_c hS.out.ref).mono ?_
                rintro e y4 ⟨he, hw⟩
                rw [hc.out] at he
                subst he
                subst y4
                go_wp2_with fail
                refine hK.out _ _ ?_ ?_
                · (try dsimp only); exact ⟨hx1.out, hx2.out⟩
                clear hK K9 hHeld; intro hHeld
                try simp only [Act.put, List.setIfInBounds_toArray, List.set_cons_zero, List.set_cons_succ]
                refine wpAnyH_take (i := 21) (oi := { dst := some 115, op := Op.binOp BinOp.neq 3 (Operand.tmp 112) (Operand.tmp 114) 3, type := 4, pos := "law.go:52", after := #[{ on := 18, ground := Ground.data }, { on := 20, ground := Ground.data }, { on := 16, ground := Ground.guard }], guard := some (16, false) }) (v := ?_) rfl (by kernel_rfl) (by kernel_rfl) (by kernel_rfl) (fun _ _ _ h => h) (Or.inl ⟨by rfl, ?_⟩) (by assumption) ?_
                rotate_left 1
                · intro w hSw; (try dsimp only at hSw); go_simp <;> with_reducible rfl
                try simp only [Act.put, List.setIfInBounds_toArray, List.set_cons_zero, List.set_cons_succ]
                refine wpAnyH_take (i := 22) (oi := { dst := some 116, op := Op.pick (Operand.tmp 110) (Operand.const (Value.bool true)) (Operand.tmp 115), type := 4, pos := "law.go:52", after := #[{ on := 16, ground := Ground.data }, { on := 21, ground := Ground.data }], guard := none }) (v := ?_) rfl (by kernel_rfl) (by kernel_rfl) (by kernel_rfl) (fun _ _ _ h => h) (Or.inl ⟨by rfl, ?_⟩) (by assumption) ?_
                rotate_left 1
                · intro w hSw; (try dsimp only at hSw); go_simp <;> with_reducible rfl
                try simp only [Act.put, List.setIfInBounds_toArray, List.set_cons_zero, List.set_cons_succ]
                refine wpAnyH_done (by kernel_rfl) ?_ _
                go_wp2_with fail
                go_roundw
                case rel => exact ⟨k + 1, _, b', _, by omega, by omega, rfl, by go_num, hS, hbS⟩
                case measure => simp [intOf]; omega
              exact AllReadyH.nil
            exact AllReadyH.nil
          exact AllReadyH.nil
        exact AllReadyH.nil
    · by_cases hlt1 : k < n
      · have d1 : decide ((k : Int) < (n : Int)) = true := by simp; omega
        have d2 : decide ((k : Int) < 150) = false := by simp; omega
        go_wp2
        go_ret
        exact ⟨rfl, hS.out.pc.bel⟩
      · have d1 : decide ((k : Int) < (n : Int)) = false := by simp; omega
        go_wp2
        go_ret
        exact ⟨rfl, hS.out.pc.bel⟩
end Wd
end Go.Proofs.Ytpilbpofikdkmaa
