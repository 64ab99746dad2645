/- What the laws ask of a dict: play. -/
import Derived.Test.YtdpckckfkpefnaaJLaw
import Derived.Deep.CutBlock
import Derived.Deep.DeepCutAuto
import Derived.Deep.RegionHeld3
namespace Go.Proofs.Ytdpckckfkpefnaa
open Go.RowKit
set_option linter.unusedVariables false
set_option maxRecDepth 20000
namespace Wd
theorem ch_cell {F : Nat → Prop} {w w' : World} {a : Addr} {v : Value} (h : w.cell? a = some v) (c : Ch F w w') (hF : ¬ F a.block) : w'.cell? a = some v :=
  (World.cell?_of_block (c.block a.block (World.block_lt_of_cell? w _ h) hF)).trans h
/-- a dict of the package's, and one of the document's, both of the call's own -/
structure PlS (DA : DAt) (w0 wr : World) (p b : Nat) (D : Dst) (F : Nat → Prop) : Prop where
  pd : PD DA w0 wr p D F
  ref : RefD wr b D
  nf : ¬ F b
  fb : w0.heap.size ≤ b
/-- the package's has been asked, the document's not yet -/
structure PlM (DA : DAt) (w0 wr : World) (p b : Nat) (D D' : Dst) (F : Nat → Prop) : Prop where
  pd : PD DA w0 wr p D' F
  ref : RefD wr b D
  nf : ¬ F b
  fb : w0.heap.size ≤ b
section
variable {DA : DAt} {w0 wr wA w1 : World} {p b : Nat} {D D' : Dst} {F F' : Nat → Prop}
theorem PlS.keep (K : DicK DA) (h : PlS DA w0 wr p b D F) (g : Below wr.heap.size wr wA) : PlS DA w0 wA p b D F :=
  ⟨h.pd.keep K g, h.ref.keep g, h.nf, h.fb⟩
theorem PlS.mid (h : PlS DA w0 wr p b D F) (hm : PD DA w0 w1 p D' F') (c : Ch F wr w1) (hn : Newer F F' wr.heap.size) : PlM DA w0 w1 p b D D' F' :=
  ⟨hm, h.ref.same (c.block b h.ref.lt h.nf), fun hF => by rcases hn b hF with e | e; exact h.nf e; have := h.ref.lt; omega, h.fb⟩
theorem PlM.last (K : DicK DA) (h : PlM DA w0 wr p b D D' F) (hr : RefD w1 b D') (c : Ch (fun k => k = b) wr w1) : PlS DA w0 w1 p b D' F :=
  ⟨⟨K.keep h.pd.da (fun k hk => c.block k (K.lt h.pd.da k hk) (fun e => h.nf (e ▸ hk))), below_ch h.pd.bel c (fun k hk => by subst hk; exact h.fb), h.pd.fF⟩, hr, h.nf, h.fb⟩
end
/-- asks that came in -/
def AskV (w : World) (ad : Option Addr) (n : Nat) : Prop := ∀ k, k < n → ∃ (g off : Nat) (x y z : Int), ad = some ⟨g, off, none⟩ ∧ I64 x ∧ I64 y ∧ I64 z ∧ w.cell? ⟨g, off + k * 3, none⟩ = some (.int .i64 x) ∧ w.cell? ⟨g, off + k * 3 + 1, none⟩ = some (.int .i64 y) ∧ w.cell? ⟨g, off + k * 3 + 2, none⟩ = some (.int .i64 z)
theorem AskV.up {w w' : World} {ad : Option Addr} {n : Nat} (h : AskV w ad n) (b : Below w.heap.size w w') : AskV w' ad n := by
  intro k hk
  obtain ⟨g, off, x, y, z, e, i1, i2, i3, c0, c1, c2⟩ := h k hk
  exact ⟨g, off, x, y, z, e, i1, i2, i3, cell_up b c0, cell_up b c1, cell_up b c2⟩
/-- three numbers in a block -/
def Row3 (w : World) (g : Nat) : Prop := ∀ j, j < 3 → ∃ s, I64 s ∧ w.cell? ⟨g, j, none⟩ = some (.int .i64 s)
theorem Row3.up {w w' : World} {g : Nat} (h : Row3 w g) (b : Below w.heap.size w w') : Row3 w' g := fun j hj => by
  obtain ⟨s, i, c⟩ := h j hj
  exact ⟨s, i, cell_up b c⟩
theorem row3_new (w : World) (x y z : Int) (hx : I64 x) (hy : I64 y) (hz : I64 z) : Row3 (w.alloc (.cells #[.int .i64 x, .int .i64 y, .int .i64 z] 3)) w.heap.size := by
  intro j hj
  rcases (show j = 0 ∨ j = 1 ∨ j = 2 by omega) with rfl | rfl | rfl
  · exact ⟨x, hx, by simp⟩
  · exact ⟨y, hy, by simp⟩
  · exact ⟨z, hz, by simp⟩
set_option maxHeartbeats 16000000 in
theorem play_any {DA : DAt} (K : DicK DA) {w : World} {ad : Option Addr} {n cap : Nat} (HA : AskV w ad n) (hn : n ≤ 9223372036854775807) :
    Calls Try.prog 7 #[.slice ad n cap] w fun e w' => e = .returned (.bool true) ∧ Below w.heap.size w w' := by
  replace HA := Lib.hid HA
  go_enter Try.func7, Try.ntmps7
  go_upto_region 2 with (first | (go_at_call 11; ((with_reducible refine (new_s K _).mono ?_); rintro e1 w1 ⟨p, F, rfl, h0⟩)) | (go_at_call 16; ((with_reducible refine (new_c _).mono ?_); rintro e2 w2 ⟨b, rfl, hR, hb, hB⟩)))
  have st0 : Hid (PlS DA w w2 p b D0 F) := Lib.hid ⟨h0.keep K hB, hR, fun h => by have := K.lt h0.da b h; omega, Nat.le_trans h0.bel.size hb⟩
  clear h0 hR hb hB
  go_wp2
  go_loopw [5] (fun i5 wr => ∃ (k : Nat) (D : Dst) (F : Nat → Prop), k ≤ n ∧ k ≤ 100 ∧ i5 = .int .i64 k ∧ Hid (PlS DA w wr p b D F)) (fun i5 _ => 100 - (intOf i5).toNat)
  case atStart => exact ⟨0, _, _, by omega, by omega, rfl, st0⟩
  case round =>
    clear st0
    obtain ⟨k, D, F, hk, hk2, rfl, hS⟩ := hrel
    by_cases hlt : k < n ∧ k < 100
    · have d1 : decide ((k : Int) < (n : Int)) = true := by simp; omega
      have d2 : decide ((k : Int) < 100) = true := by simp; omega
      have p0 : (0 : Int) ≤ (k : Int) := by omega
      have p1 : (k : Int) < (n : Int) := by omega
      have hk99 : k < 100 := hlt.2
      obtain ⟨g, off, x, y, z, rfl, ix, iy, iz, c0, c1, c2⟩ := (HA.out.up hS.out.pd.bel) k hlt.1
      have hy := Lib.hid iy
      have hz := Lib.hid iz
      obtain ⟨iy0, iy1⟩ := iy
      have hw16 : IntKind.i64.wrap (16 * (k : Int)) = 16 * (k : Int) := by rw [IntKind.wrap_i64]; omega
      have hBb : Below wr.heap.size wr (wr.alloc (.cells #[.int .i64 x, .int .i64 y, .int .i64 z] 25)) := (Below.refl _ _).alloc (Nat.le_refl _) _
      have hS0 := Lib.hid (hS.out.keep K hBb)
      have hx0 : Hid ((wr.alloc (.cells #[.int .i64 x, .int .i64 y, .int .i64 z] 25)).cell? ⟨wr.heap.size, 0, none⟩ = some (.int .i64 x)) := Lib.hid (by simp)
      have hx1 : Hid ((wr.alloc (.cells #[.int .i64 x, .int .i64 y, .int .i64 z] 25)).cell? ⟨wr.heap.size, 1, none⟩ = some (.int .i64 y)) := Lib.hid (by simp)
      have hx2 : Hid ((wr.alloc (.cells #[.int .i64 x, .int .i64 y, .int .i64 z] 25)).cell? ⟨wr.heap.size, 2, none⟩ = some (.int .i64 z)) := Lib.hid (by simp)
      have hBF : Hid (¬ F wr.heap.size ∧ ¬ wr.heap.size = b) := Lib.hid ⟨fun h => by have := K.lt hS.out.pd.da _ h; omega, fun h => by have := hS.out.ref.lt; omega⟩
      clear ix iz hBb
      go_upto_region 8 with fail
      replace hS := hS0
      clear hS0 c0 c1 c2
      generalize wr.alloc (.cells #[.int .i64 x, .int .i64 y, .int .i64 z] 25) = W at *
      generalize wr.heap.size = B at *
      have c0 := hx0.out
      go_upto_if 33 with fail
      go_cut [] (fun wx => ∃ (D' : Dst) (F' : Nat → Prop), Hid (PlS DA w wx p b D' F') ∧ Hid (wx.cell? ⟨B, 1, none⟩ = some (.int .i64 y)))
      case first =>
        as_aux_lemma =>
        by_cases h2 : x = 2
        · have h2' : (x != 2) = false := by simp [h2]
          have h2'' : (x == 2) = true := by simp [h2]
          clear h2
          go_wp2_with fail
          go_meet
          exact ⟨D, F, hS, hx1⟩
        · have h2' : (x != 2) = true := by simp [h2]
          have h2'' : (x == 2) = false := by simp [h2]
          replace hS := Lib.hid (hS.out.keep K ((Below.refl _ _).drew))
          replace hx1 : Hid (W.drew.cell? ⟨B, 1, none⟩ = some (.int .i64 y)) := Lib.hid hx1.out
          replace hx2 : Hid (W.drew.cell? ⟨B, 2, none⟩ = some (.int .i64 z)) := Lib.hid hx2.out
          clear h2 c0 hx0
          go_wp2_with fail
          refine wp_region_held_drew (S := (fun wr' => wr'.cell? ⟨B, 1, none⟩ = some (.int .i64 y) ∧ wr'.cell? ⟨B, 2, none⟩ = some (.int .i64 z))) (by kernel_rfl) ?_ (fun hHeld => ?_)
          · (try dsimp only); exact ⟨hx1.out, hx2.out⟩
          try simp only [Act.put, List.setIfInBounds_toArray, List.set_cons_zero, List.set_cons_succ]
          refine wpAnyH_take (i := 0) (oi := { dst := some 34, op := Op.move (Operand.tmp 3), type := 34, pos := "law.go:40", after := #[], guard := none }) (v := ?_) rfl (by kernel_rfl) (by kernel_rfl) (by kernel_rfl) (fun _ _ _ h => h) (Or.inl ⟨by rfl, ?_⟩) (by assumption) ?_
          rotate_left 1
          · intro w hSw; (try dsimp only at hSw); go_simp <;> with_reducible rfl
          try simp only [Act.put, List.setIfInBounds_toArray, List.set_cons_zero, List.set_cons_succ]
          refine wpAnyH_take (i := 1) (oi := { dst := some 35, op := Op.fieldAddr 25 (Operand.tmp 6) 1, type := 0, pos := "law.go:40", after := #[], guard := none }) (v := ?_) rfl (by kernel_rfl) (by kernel_rfl) (by kernel_rfl) (fun _ _ _ h => h) (Or.inl ⟨by rfl, ?_⟩) (by assumption) ?_
          rotate_left 1
          · intro w hSw; (try dsimp only at hSw); go_simp <;> with_reducible rfl
          try simp only [Act.put, List.setIfInBounds_toArray, List.set_cons_zero, List.set_cons_succ]
          refine wpAnyH_take (i := 2) (oi := { dst := some 36, op := Op.load 3 (Operand.tmp 35), type := 3, pos := "law.go:40", after := #[{ on := 1, ground := Ground.data }], guard := none }) (v := ?_) rfl (by kernel_rfl) (by kernel_rfl) (by kernel_rfl) (fun _ _ _ h => h) (Or.inl ⟨by rfl, ?_⟩) (by assumption) ?_
          rotate_left 1
          · intro w hSw; (try dsimp only at hSw); go_simp <;> with_reducible rfl
          try simp only [Act.put, List.setIfInBounds_toArray, List.set_cons_zero, List.set_cons_succ]
          refine wpAnyH_take (i := 3) (oi := { dst := some 37, op := Op.fieldAddr 25 (Operand.tmp 6) 2, type := 0, pos := "law.go:40", after := #[], guard := none }) (v := ?_) rfl (by kernel_rfl) (by kernel_rfl) (by kernel_rfl) (fun _ _ _ h => h) (Or.inl ⟨by rfl, ?_⟩) (by assumption) ?_
          rotate_left 1
          · intro w hSw; (try dsimp only at hSw); go_simp <;> with_reducible rfl
          try simp only [Act.put, List.setIfInBounds_toArray, List.set_cons_zero, List.set_cons_succ]
          refine wpAnyH_take (i := 4) (oi := { dst := some 38, op := Op.load 3 (Operand.tmp 37), type := 3, pos := "law.go:40", after := #[{ on := 3, ground := Ground.data }], guard := none }) (v := ?_) rfl (by kernel_rfl) (by kernel_rfl) (by kernel_rfl) (fun _ _ _ h => h) (Or.inl ⟨by rfl, ?_⟩) (by assumption) ?_
          rotate_left 1
          · intro w hSw; (try dsimp only at hSw); go_simp <;> with_reducible rfl
          try simp only [Act.put, List.setIfInBounds_toArray, List.set_cons_zero, List.set_cons_succ]
          refine wpAnyH_take (i := 6) (oi := { dst := some 40, op := Op.move (Operand.tmp 4), type := 45, pos := "law.go:40", after := #[], guard := none }) (v := ?_) rfl (by kernel_rfl) (by kernel_rfl) (by kernel_rfl) (fun _ _ _ h => h) (Or.inl ⟨by rfl, ?_⟩) (by assumption) ?_
          rotate_left 1
          · intro w hSw; (try dsimp only at hSw); go_simp <;> with_reducible rfl
          try simp only [Act.put, List.setIfInBounds_toArray, List.set_cons_zero, List.set_cons_succ]
          refine wpAnyH_take (i := 7) (oi := { dst := some 41, op := Op.fieldAddr 25 (Operand.tmp 6) 1, type := 0, pos := "law.go:40", after := #[], guard := none }) (v := ?_) rfl (by kernel_rfl) (by kernel_rfl) (by kernel_rfl) (fun _ _ _ h => h) (Or.inl ⟨by rfl, ?_⟩) (by assumption) ?_
          rotate_left 1
          · intro w hSw; (try dsimp only at hSw); go_simp <;> with_reducible rfl
          try simp only [Act.put, List.setIfInBounds_toArray, List.set_cons_zero, List.set_cons_succ]
          refine wpAnyH_take (i := 8) (oi := { dst := some 42, op := Op.load 3 (Operand.tmp 41), type := 3, pos := "law.go:40", after := #[{ on := 7, ground := Ground.data }], guard := none }) (v := ?_) rfl (by kernel_rfl) (by kernel_rfl) (by kernel_rfl) (fun _ _ _ h => h) (Or.inl ⟨by rfl, ?_⟩) (by assumption) ?_
          rotate_left 1
          · intro w hSw; (try dsimp only at hSw); go_simp <;> with_reducible rfl
          try simp only [Act.put, List.setIfInBounds_toArray, List.set_cons_zero, List.set_cons_succ]
          refine wpAnyH_take (i := 9) (oi := { dst := some 43, op := Op.fieldAddr 25 (Operand.tmp 6) 2, type := 0, pos := "law.go:40", after := #[], guard := none }) (v := ?_) rfl (by kernel_rfl) (by kernel_rfl) (by kernel_rfl) (fun _ _ _ h => h) (Or.inl ⟨by rfl, ?_⟩) (by assumption) ?_
          rotate_left 1
          · intro w hSw; (try dsimp only at hSw); go_simp <;> with_reducible rfl
          try simp only [Act.put, List.setIfInBounds_toArray, List.set_cons_zero, List.set_cons_succ]
          refine wpAnyH_take (i := 10) (oi := { dst := some 44, op := Op.load 3 (Operand.tmp 43), type := 3, pos := "law.go:40", after := #[{ on := 9, ground := Ground.data }], guard := none }) (v := ?_) rfl (by kernel_rfl) (by kernel_rfl) (by kernel_rfl) (fun _ _ _ h => h) (Or.inl ⟨by rfl, ?_⟩) (by assumption) ?_
          rotate_left 1
          · intro w hSw; (try dsimp only at hSw); go_simp <;> with_reducible rfl
          try simp only [Act.put, List.setIfInBounds_toArray, List.set_cons_zero, List.set_cons_succ]
          refine wpAnyH_ready (rs := [5]) (by kernel_rfl) (by simp) ?_
          refine AllReadyH.cons (o := { dst := some 39, op := Op.call { callee := Callee.value (Operand.func 12), args := #[Operand.tmp 34, Operand.tmp 36, Operand.tmp 38], argTypes := #[34, 3, 3] }, type := 4, pos := "law.go:40", after := #[{ on := 0, ground := Ground.data }, { on := 2, ground := Ground.data }, { on := 4, ground := Ground.data }], guard := none }) rfl (fun K9 hK => ?_) ?_
          · go_simp
            with_reducible refine (put_s K hS.out.pd hy.out hz.out rfl rfl).mono ?_
            rintro e y1 ⟨F', rfl, h0, hc, hn⟩
            have hM := Lib.hid (hS.out.mid h0 hc hn)
            replace hx1 := Lib.hid (ch_cell hx1.out hc (hBF.out.1))
            replace hx2 := Lib.hid (ch_cell hx2.out hc (hBF.out.1))
            clear h0 hc hn
            go_wp2_with fail
            refine hK.out _ _ ?_ ?_
            · (try dsimp only); exact ⟨hx1.out, hx2.out⟩
            clear hK K9 hHeld; intro hHeld
            try simp only [Act.put, List.setIfInBounds_toArray, List.set_cons_zero, List.set_cons_succ]
            refine wpAnyH_ready (rs := [11]) (by kernel_rfl) (by simp) ?_
            refine AllReadyH.cons (o := { dst := some 45, op := Op.call { callee := Callee.value (Operand.func 17), args := #[Operand.tmp 40, Operand.tmp 42, Operand.tmp 44], argTypes := #[45, 3, 3] }, type := 4, pos := "law.go:40", after := #[{ on := 6, ground := Ground.data }, { on := 8, ground := Ground.data }, { on := 10, ground := Ground.data }, { on := 5, ground := Ground.chain }], guard := none }) rfl (fun K9 hK => ?_) ?_
            · go_simp
              with_reducible refine (put_c hM.out.ref y z hy.out hz.out).mono ?_
              rintro e y2 ⟨rfl, h0, hc⟩
              have hS2 := Lib.hid (hM.out.last K h0 hc)
              replace hx1 := Lib.hid (ch_cell hx1.out hc (hBF.out.2))
              replace hx2 := Lib.hid (ch_cell hx2.out hc (hBF.out.2))
              clear h0 hc
              go_wp2_with fail
              refine hK.out _ _ ?_ ?_
              · (try dsimp only); exact ⟨hx1.out, hx2.out⟩
              clear hK K9 hHeld; intro hHeld
              try simp only [Act.put, List.setIfInBounds_toArray, List.set_cons_zero, List.set_cons_succ]
              refine wpAnyH_take (i := 12) (oi := { dst := some 46, op := Op.binOp BinOp.neq 4 (Operand.tmp 39) (Operand.tmp 45) 4, type := 4, pos := "law.go:40", after := #[{ on := 5, ground := Ground.data }, { on := 11, ground := Ground.data }], guard := none }) (v := ?_) rfl (by kernel_rfl) (by kernel_rfl) (by kernel_rfl) (fun _ _ _ h => h) (Or.inl ⟨by rfl, ?_⟩) (by assumption) ?_
              rotate_left 1
              · intro w hSw; (try dsimp only at hSw); go_simp <;> with_reducible rfl
              try simp only [Act.put, List.setIfInBounds_toArray, List.set_cons_zero, List.set_cons_succ]
              refine wpAnyH_done (by kernel_rfl) ?_ _
              go_wp2_with fail
              go_meet
              exact ⟨_, _, hS2, hx1⟩
            exact AllReadyH.nil
          exact AllReadyH.nil
      case rest =>
        as_aux_lemma =>
        clear hS hx0 hx1 hx2 hBF c0
        obtain ⟨D', F', hS, hx1⟩ := hcut
        have c1 := hx1.out
        have hik : I64 (k : Int) := ⟨by omega, by omega⟩
        have hi16 : I64 (16 * (k : Int)) := ⟨by omega, by omega⟩
        have hT0 := Lib.hid (row3_new wc y (k : Int) (16 * (k : Int)) hy.out hik hi16)
        have hS0 := Lib.hid (hS.out.keep K ((Below.refl _ _).alloc (Nat.le_refl _) (.cells #[.int .i64 y, .int .i64 (k : Int), .int .i64 (16 * (k : Int))] 3)))
        go_wp2
        clear hS hx1 c1
        generalize wc.alloc (.cells #[.int .i64 y, .int .i64 (k : Int), .int .i64 (16 * (k : Int))] 3) = W3 at *
        generalize wc.heap.size = g3 at *
        go_loopw [54] (fun i54 wx => ∃ j : Nat, j ≤ 3 ∧ i54 = .int .i64 j ∧ Hid (PlS DA w wx p b D' F') ∧ Hid (Row3 wx g3)) (fun i54 _ => 3 - (intOf i54).toNat)
        case atStart => exact ⟨0, by omega, rfl, hS0, hT0⟩
        case round =>
          clear hS0 hT0
          obtain ⟨j, hj, rfl, hS, hT⟩ := hrel
          by_cases hjt : j < 3
          · have e1 : decide ((j : Int) < 3) = true := by simp; omega
            have r0 : (0 : Int) ≤ (j : Int) := by omega
            have r1 : (j : Int) < 3 := by omega
            obtain ⟨s, hs64, hcl⟩ := hT.out j hjt
            have hs := Lib.hid hs64
            obtain ⟨a1, a2, hf0⟩ : ∃ a1 a2, findD D' s = (a1, a2) := ⟨_, _, rfl⟩
            have hf := Lib.hid hf0
            clear hf0 hs64
            go_wp2_with (first | (go_at_call 13; ((with_reducible refine (find_s K hS.out.pd hs.out hf.out).mono ?_); rintro e y5 ⟨rfl, _, hb⟩; have hS2 := Lib.hid (hS.out.keep K hb); have hT2 := Lib.hid (hT.out.up hb); clear hb)) | (go_at_call 18; ((with_reducible refine (find_c hS2.out.ref s hs.out).mono ?_); rintro e y6 ⟨he6, hw⟩; rw [hf.out] at he6; subst he6; subst y6)))
            go_roundw
            case rel => exact ⟨j + 1, by omega, by go_num, hS2, hT2⟩
            case measure => simp [intOf]; omega
          · have e1 : decide ((j : Int) < 3) = false := by simp; omega
            obtain ⟨m, hm0⟩ : ∃ m, cnt D' = m := ⟨_, rfl⟩
            have hm := Lib.hid hm0
            clear hm0
            go_wp2_with (first | (go_at_call 14; ((with_reducible refine (len_s K hS.out.pd hm.out).mono ?_); rintro e y5 ⟨rfl, _, hb⟩; replace hS := Lib.hid (hS.out.keep K hb); clear hb)) | (go_at_call 19; ((with_reducible refine (count_c hS.out.ref).mono ?_); rintro e y6 ⟨he6, hw⟩; rw [hm.out] at he6; subst he6; subst y6)))
            go_roundw
            case rel => exact ⟨k + 1, D', F', by omega, by omega, by go_num, hS⟩
            case measure => simp [intOf]; omega
    · by_cases hlt1 : k < n
      · have d1 : decide ((k : Int) < (n : Int)) = true := by simp; omega
        have d2 : decide ((k : Int) < 100) = false := by simp; omega
        go_wp2
        go_ret
        exact ⟨rfl, hS.out.pd.bel⟩
      · have d1 : decide ((k : Int) < (n : Int)) = false := by simp; omega
        go_wp2
        go_ret
        exact ⟨rfl, hS.out.pd.bel⟩
end Wd
end Go.Proofs.Ytdpckckfkpefnaa
