/- DictTells, over what the laws ask of the package. -/
import Derived.Test.YtdpckckfkpefnaaJRow
import Derived.Deep.RegionHeld3
import Derived.Laws.Bits128
namespace Go.Proofs.Ytdpckckfkpefnaa
open Go.RowKit
set_option linter.unusedVariables false
set_option maxRecDepth 20000
namespace Wd
theorem msk64 (y m : Int) : ∃ r, bits .and .i64 y m = r ∧ I64 r := ⟨_, rfl, bits_within .and .i64 y m⟩
set_option maxHeartbeats 32000000 in
theorem tells_any {DA : DAt} (K : DicK DA) {w : World} {ad : Option Addr} {n cap : Nat} (HA : AskV w ad n) (hn : n * 24 ≤ 140737488351232) {v : Value} {L : List (Int × Int)} (HP : PrV w v L) :
    Calls Try.prog 4 #[.slice ad n cap, v] w fun e w' => e = .returned (.bool true) ∧ Below w.heap.size w w' := by
  obtain ⟨i0, hi0, hz0, hz1, hz2⟩ := info_parts infoAsk
  obtain ⟨j0, hj0, hy0, hy1, hy2⟩ := info_parts infoBind
  have hmx : 10000000000000 ≤ maxLen := by decide
  have hn63 : n ≤ 9223372036854775807 := by omega
  obtain ⟨bd, bcap, rfl, hbc, hbm⟩ := HP.form
  obtain ⟨nb, hnb⟩ : ∃ nb, nb = L.length := ⟨_, rfl⟩
  rw [← hnb] at HP hbc ⊢
  have hnb' := Lib.hid hnb
  have hnb63 : nb ≤ 9223372036854775807 := by have : maxLen ≤ 9223372036854775807 := by decide
                                              omega
  replace HA := Lib.hid HA
  replace HP := Lib.hid HP
  clear hnb
  have hst : Hid (w.ownsRow w.heap.size 25 3 (.slice none 0 0) 0 (ak3 [])) := Lib.hid (World.ownsRow_nil _ _ _ _)
  go_enter Try.func4, Try.ntmps4
  go_wp2
  go_loopw [5, 11] (fun i5 i11 wr => ∃ (i : Nat) (a : Option Addr) (c : Nat) (T : List (Int × Int × Int)), i ≤ n ∧ i11 = .int .i64 i ∧ i5 = .slice a i c ∧ Hid (wr.ownsRow w.heap.size 25 3 (.slice a i c) i (ak3 T)) ∧ Hid (∀ x ∈ T, I64 x.1 ∧ I64 x.2.1 ∧ I64 x.2.2) ∧ Hid (i = T.length) ∧ Hid (Below w.heap.size w wr)) (fun _ i11 _ => n - (intOf i11).toNat)
  case atStart => exact ⟨0, none, 0, [], by omega, rfl, rfl, hst, Lib.hid (by simp), Lib.hid rfl, Lib.hid (Below.refl _ _)⟩
  case round =>
    clear hst
    obtain ⟨i, a, c, T, hin, rfl, rfl, hO, hT, hl, hB⟩ := hrel
    by_cases hlt : i < n
    · have d1 : decide ((i : Int) < (n : Int)) = true := by simp; omega
      have p0 : (0 : Int) ≤ (i : Int) := by omega
      have p1 : (i : Int) < (n : Int) := by omega
      obtain ⟨g, off, x, y, z, rfl, ix, iy, iz, c0, c1, c2⟩ := HA.out i hlt
      have c0w := Lib.hid c0
      have c1w := Lib.hid c1
      have c2w := Lib.hid c2
      clear c0 c1 c2
      have PW := Lib.hid (within_c x 0 2 ix.1 ix.2 (by omega) (by omega) (by omega))
      have hwb := within_bd x 0 2 (by omega)
      generalize within x 0 2 = q at *
      obtain ⟨m1, hm1, im⟩ := msk64 y 63
      have hbT : Hid (Hid (∀ t ∈ T ++ [(q, m1, z)], I64 t.1 ∧ I64 t.2.1 ∧ I64 t.2.2)) := Lib.hid (Lib.hid (fun t ht => by
        rcases List.mem_append.1 ht with h | h
        · exact hT.out t h
        · have e : t = (q, m1, z) := by simpa using h
          rw [e]; exact ⟨⟨by simp only; omega, by simp only; omega⟩, im, iz⟩))
      have hlT : Hid (Hid (i + 1 = (T ++ [(q, m1, z)]).length)) := Lib.hid (Lib.hid (by have := hl.out; simp; omega))
      clear ix iy iz im hT hl
      go_upto_region 5 with fail
      refine wp_region_held_drew (S := (fun wr' => wr'.cell? ⟨g, off + i * 3, none⟩ = some (.int .i64 x) ∧ wr'.cell? ⟨g, off + i * 3 + 1, none⟩ = some (.int .i64 y) ∧ wr'.cell? ⟨g, off + i * 3 + 2, none⟩ = some (.int .i64 z) ∧ Below w.heap.size w wr')) (by kernel_rfl) ?_ (fun hHeld => ?_)
      · (try dsimp only); exact (fun hQ => ⟨cell_up hQ c0w.out, cell_up hQ c1w.out, cell_up hQ c2w.out, hQ⟩) hB.out.drew
      try simp only [Act.put, List.setIfInBounds_toArray, List.set_cons_zero, List.set_cons_succ]
      refine wpAnyH_take (i := 0) (oi := { dst := some 14, op := Op.move (Operand.tmp 5), type := 22, pos := "law.go:109", after := #[], guard := none }) (v := ?_) rfl (by kernel_rfl) (by kernel_rfl) (by kernel_rfl) (fun _ _ _ h => h) (Or.inl ⟨by rfl, ?_⟩) (by assumption) ?_
      rotate_left 1
      · intro w hSw; (try dsimp only at hSw); go_simp <;> with_reducible rfl
      try simp only [Act.put, List.setIfInBounds_toArray, List.set_cons_zero, List.set_cons_succ]
      refine wpAnyH_take (i := 1) (oi := { dst := some 15, op := Op.move (Operand.tmp 0), type := 22, pos := "law.go:109", after := #[], guard := none }) (v := ?_) rfl (by kernel_rfl) (by kernel_rfl) (by kernel_rfl) (fun _ _ _ h => h) (Or.inl ⟨by rfl, ?_⟩) (by assumption) ?_
      rotate_left 1
      · intro w hSw; (try dsimp only at hSw); go_simp <;> with_reducible rfl
      try simp only [Act.put, List.setIfInBounds_toArray, List.set_cons_zero, List.set_cons_succ]
      refine wpAnyH_take (i := 2) (oi := { dst := some 16, op := Op.move (Operand.tmp 6), type := 3, pos := "law.go:109", after := #[], guard := none }) (v := ?_) rfl (by kernel_rfl) (by kernel_rfl) (by kernel_rfl) (fun _ _ _ h => h) (Or.inl ⟨by rfl, ?_⟩) (by assumption) ?_
      rotate_left 1
      · intro w hSw; (try dsimp only at hSw); go_simp <;> with_reducible rfl
      try simp only [Act.put, List.setIfInBounds_toArray, List.set_cons_zero, List.set_cons_succ]
      refine wpAnyH_take (i := 3) (oi := { dst := some 17, op := Op.indexAddr 22 (Operand.tmp 15) (Operand.tmp 16), type := 0, pos := "law.go:109", after := #[{ on := 1, ground := Ground.data }, { on := 2, ground := Ground.data }], guard := none }) (v := ?_) rfl (by kernel_rfl) (by kernel_rfl) (by kernel_rfl) (fun _ _ _ h => h) (Or.inl ⟨by rfl, ?_⟩) (by assumption) ?_
      rotate_left 1
      · intro w hSw; (try dsimp only at hSw); go_simp <;> with_reducible rfl
      try simp only [Act.put, List.setIfInBounds_toArray, List.set_cons_zero, List.set_cons_succ]
      refine wpAnyH_take (i := 4) (oi := { dst := some 18, op := Op.fieldAddr 25 (Operand.tmp 17) 0, type := 0, pos := "law.go:109", after := #[{ on := 3, ground := Ground.data }], guard := none }) (v := ?_) rfl (by kernel_rfl) (by kernel_rfl) (by kernel_rfl) (fun _ _ _ h => h) (Or.inl ⟨by rfl, ?_⟩) (by assumption) ?_
      rotate_left 1
      · intro w hSw; (try dsimp only at hSw); go_simp <;> with_reducible rfl
      try simp only [Act.put, List.setIfInBounds_toArray, List.set_cons_zero, List.set_cons_succ]
      refine wpAnyH_take (i := 5) (oi := { dst := some 19, op := Op.load 3 (Operand.tmp 18), type := 3, pos := "law.go:109", after := #[{ on := 4, ground := Ground.data }], guard := none }) (v := ?_) rfl (by kernel_rfl) (by kernel_rfl) (by kernel_rfl) (fun _ _ _ h => h) (Or.inl ⟨by rfl, ?_⟩) (by assumption) ?_
      rotate_left 1
      · intro w hSw; (try dsimp only at hSw); go_simp <;> with_reducible rfl
      try simp only [Act.put, List.setIfInBounds_toArray, List.set_cons_zero, List.set_cons_succ]
      refine wpAnyH_take (i := 7) (oi := { dst := some 21, op := Op.move (Operand.tmp 0), type := 22, pos := "law.go:109", after := #[], guard := none }) (v := ?_) rfl (by kernel_rfl) (by kernel_rfl) (by kernel_rfl) (fun _ _ _ h => h) (Or.inl ⟨by rfl, ?_⟩) (by assumption) ?_
      rotate_left 1
      · intro w hSw; (try dsimp only at hSw); go_simp <;> with_reducible rfl
      try simp only [Act.put, List.setIfInBounds_toArray, List.set_cons_zero, List.set_cons_succ]
      refine wpAnyH_take (i := 8) (oi := { dst := some 22, op := Op.move (Operand.tmp 6), type := 3, pos := "law.go:109", after := #[], guard := none }) (v := ?_) rfl (by kernel_rfl) (by kernel_rfl) (by kernel_rfl) (fun _ _ _ h => h) (Or.inl ⟨by rfl, ?_⟩) (by assumption) ?_
      rotate_left 1
      · intro w hSw; (try dsimp only at hSw); go_simp <;> with_reducible rfl
      try simp only [Act.put, List.setIfInBounds_toArray, List.set_cons_zero, List.set_cons_succ]
      refine wpAnyH_take (i := 9) (oi := { dst := some 23, op := Op.indexAddr 22 (Operand.tmp 21) (Operand.tmp 22), type := 0, pos := "law.go:109", after := #[{ on := 7, ground := Ground.data }, { on := 8, ground := Ground.data }], guard := none }) (v := ?_) rfl (by kernel_rfl) (by kernel_rfl) (by kernel_rfl) (fun _ _ _ h => h) (Or.inl ⟨by rfl, ?_⟩) (by assumption) ?_
      rotate_left 1
      · intro w hSw; (try dsimp only at hSw); go_simp <;> with_reducible rfl
      try simp only [Act.put, List.setIfInBounds_toArray, List.set_cons_zero, List.set_cons_succ]
      refine wpAnyH_take (i := 10) (oi := { dst := some 24, op := Op.fieldAddr 25 (Operand.tmp 23) 1, type := 0, pos := "law.go:109", after := #[{ on := 9, ground := Ground.data }], guard := none }) (v := ?_) rfl (by kernel_rfl) (by kernel_rfl) (by kernel_rfl) (fun _ _ _ h => h) (Or.inl ⟨by rfl, ?_⟩) (by assumption) ?_
      rotate_left 1
      · intro w hSw; (try dsimp only at hSw); go_simp <;> with_reducible rfl
      try simp only [Act.put, List.setIfInBounds_toArray, List.set_cons_zero, List.set_cons_succ]
      refine wpAnyH_take (i := 11) (oi := { dst := some 25, op := Op.load 3 (Operand.tmp 24), type := 3, pos := "law.go:109", after := #[{ on := 10, ground := Ground.data }], guard := none }) (v := ?_) rfl (by kernel_rfl) (by kernel_rfl) (by kernel_rfl) (fun _ _ _ h => h) (Or.inl ⟨by rfl, ?_⟩) (by assumption) ?_
      rotate_left 1
      · intro w hSw; (try dsimp only at hSw); go_simp <;> with_reducible rfl
      try simp only [Act.put, List.setIfInBounds_toArray, List.set_cons_zero, List.set_cons_succ]
      refine wpAnyH_take (i := 12) (oi := { dst := some 26, op := Op.binOp BinOp.and 3 (Operand.tmp 25) (Operand.const (Value.int IntKind.i64 63)) 3, type := 3, pos := "law.go:109", after := #[{ on := 11, ground := Ground.data }], guard := none }) (v := ?_) rfl (by kernel_rfl) (by kernel_rfl) (by kernel_rfl) (fun _ _ _ h => h) (Or.inl ⟨by rfl, ?_⟩) (by assumption) ?_
      rotate_left 1
      · intro w hSw; (try dsimp only at hSw); go_simp <;> with_reducible rfl
      try simp only [Act.put, List.setIfInBounds_toArray, List.set_cons_zero, List.set_cons_succ]
      refine wpAnyH_take (i := 13) (oi := { dst := some 27, op := Op.move (Operand.tmp 0), type := 22, pos := "law.go:109", after := #[], guard := none }) (v := ?_) rfl (by kernel_rfl) (by kernel_rfl) (by kernel_rfl) (fun _ _ _ h => h) (Or.inl ⟨by rfl, ?_⟩) (by assumption) ?_
      rotate_left 1
      · intro w hSw; (try dsimp only at hSw); go_simp <;> with_reducible rfl
      try simp only [Act.put, List.setIfInBounds_toArray, List.set_cons_zero, List.set_cons_succ]
      refine wpAnyH_take (i := 14) (oi := { dst := some 28, op := Op.move (Operand.tmp 6), type := 3, pos := "law.go:109", after := #[], guard := none }) (v := ?_) rfl (by kernel_rfl) (by kernel_rfl) (by kernel_rfl) (fun _ _ _ h => h) (Or.inl ⟨by rfl, ?_⟩) (by assumption) ?_
      rotate_left 1
      · intro w hSw; (try dsimp only at hSw); go_simp <;> with_reducible rfl
      try simp only [Act.put, List.setIfInBounds_toArray, List.set_cons_zero, List.set_cons_succ]
      refine wpAnyH_take (i := 15) (oi := { dst := some 29, op := Op.indexAddr 22 (Operand.tmp 27) (Operand.tmp 28), type := 0, pos := "law.go:109", after := #[{ on := 13, ground := Ground.data }, { on := 14, ground := Ground.data }], guard := none }) (v := ?_) rfl (by kernel_rfl) (by kernel_rfl) (by kernel_rfl) (fun _ _ _ h => h) (Or.inl ⟨by rfl, ?_⟩) (by assumption) ?_
      rotate_left 1
      · intro w hSw; (try dsimp only at hSw); go_simp <;> with_reducible rfl
      try simp only [Act.put, List.setIfInBounds_toArray, List.set_cons_zero, List.set_cons_succ]
      refine wpAnyH_take (i := 16) (oi := { dst := some 30, op := Op.fieldAddr 25 (Operand.tmp 29) 2, type := 0, pos := "law.go:109", after := #[{ on := 15, ground := Ground.data }], guard := none }) (v := ?_) rfl (by kernel_rfl) (by kernel_rfl) (by kernel_rfl) (fun _ _ _ h => h) (Or.inl ⟨by rfl, ?_⟩) (by assumption) ?_
      rotate_left 1
      · intro w hSw; (try dsimp only at hSw); go_simp <;> with_reducible rfl
      try simp only [Act.put, List.setIfInBounds_toArray, List.set_cons_zero, List.set_cons_succ]
      refine wpAnyH_take (i := 17) (oi := { dst := some 31, op := Op.load 3 (Operand.tmp 30), type := 3, pos := "law.go:109", after := #[{ on := 16, ground := Ground.data }], guard := none }) (v := ?_) rfl (by kernel_rfl) (by kernel_rfl) (by kernel_rfl) (fun _ _ _ h => h) (Or.inl ⟨by rfl, ?_⟩) (by assumption) ?_
      rotate_left 1
      · intro w hSw; (try dsimp only at hSw); go_simp <;> with_reducible rfl
      try simp only [Act.put, List.setIfInBounds_toArray, List.set_cons_zero, List.set_cons_succ]
      refine wpAnyH_ready (rs := [6]) (by kernel_rfl) (by simp) ?_
      refine AllReadyH.cons (o := { dst := some 20, op := Op.call { callee := Callee.value (Operand.func 10), args := #[Operand.tmp 19, Operand.const (Value.int IntKind.i64 0), Operand.const (Value.int IntKind.i64 2)], argTypes := #[3, 3, 3] }, type := 3, pos := "law.go:109", after := #[{ on := 5, ground := Ground.data }], guard := none }) rfl (fun K9 hK => ?_) ?_
      · go_simp
        with_reducible refine (PW.out _).mono ?_
        rintro e y6 ⟨rfl, hw⟩
        subst hw
        go_wp2_with fail
        refine hK.out _ _ ?_ ?_
        · (try dsimp only); exact (fun hQ => ⟨cell_up hQ c0w.out, cell_up hQ c1w.out, cell_up hQ c2w.out, hQ⟩) hB.out.drew
        clear hK K9 hHeld; intro hHeld
        try simp only [Act.put, List.setIfInBounds_toArray, List.set_cons_zero, List.set_cons_succ]
        refine wpAnyH_take (i := 18) (oi := { dst := some 32, op := Op.build 25 #[(0, Operand.tmp 20), (1, Operand.tmp 26), (2, Operand.tmp 31)], type := 25, pos := "law.go:109", after := #[{ on := 6, ground := Ground.data }, { on := 12, ground := Ground.data }, { on := 17, ground := Ground.data }], guard := none }) (v := ?_) rfl (by kernel_rfl) (by kernel_rfl) (by kernel_rfl) (fun _ _ _ h => h) (Or.inl ⟨by rfl, ?_⟩) (by assumption) ?_
        rotate_left 1
        · intro w hSw; (try dsimp only at hSw); go_simp <;> with_reducible rfl
        try simp only [Act.put, List.setIfInBounds_toArray, List.set_cons_zero, List.set_cons_succ]
        refine wpAnyH_ready (rs := [19]) (by kernel_rfl) (by simp) ?_
        refine AllReadyH.cons (o := { dst := some 33, op := Op.buildSlice 22 1 #[(0, Operand.tmp 32)], type := 22, pos := "law.go:109", after := #[{ on := 18, ground := Ground.data }], guard := none }) rfl (fun K9 hK => ?_) ?_
        · go_simp
          refine hK.out _ _ ?_ ?_
          · (try dsimp only); exact (fun hQ => ⟨cell_up hQ c0w.out, cell_up hQ c1w.out, cell_up hQ c2w.out, hQ⟩) (hB.out.drew.alloc (by have := hB.out.size; simpa using this) _)
          clear hK K9 hHeld; intro hHeld
          try simp only [Act.put, List.setIfInBounds_toArray, List.set_cons_zero, List.set_cons_succ]
          refine wpAnyH_ready (rs := [20]) (by kernel_rfl) (by simp) ?_
          refine AllReadyH.cons (o := { dst := some 34, op := Op.call { callee := Callee.builtin Builtin.append, args := #[Operand.tmp 14, Operand.tmp 33], argTypes := #[22, 22] }, type := 22, pos := "law.go:109", after := #[{ on := 0, ground := Ground.data }, { on := 19, ground := Ground.data }, { on := 6, ground := Ground.chain }], guard := none }) rfl (fun K9 hK => ?_) ?_
          · refine step_append_lies _ rfl (.tmp 14) (.tmp 33) 22 rfl w.heap.size 25 i0 (.agg #[.int .i64 0, .int .i64 0, .int .i64 0]) 3 24 Try.underlying22 hi0 hz0 hz1 hz2 rfl (by decide) (.slice a i c) i _ rfl (row_up2 hO.out (((Below.refl wr.heap.size wr).drew).alloc (Nat.le_refl _) _)) ⟨wr.heap.size, 0, none⟩ 1 1 (ak3 [(q, m1, z)]) rfl (by simp [ak3]) (rd_ask wr.drew q m1 z _ rfl) (ak3_one _) (by omega) (by omega) (by omega) (by have := hB.out.size; simp; omega) _ rfl ?_
            intro g1 cap1 wh hown1 hgrow1 hat1 hlt1
            have hB9 := Lib.hid ((hB.out.drew.alloc (by have := hB.out.size; simpa using this) _).grown hgrow1 (by have := hB.out.size; simp; omega) (fun k hk => (hO.out.lt k hk).1))
            refine hK.out _ _ ?_ ?_
            · (try dsimp only); exact (fun hQ => ⟨cell_up hQ c0w.out, cell_up hQ c1w.out, cell_up hQ c2w.out, hQ⟩) hB9.out
            clear hK K9 hHeld; intro hHeld
            try simp only [Act.put, List.setIfInBounds_toArray, List.set_cons_zero, List.set_cons_succ]
            refine wpAnyH_take (i := 21) (oi := { dst := some 5, op := Op.assign (Operand.tmp 34), type := 22, pos := "law.go:109", after := #[{ on := 20, ground := Ground.data }, { on := 20, ground := Ground.chain }, { on := 0, ground := Ground.phase }, { on := 1, ground := Ground.phase }, { on := 2, ground := Ground.phase }, { on := 3, ground := Ground.phase }, { on := 4, ground := Ground.phase }, { on := 5, ground := Ground.phase }, { on := 6, ground := Ground.phase }, { on := 7, ground := Ground.phase }, { on := 8, ground := Ground.phase }, { on := 9, ground := Ground.phase }, { on := 10, ground := Ground.phase }, { on := 11, ground := Ground.phase }, { on := 12, ground := Ground.phase }, { on := 13, ground := Ground.phase }, { on := 14, ground := Ground.phase }, { on := 15, ground := Ground.phase }, { on := 16, ground := Ground.phase }, { on := 17, ground := Ground.phase }, { on := 18, ground := Ground.phase }, { on := 19, ground := Ground.phase }, { on := 20, ground := Ground.phase }], guard := none }) (v := ?_) rfl (by kernel_rfl) (by kernel_rfl) (by kernel_rfl) (fun _ _ _ h => h) (Or.inl ⟨by rfl, ?_⟩) (by assumption) ?_
            rotate_left 1
            · intro w hSw; (try dsimp only at hSw); go_simp <;> with_reducible rfl
            try simp only [Act.put, List.setIfInBounds_toArray, List.set_cons_zero, List.set_cons_succ]
            refine wpAnyH_done (by kernel_rfl) ?_ _
            have hO9 : Hid (wh.ownsRow w.heap.size 25 3 (.slice (some ⟨g1, 0, none⟩) (i + 1) cap1) (i + 1) (ak3 (T ++ [(q, m1, z)]))) := Lib.hid (by rw [ak3_app]; exact hown1)
            clear hown1 hgrow1 hat1 hlt1
            go_wp2_with fail
            go_roundw
            all_goals first | exact ⟨i + 1, _, _, T ++ [(q, m1, z)], by omega, by go_num, rfl, hO9, hbT.out, hlT.out, hB9⟩ | (simp [intOf]; omega)
          exact AllReadyH.nil
        exact AllReadyH.nil
      exact AllReadyH.nil
    · have d1 : decide ((i : Int) < (n : Int)) = false := by simp; omega
      obtain rfl : i = n := by omega
      have hAs : Hid (∀ wx, Below wr.heap.size wr wx → AskV wx a i) := Lib.hid (fun wx hb => (AskV.own (by have := hO.out; rw [← hl.out]; exact this) hl.out hT.out).up hb)
      obtain ⟨w5, hw5⟩ : ∃ w5, w5 = wr := ⟨_, rfl⟩
      subst hw5
      have hB5 := hB
      have hP5 := Lib.hid (HP.out.up hB5.out)
      have hst2 : Hid (w5.ownsRow w5.heap.size 27 2 (.slice none 0 0) 0 (pr2 [])) := Lib.hid (World.ownsRow_nil _ _ _ _)
      clear hO hT hl
      go_wp2
      go_loopw [7, 8] (fun i7 i8 wr => ∃ (j : Nat) (a2 : Option Addr) (c2 : Nat) (T : List (Int × Int)), j ≤ nb ∧ j ≤ 20 ∧ i8 = .int .i64 j ∧ i7 = .slice a2 j c2 ∧ Hid (wr.ownsRow w5.heap.size 27 2 (.slice a2 j c2) j (pr2 T)) ∧ Hid (∀ x ∈ T, I64 x.1 ∧ I64 x.2) ∧ Hid (j = T.length) ∧ Hid (Below w5.heap.size w5 wr)) (fun _ i8 _ => 20 - (intOf i8).toNat)
      case atStart => exact ⟨0, none, 0, [], by omega, by omega, rfl, rfl, hst2, Lib.hid (by simp), Lib.hid rfl, Lib.hid (Below.refl _ _)⟩
      case round =>
        clear hst2 hB
        obtain ⟨i, a, c, T, hjn, hj20, rfl, rfl, hO, hT, hl, hB⟩ := hrel
        by_cases hlt : i < nb ∧ i < 20
        · have d1 : decide ((i : Int) < (nb : Int)) = true := by simp; omega
          have d2 : decide ((i : Int) < 20) = true := by simp; omega
          have p0 : (0 : Int) ≤ (i : Int) := by omega
          have p1 : (i : Int) < (nb : Int) := by omega
          obtain ⟨⟨bs, bm⟩, hx⟩ : ∃ x, L[i]? = some x := ⟨L[i]'(by have := hnb'.out; omega), by simp⟩
          obtain ⟨s64, m64, g, off, rfl, c0, c1⟩ := hP5.out.at hx
          simp only at s64 m64 c0 c1
          have c0w := Lib.hid c0
          have c1w := Lib.hid c1
          clear c0 c1 hx
          obtain ⟨m1, hm1, im⟩ := msk64 bs 47
          have hbT : Hid (Hid (∀ t ∈ T ++ [(m1, bm)], I64 t.1 ∧ I64 t.2)) := Lib.hid (Lib.hid (fun t ht => by
            rcases List.mem_append.1 ht with h | h
            · exact hT.out t h
            · have e : t = (m1, bm) := by simpa using h
              rw [e]; exact ⟨im, m64⟩))
          have hlT : Hid (Hid (i + 1 = (T ++ [(m1, bm)]).length)) := Lib.hid (Lib.hid (by have := hl.out; simp; omega))
          clear s64 m64 im hT hl
          go_upto_region 11 with fail
          refine wp_region_held_drew (S := (fun wr' => wr'.cell? ⟨g, off + i * 2, none⟩ = some (.int .i64 bs) ∧ wr'.cell? ⟨g, off + i * 2 + 1, none⟩ = some (.int .i64 bm) ∧ Below w5.heap.size w5 wr')) (by kernel_rfl) ?_ (fun hHeld => ?_)
          · (try dsimp only); exact (fun hQ => ⟨cell_up hQ c0w.out, cell_up hQ c1w.out, hQ⟩) hB.out.drew
          try simp only [Act.put, List.setIfInBounds_toArray, List.set_cons_zero, List.set_cons_succ]
          refine wpAnyH_take (i := 0) (oi := { dst := some 46, op := Op.move (Operand.tmp 7), type := 23, pos := "law.go:113", after := #[], guard := none }) (v := ?_) rfl (by kernel_rfl) (by kernel_rfl) (by kernel_rfl) (fun _ _ _ h => h) (Or.inl ⟨by rfl, ?_⟩) (by assumption) ?_
          rotate_left 1
          · intro w hSw; (try dsimp only at hSw); go_simp <;> with_reducible rfl
          try simp only [Act.put, List.setIfInBounds_toArray, List.set_cons_zero, List.set_cons_succ]
          refine wpAnyH_take (i := 1) (oi := { dst := some 47, op := Op.move (Operand.tmp 1), type := 23, pos := "law.go:113", after := #[], guard := none }) (v := ?_) rfl (by kernel_rfl) (by kernel_rfl) (by kernel_rfl) (fun _ _ _ h => h) (Or.inl ⟨by rfl, ?_⟩) (by assumption) ?_
          rotate_left 1
          · intro w hSw; (try dsimp only at hSw); go_simp <;> with_reducible rfl
          try simp only [Act.put, List.setIfInBounds_toArray, List.set_cons_zero, List.set_cons_succ]
          refine wpAnyH_take (i := 2) (oi := { dst := some 48, op := Op.move (Operand.tmp 8), type := 3, pos := "law.go:113", after := #[], guard := none }) (v := ?_) rfl (by kernel_rfl) (by kernel_rfl) (by kernel_rfl) (fun _ _ _ h => h) (Or.inl ⟨by rfl, ?_⟩) (by assumption) ?_
          rotate_left 1
          · intro w hSw; (try dsimp only at hSw); go_simp <;> with_reducible rfl
          try simp only [Act.put, List.setIfInBounds_toArray, List.set_cons_zero, List.set_cons_succ]
          refine wpAnyH_take (i := 3) (oi := { dst := some 49, op := Op.indexAddr 23 (Operand.tmp 47) (Operand.tmp 48), type := 0, pos := "law.go:113", after := #[{ on := 1, ground := Ground.data }, { on := 2, ground := Ground.data }], guard := none }) (v := ?_) rfl (by kernel_rfl) (by kernel_rfl) (by kernel_rfl) (fun _ _ _ h => h) (Or.inl ⟨by rfl, ?_⟩) (by assumption) ?_
          rotate_left 1
          · intro w hSw; (try dsimp only at hSw); go_simp <;> with_reducible rfl
          try simp only [Act.put, List.setIfInBounds_toArray, List.set_cons_zero, List.set_cons_succ]
          refine wpAnyH_take (i := 4) (oi := { dst := some 50, op := Op.fieldAddr 27 (Operand.tmp 49) 0, type := 0, pos := "law.go:113", after := #[{ on := 3, ground := Ground.data }], guard := none }) (v := ?_) rfl (by kernel_rfl) (by kernel_rfl) (by kernel_rfl) (fun _ _ _ h => h) (Or.inl ⟨by rfl, ?_⟩) (by assumption) ?_
          rotate_left 1
          · intro w hSw; (try dsimp only at hSw); go_simp <;> with_reducible rfl
          try simp only [Act.put, List.setIfInBounds_toArray, List.set_cons_zero, List.set_cons_succ]
          refine wpAnyH_take (i := 5) (oi := { dst := some 51, op := Op.load 3 (Operand.tmp 50), type := 3, pos := "law.go:113", after := #[{ on := 4, ground := Ground.data }], guard := none }) (v := ?_) rfl (by kernel_rfl) (by kernel_rfl) (by kernel_rfl) (fun _ _ _ h => h) (Or.inl ⟨by rfl, ?_⟩) (by assumption) ?_
          rotate_left 1
          · intro w hSw; (try dsimp only at hSw); go_simp <;> with_reducible rfl
          try simp only [Act.put, List.setIfInBounds_toArray, List.set_cons_zero, List.set_cons_succ]
          refine wpAnyH_take (i := 6) (oi := { dst := some 52, op := Op.binOp BinOp.and 3 (Operand.tmp 51) (Operand.const (Value.int IntKind.i64 47)) 3, type := 3, pos := "law.go:113", after := #[{ on := 5, ground := Ground.data }], guard := none }) (v := ?_) rfl (by kernel_rfl) (by kernel_rfl) (by kernel_rfl) (fun _ _ _ h => h) (Or.inl ⟨by rfl, ?_⟩) (by assumption) ?_
          rotate_left 1
          · intro w hSw; (try dsimp only at hSw); go_simp <;> with_reducible rfl
          try simp only [Act.put, List.setIfInBounds_toArray, List.set_cons_zero, List.set_cons_succ]
          refine wpAnyH_take (i := 7) (oi := { dst := some 53, op := Op.move (Operand.tmp 1), type := 23, pos := "law.go:113", after := #[], guard := none }) (v := ?_) rfl (by kernel_rfl) (by kernel_rfl) (by kernel_rfl) (fun _ _ _ h => h) (Or.inl ⟨by rfl, ?_⟩) (by assumption) ?_
          rotate_left 1
          · intro w hSw; (try dsimp only at hSw); go_simp <;> with_reducible rfl
          try simp only [Act.put, List.setIfInBounds_toArray, List.set_cons_zero, List.set_cons_succ]
          refine wpAnyH_take (i := 8) (oi := { dst := some 54, op := Op.move (Operand.tmp 8), type := 3, pos := "law.go:113", after := #[], guard := none }) (v := ?_) rfl (by kernel_rfl) (by kernel_rfl) (by kernel_rfl) (fun _ _ _ h => h) (Or.inl ⟨by rfl, ?_⟩) (by assumption) ?_
          rotate_left 1
          · intro w hSw; (try dsimp only at hSw); go_simp <;> with_reducible rfl
          try simp only [Act.put, List.setIfInBounds_toArray, List.set_cons_zero, List.set_cons_succ]
          refine wpAnyH_take (i := 9) (oi := { dst := some 55, op := Op.indexAddr 23 (Operand.tmp 53) (Operand.tmp 54), type := 0, pos := "law.go:113", after := #[{ on := 7, ground := Ground.data }, { on := 8, ground := Ground.data }], guard := none }) (v := ?_) rfl (by kernel_rfl) (by kernel_rfl) (by kernel_rfl) (fun _ _ _ h => h) (Or.inl ⟨by rfl, ?_⟩) (by assumption) ?_
          rotate_left 1
          · intro w hSw; (try dsimp only at hSw); go_simp <;> with_reducible rfl
          try simp only [Act.put, List.setIfInBounds_toArray, List.set_cons_zero, List.set_cons_succ]
          refine wpAnyH_take (i := 10) (oi := { dst := some 56, op := Op.fieldAddr 27 (Operand.tmp 55) 1, type := 0, pos := "law.go:113", after := #[{ on := 9, ground := Ground.data }], guard := none }) (v := ?_) rfl (by kernel_rfl) (by kernel_rfl) (by kernel_rfl) (fun _ _ _ h => h) (Or.inl ⟨by rfl, ?_⟩) (by assumption) ?_
          rotate_left 1
          · intro w hSw; (try dsimp only at hSw); go_simp <;> with_reducible rfl
          try simp only [Act.put, List.setIfInBounds_toArray, List.set_cons_zero, List.set_cons_succ]
          refine wpAnyH_take (i := 11) (oi := { dst := some 57, op := Op.load 3 (Operand.tmp 56), type := 3, pos := "law.go:113", after := #[{ on := 10, ground := Ground.data }], guard := none }) (v := ?_) rfl (by kernel_rfl) (by kernel_rfl) (by kernel_rfl) (fun _ _ _ h => h) (Or.inl ⟨by rfl, ?_⟩) (by assumption) ?_
          rotate_left 1
          · intro w hSw; (try dsimp only at hSw); go_simp <;> with_reducible rfl
          try simp only [Act.put, List.setIfInBounds_toArray, List.set_cons_zero, List.set_cons_succ]
          refine wpAnyH_take (i := 12) (oi := { dst := some 58, op := Op.build 27 #[(0, Operand.tmp 52), (1, Operand.tmp 57)], type := 27, pos := "law.go:113", after := #[{ on := 6, ground := Ground.data }, { on := 11, ground := Ground.data }], guard := none }) (v := ?_) rfl (by kernel_rfl) (by kernel_rfl) (by kernel_rfl) (fun _ _ _ h => h) (Or.inl ⟨by rfl, ?_⟩) (by assumption) ?_
          rotate_left 1
          · intro w hSw; (try dsimp only at hSw); go_simp <;> with_reducible rfl
          try simp only [Act.put, List.setIfInBounds_toArray, List.set_cons_zero, List.set_cons_succ]
          refine wpAnyH_ready (rs := [13]) (by kernel_rfl) (by simp) ?_
          refine AllReadyH.cons (o := { dst := some 59, op := Op.buildSlice 23 1 #[(0, Operand.tmp 58)], type := 23, pos := "law.go:113", after := #[{ on := 12, ground := Ground.data }], guard := none }) rfl (fun K9 hK => ?_) ?_
          · go_simp
            refine hK.out _ _ ?_ ?_
            · (try dsimp only); exact (fun hQ => ⟨cell_up hQ c0w.out, cell_up hQ c1w.out, hQ⟩) (hB.out.drew.alloc (by have := hB.out.size; simpa using this) _)
            clear hK K9 hHeld; intro hHeld
            try simp only [Act.put, List.setIfInBounds_toArray, List.set_cons_zero, List.set_cons_succ]
            refine wpAnyH_ready (rs := [14]) (by kernel_rfl) (by simp) ?_
            refine AllReadyH.cons (o := { dst := some 60, op := Op.call { callee := Callee.builtin Builtin.append, args := #[Operand.tmp 46, Operand.tmp 59], argTypes := #[23, 23] }, type := 23, pos := "law.go:113", after := #[{ on := 0, ground := Ground.data }, { on := 13, ground := Ground.data }], guard := none }) rfl (fun K9 hK => ?_) ?_
            · refine step_append_lies _ rfl (.tmp 46) (.tmp 59) 23 rfl w5.heap.size 27 j0 (.agg #[.int .i64 0, .int .i64 0]) 2 16 Try.underlying23 hj0 hy0 hy1 hy2 rfl (by decide) (.slice a i c) i _ rfl (row_up2 hO.out (((Below.refl wr.heap.size wr).drew).alloc (Nat.le_refl _) _)) ⟨wr.heap.size, 0, none⟩ 1 1 (pr2 [(m1, bm)]) rfl (by simp [pr2]) (rd_bind wr.drew m1 bm _ rfl) (pr2_one _) (by omega) (by omega) (by omega) (by have := hB.out.size; simp; omega) _ rfl ?_
              intro g1 cap1 wh hown1 hgrow1 hat1 hlt1
              have hB9 := Lib.hid ((hB.out.drew.alloc (by have := hB.out.size; simpa using this) _).grown hgrow1 (by have := hB.out.size; simp; omega) (fun k hk => (hO.out.lt k hk).1))
              refine hK.out _ _ ?_ ?_
              · (try dsimp only); exact (fun hQ => ⟨cell_up hQ c0w.out, cell_up hQ c1w.out, hQ⟩) hB9.out
              clear hK K9 hHeld; intro hHeld
              try simp only [Act.put, List.setIfInBounds_toArray, List.set_cons_zero, List.set_cons_succ]
              refine wpAnyH_take (i := 15) (oi := { dst := some 7, op := Op.assign (Operand.tmp 60), type := 23, pos := "law.go:113", after := #[{ on := 14, ground := Ground.data }, { on := 14, ground := Ground.chain }, { on := 0, ground := Ground.phase }, { on := 1, ground := Ground.phase }, { on := 2, ground := Ground.phase }, { on := 3, ground := Ground.phase }, { on := 4, ground := Ground.phase }, { on := 5, ground := Ground.phase }, { on := 6, ground := Ground.phase }, { on := 7, ground := Ground.phase }, { on := 8, ground := Ground.phase }, { on := 9, ground := Ground.phase }, { on := 10, ground := Ground.phase }, { on := 11, ground := Ground.phase }, { on := 12, ground := Ground.phase }, { on := 13, ground := Ground.phase }, { on := 14, ground := Ground.phase }], guard := none }) (v := ?_) rfl (by kernel_rfl) (by kernel_rfl) (by kernel_rfl) (fun _ _ _ h => h) (Or.inl ⟨by rfl, ?_⟩) (by assumption) ?_
              rotate_left 1
              · intro w hSw; (try dsimp only at hSw); go_simp <;> with_reducible rfl
              try simp only [Act.put, List.setIfInBounds_toArray, List.set_cons_zero, List.set_cons_succ]
              refine wpAnyH_done (by kernel_rfl) ?_ _
              have hO9 : Hid (wh.ownsRow w5.heap.size 27 2 (.slice (some ⟨g1, 0, none⟩) (i + 1) cap1) (i + 1) (pr2 (T ++ [(m1, bm)]))) := Lib.hid (by rw [pr2_app]; exact hown1)
              clear hown1 hgrow1 hat1 hlt1
              go_wp2_with fail
              go_roundw
              all_goals first | exact ⟨i + 1, _, _, T ++ [(m1, bm)], by omega, by omega, by go_num, rfl, hO9, hbT.out, hlT.out, hB9⟩ | (simp [intOf]; omega)
            exact AllReadyH.nil
          exact AllReadyH.nil
        · have hPf0 : PrV wr (.slice a i c) T := by
            have := PrV.own (T := T) (by have := hO.out; rw [← hl.out]; exact this) hT.out
            exact this
          have hPf := Lib.hid hPf0
          have hAw := Lib.hid (hAs.out _ hB.out)
          replace hB := Lib.hid (hB5.out.trans (hB.out.mono hB5.out.size))
          have hlc : i ≤ c := by
            rcases hO.out.2 with ⟨e, e0⟩ | ⟨g, cap, cur, e, _, _, h3, _⟩
            · omega
            · cases e; exact h3
          have hPt := Lib.hid (fun h : 5 ≤ i => hPf0.take 5 (by have := hl.out; omega))
          have hPu := Lib.hid (fun h : 30 ≤ nb => HP.out.take 30 (by have := hnb'.out; omega))
          clear hPf0 hO hT
          by_cases hlt1 : i < nb
          · have d1 : decide ((i : Int) < (nb : Int)) = true := by simp; omega
            have d2 : decide ((i : Int) < 20) = false := by simp; omega
            by_cases h30 : nb ≤ 30
            · have hmb : min (nb : Int) 30 = (nb : Int) := by omega
              have hPb := HP
              have u1 : (nb : Int) ≤ (bcap : Int) := by omega
              by_cases h5 : i ≤ 5
              · exfalso; omega
              · have hmf : min (i : Int) 5 = 5 := by omega
                have hPg := Lib.hid (hPt.out (by omega))
                have u3 : (5 : Int) ≤ (c : Int) := by omega
                go_wp2_with (first | (go_at_call 7; first | ((with_reducible refine (play_any K (HA.out.up hB.out) hn63).mono ?_); rintro e y7 ⟨rfl, hb⟩; replace hB := Lib.hid (hB.out.trans (hb.mono hB.out.size)); replace hAw := Lib.hid (hAw.out.up hb); replace hPf := Lib.hid (hPf.out.up hb); replace hPg := Lib.hid (hPg.out.up hb); clear hb) | ((with_reducible refine (play_any K hAw.out hn63).mono ?_); rintro e y8 ⟨rfl, hb⟩; replace hB := Lib.hid (hB.out.trans (hb.mono hB.out.size)); replace hAw := Lib.hid (hAw.out.up hb); replace hPf := Lib.hid (hPf.out.up hb); replace hPg := Lib.hid (hPg.out.up hb); clear hb)) | (go_at_call 8; first | ((with_reducible refine (of_any K hPf.out).mono ?_); rintro e y9 ⟨rfl, hb⟩; replace hB := Lib.hid (hB.out.trans (hb.mono hB.out.size)); replace hAw := Lib.hid (hAw.out.up hb); replace hPf := Lib.hid (hPf.out.up hb); replace hPg := Lib.hid (hPg.out.up hb); clear hb) | ((with_reducible refine (of_any K hPg.out).mono ?_); rintro e z7 ⟨rfl, hb⟩; replace hB := Lib.hid (hB.out.trans (hb.mono hB.out.size)); replace hAw := Lib.hid (hAw.out.up hb); replace hPf := Lib.hid (hPf.out.up hb); replace hPg := Lib.hid (hPg.out.up hb); clear hb) | ((with_reducible refine (of_any K (hPb.out.up hB.out)).mono ?_); rintro e z8 ⟨rfl, hb⟩; replace hB := Lib.hid (hB.out.trans (hb.mono hB.out.size)); replace hAw := Lib.hid (hAw.out.up hb); replace hPf := Lib.hid (hPf.out.up hb); replace hPg := Lib.hid (hPg.out.up hb); clear hb)) | (go_at_call 9; ((with_reducible refine (known_c K _).mono ?_); rintro e z9 ⟨rfl, hb⟩; replace hB := Lib.hid (hB.out.trans (hb.mono hB.out.size)); replace hAw := Lib.hid (hAw.out.up hb); replace hPf := Lib.hid (hPf.out.up hb); replace hPg := Lib.hid (hPg.out.up hb); clear hb)))
                go_ret
                exact ⟨rfl, hB.out⟩
            · have hmb : min (nb : Int) 30 = 30 := by omega
              have hPb := Lib.hid (hPu.out (by omega))
              have u1 : (30 : Int) ≤ (bcap : Int) := by omega
              by_cases h5 : i ≤ 5
              · exfalso; omega
              · have hmf : min (i : Int) 5 = 5 := by omega
                have hPg := Lib.hid (hPt.out (by omega))
                have u3 : (5 : Int) ≤ (c : Int) := by omega
                go_wp2_with (first | (go_at_call 7; first | ((with_reducible refine (play_any K (HA.out.up hB.out) hn63).mono ?_); rintro e y7 ⟨rfl, hb⟩; replace hB := Lib.hid (hB.out.trans (hb.mono hB.out.size)); replace hAw := Lib.hid (hAw.out.up hb); replace hPf := Lib.hid (hPf.out.up hb); replace hPg := Lib.hid (hPg.out.up hb); clear hb) | ((with_reducible refine (play_any K hAw.out hn63).mono ?_); rintro e y8 ⟨rfl, hb⟩; replace hB := Lib.hid (hB.out.trans (hb.mono hB.out.size)); replace hAw := Lib.hid (hAw.out.up hb); replace hPf := Lib.hid (hPf.out.up hb); replace hPg := Lib.hid (hPg.out.up hb); clear hb)) | (go_at_call 8; first | ((with_reducible refine (of_any K hPf.out).mono ?_); rintro e y9 ⟨rfl, hb⟩; replace hB := Lib.hid (hB.out.trans (hb.mono hB.out.size)); replace hAw := Lib.hid (hAw.out.up hb); replace hPf := Lib.hid (hPf.out.up hb); replace hPg := Lib.hid (hPg.out.up hb); clear hb) | ((with_reducible refine (of_any K hPg.out).mono ?_); rintro e z7 ⟨rfl, hb⟩; replace hB := Lib.hid (hB.out.trans (hb.mono hB.out.size)); replace hAw := Lib.hid (hAw.out.up hb); replace hPf := Lib.hid (hPf.out.up hb); replace hPg := Lib.hid (hPg.out.up hb); clear hb) | ((with_reducible refine (of_any K (hPb.out.up hB.out)).mono ?_); rintro e z8 ⟨rfl, hb⟩; replace hB := Lib.hid (hB.out.trans (hb.mono hB.out.size)); replace hAw := Lib.hid (hAw.out.up hb); replace hPf := Lib.hid (hPf.out.up hb); replace hPg := Lib.hid (hPg.out.up hb); clear hb)) | (go_at_call 9; ((with_reducible refine (known_c K _).mono ?_); rintro e z9 ⟨rfl, hb⟩; replace hB := Lib.hid (hB.out.trans (hb.mono hB.out.size)); replace hAw := Lib.hid (hAw.out.up hb); replace hPf := Lib.hid (hPf.out.up hb); replace hPg := Lib.hid (hPg.out.up hb); clear hb)))
                go_ret
                exact ⟨rfl, hB.out⟩
          · have d1 : decide ((i : Int) < (nb : Int)) = false := by simp; omega
            by_cases h30 : nb ≤ 30
            · have hmb : min (nb : Int) 30 = (nb : Int) := by omega
              have hPb := HP
              have u1 : (nb : Int) ≤ (bcap : Int) := by omega
              by_cases h5 : i ≤ 5
              · have hmf : min (i : Int) 5 = (i : Int) := by omega
                have hPg := hPf
                have u3 : (i : Int) ≤ (c : Int) := by omega
                go_wp2_with (first | (go_at_call 7; first | ((with_reducible refine (play_any K (HA.out.up hB.out) hn63).mono ?_); rintro e y7 ⟨rfl, hb⟩; replace hB := Lib.hid (hB.out.trans (hb.mono hB.out.size)); replace hAw := Lib.hid (hAw.out.up hb); replace hPf := Lib.hid (hPf.out.up hb); replace hPg := Lib.hid (hPg.out.up hb); clear hb) | ((with_reducible refine (play_any K hAw.out hn63).mono ?_); rintro e y8 ⟨rfl, hb⟩; replace hB := Lib.hid (hB.out.trans (hb.mono hB.out.size)); replace hAw := Lib.hid (hAw.out.up hb); replace hPf := Lib.hid (hPf.out.up hb); replace hPg := Lib.hid (hPg.out.up hb); clear hb)) | (go_at_call 8; first | ((with_reducible refine (of_any K hPf.out).mono ?_); rintro e y9 ⟨rfl, hb⟩; replace hB := Lib.hid (hB.out.trans (hb.mono hB.out.size)); replace hAw := Lib.hid (hAw.out.up hb); replace hPf := Lib.hid (hPf.out.up hb); replace hPg := Lib.hid (hPg.out.up hb); clear hb) | ((with_reducible refine (of_any K hPg.out).mono ?_); rintro e z7 ⟨rfl, hb⟩; replace hB := Lib.hid (hB.out.trans (hb.mono hB.out.size)); replace hAw := Lib.hid (hAw.out.up hb); replace hPf := Lib.hid (hPf.out.up hb); replace hPg := Lib.hid (hPg.out.up hb); clear hb) | ((with_reducible refine (of_any K (hPb.out.up hB.out)).mono ?_); rintro e z8 ⟨rfl, hb⟩; replace hB := Lib.hid (hB.out.trans (hb.mono hB.out.size)); replace hAw := Lib.hid (hAw.out.up hb); replace hPf := Lib.hid (hPf.out.up hb); replace hPg := Lib.hid (hPg.out.up hb); clear hb)) | (go_at_call 9; ((with_reducible refine (known_c K _).mono ?_); rintro e z9 ⟨rfl, hb⟩; replace hB := Lib.hid (hB.out.trans (hb.mono hB.out.size)); replace hAw := Lib.hid (hAw.out.up hb); replace hPf := Lib.hid (hPf.out.up hb); replace hPg := Lib.hid (hPg.out.up hb); clear hb)))
                go_ret
                exact ⟨rfl, hB.out⟩
              · have hmf : min (i : Int) 5 = 5 := by omega
                have hPg := Lib.hid (hPt.out (by omega))
                have u3 : (5 : Int) ≤ (c : Int) := by omega
                go_wp2_with (first | (go_at_call 7; first | ((with_reducible refine (play_any K (HA.out.up hB.out) hn63).mono ?_); rintro e y7 ⟨rfl, hb⟩; replace hB := Lib.hid (hB.out.trans (hb.mono hB.out.size)); replace hAw := Lib.hid (hAw.out.up hb); replace hPf := Lib.hid (hPf.out.up hb); replace hPg := Lib.hid (hPg.out.up hb); clear hb) | ((with_reducible refine (play_any K hAw.out hn63).mono ?_); rintro e y8 ⟨rfl, hb⟩; replace hB := Lib.hid (hB.out.trans (hb.mono hB.out.size)); replace hAw := Lib.hid (hAw.out.up hb); replace hPf := Lib.hid (hPf.out.up hb); replace hPg := Lib.hid (hPg.out.up hb); clear hb)) | (go_at_call 8; first | ((with_reducible refine (of_any K hPf.out).mono ?_); rintro e y9 ⟨rfl, hb⟩; replace hB := Lib.hid (hB.out.trans (hb.mono hB.out.size)); replace hAw := Lib.hid (hAw.out.up hb); replace hPf := Lib.hid (hPf.out.up hb); replace hPg := Lib.hid (hPg.out.up hb); clear hb) | ((with_reducible refine (of_any K hPg.out).mono ?_); rintro e z7 ⟨rfl, hb⟩; replace hB := Lib.hid (hB.out.trans (hb.mono hB.out.size)); replace hAw := Lib.hid (hAw.out.up hb); replace hPf := Lib.hid (hPf.out.up hb); replace hPg := Lib.hid (hPg.out.up hb); clear hb) | ((with_reducible refine (of_any K (hPb.out.up hB.out)).mono ?_); rintro e z8 ⟨rfl, hb⟩; replace hB := Lib.hid (hB.out.trans (hb.mono hB.out.size)); replace hAw := Lib.hid (hAw.out.up hb); replace hPf := Lib.hid (hPf.out.up hb); replace hPg := Lib.hid (hPg.out.up hb); clear hb)) | (go_at_call 9; ((with_reducible refine (known_c K _).mono ?_); rintro e z9 ⟨rfl, hb⟩; replace hB := Lib.hid (hB.out.trans (hb.mono hB.out.size)); replace hAw := Lib.hid (hAw.out.up hb); replace hPf := Lib.hid (hPf.out.up hb); replace hPg := Lib.hid (hPg.out.up hb); clear hb)))
                go_ret
                exact ⟨rfl, hB.out⟩
            · exfalso; omega
end Wd
end Go.Proofs.Ytdpckckfkpefnaa
