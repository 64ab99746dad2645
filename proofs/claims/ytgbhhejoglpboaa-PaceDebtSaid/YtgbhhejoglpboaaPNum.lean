/- What the laws ask of a pace, whoever keeps it: PaceTells, PaceNumbers. -/
import Derived.Test.YtgbhhejoglpboaaPSmall
namespace Go.Proofs.Ytgbhhejoglpboaa
open Go.RowKit
set_option linter.unusedVariables false
namespace Wd
/-- a row of numbers of the call's own -/
structure Row (w0 wr : World) (j : Nat) (v : Value) (W : List Int) : Prop where
  own : wr.ownsRow w0.heap.size 3 1 v j (ints W)
  len : W.length = j
  bd : ∀ x, x ∈ W → -9223372036854775808 ≤ x ∧ x ≤ 9223372036854775807
  bel : Below w0.heap.size w0 wr
theorem Row.next {w0 wr w1 : World} {j : Nat} {v v1 : Value} {W : List Int} {x : Int} {o : Obj} (h : Row w0 wr j v W) (hx : -9223372036854775808 ≤ x ∧ x ≤ 9223372036854775807) (hown : w1.ownsRow w0.heap.size 3 1 v1 (j + 1) (ints W ++ ints [x])) (hg : (wr.alloc o).grownBy w1 v.ownBlock) : Row w0 w1 (j + 1) v1 (W ++ [x]) := by
  refine ⟨by simpa [ints] using hown, by simp [h.len], fun y hy => ?_, (h.bel.alloc h.bel.size _).grown hg (by have := h.bel.size; simp; omega) (fun k hk => (h.own.lt k hk).1)⟩
  rcases List.mem_append.1 hy with hy | hy
  · exact h.bd y hy
  · simp only [List.mem_singleton] at hy; subst hy; exact hx
theorem nums_own {w : World} {base n : Nat} {v : Value} {W : List Int} (h : w.ownsRow base 3 1 v n (ints W)) (hb : ∀ x, x ∈ W → -9223372036854775808 ≤ x ∧ x ≤ 9223372036854775807) : ∃ ad cap, v = .slice ad n cap ∧ Nums w ad n := by
  have hl : W.length = n := by have := h.1; simpa using this
  rcases h.2 with ⟨rfl, h0⟩ | ⟨g, cap, cur, rfl, h1, h2, h3⟩
  · exact ⟨_, _, by rw [h0], fun _ _ q hq => by omega⟩
  · refine ⟨_, _, rfl, fun wr hbl q hq => ?_⟩
    obtain ⟨x, hx⟩ : ∃ x, W[q]? = some x := ⟨W[q]'(by omega), by simp⟩
    refine ⟨g, 0, x, rfl, hb x (List.mem_of_getElem? hx), ?_⟩
    rw [Nat.zero_add]
    exact cell_up hbl ((h.cellAt q (by omega)).trans (by simp [ints, hx]))
theorem Nums.up {w0 w1 : World} {ad : Option Addr} {len : Nat} (h : Nums w0 ad len) (b : Below w0.heap.size w0 w1) : Nums w1 ad len := fun wr g k hk => h wr (b.trans (g.mono b.size)) k hk
theorem nums_lit (w : World) (L : List Int) (hm : L.length ≤ maxLen) (hb : L.all (fun x => decide (-9223372036854775808 ≤ x ∧ x ≤ 9223372036854775807)) = true) : Nums (w.alloc (.cells (ints L).toArray 3)) (some ⟨w.heap.size, 0, none⟩) L.length := by
  have h := World.ownsRow_lit (base := 0) (e := 3) (size := 1) w (ints L).toArray L.length (by omega) hm (by simp [ints])
  obtain ⟨ad, cap, e, HB⟩ := nums_own (W := L) h (fun x hx => by simpa using List.all_eq_true.1 hb x hx)
  cases e
  exact HB
set_option maxHeartbeats 16000000 in
theorem tells_any {PA : PAt} (K : PaceK PA) (k : Int) (j0 : -9223372036854775808 ≤ k) (j1 : k ≤ 9223372036854775807) (ad : Option Addr) (len cap : Nat) (w0 : World) (HA : Nums w0 ad len) (hlen : len * 8 ≤ 140737488351232) :
    Calls Try.prog 4 #[.int .i64 k, .slice ad len cap] w0 fun e w' => e = .returned (.bool true) ∧ Below w0.heap.size w0 w' := by
  obtain ⟨i0, hi0, hz0, hz1, hz2⟩ := info_parts info3
  have hmx : Hid (len + 1 ≤ maxLen) := Lib.hid (by simp only [maxLen]; omega)
  replace HA := Lib.hid HA
  obtain ⟨a, ha, a0, a1⟩ : ∃ q : Int, bits .and .i64 k 31 = q ∧ 0 ≤ q ∧ q ≤ 31 := ⟨_, rfl, by rw [i64_and31]; omega, by rw [i64_and31]; omega⟩
  have s0 : Hid (Row w0 w0 0 (.slice none 0 0) []) := Lib.hid ⟨World.ownsRow_nil _ _ _ _, rfl, fun _ h => (by cases h), Below.refl _ _⟩
  go_enter Try.func4, Try.ntmps4
  go_wp2
  go_loopw [5, 9] (fun v i wr => ∃ j : Nat, j ≤ len ∧ i = .int .i64 j ∧ ∃ W, Hid (Row w0 wr j v W)) (fun _ i _ => len - (intOf i).toNat)
  case atStart => exact ⟨0, by omega, rfl, _, s0⟩
  case round =>
    clear s0
    obtain ⟨j, hj, rfl, W, hst⟩ := hrel
    by_cases hlt : j < len
    · obtain ⟨g, off, x, rfl, ⟨x0, x1⟩, cx⟩ := HA.out _ hst.out.bel j hlt
      have d1 : decide ((j : Int) < (len : Int)) = true := by simp; omega
      have p0 : (0 : Int) ≤ (j : Int) := by omega
      have p1 : (j : Int) < (len : Int) := by omega
      obtain ⟨c, hc, c0, c1⟩ : ∃ q : Int, bits .and .i64 x 127 = q ∧ 0 ≤ q ∧ q ≤ 127 := ⟨_, rfl, by rw [i64_and127]; omega, by rw [i64_and127]; omega⟩
      go_wp2_with (first | (at_builtin; refine wpList_append_lies _ rfl (.tmp 12) (.tmp 18) 22 rfl w0.heap.size 3 i0 (.int .i64 0) 1 8 Try.underlying22 hi0 hz0 hz1 hz2 rfl (by decide) u5 j _ (by simp [Act.eval]) (hst.out.own.alloc _) ⟨_, 0, none⟩ 1 1 (ints [c]) (by simp [Act.eval]) (by simp [ints]) (one_at ((World.cell?_alloc_new _ _ _ 0).trans rfl)) (ints_one _) (by omega) (by have := hmx.out; omega) (by omega) (by have := hst.out.bel.size; simp; omega) _ rfl ?_; intro g9 cap9 w9 hown9 hgrow9 hat9 hlt9; have s9 := Lib.hid (hst.out.next (x := c) (by omega) hown9 hgrow9); clear hown9 hgrow9 hat9 hlt9))
      go_roundw
      case rel => exact ⟨j + 1, by omega, by go_num, _, s9⟩
      case measure => simp [intOf]; omega
    · have d1 : decide ((j : Int) < (len : Int)) = false := by simp; omega
      obtain ⟨ad2, cap2, e2, HB⟩ := nums_own hst.out.own hst.out.bd
      subst e2
      have hbel := Lib.hid hst.out.bel
      replace HB := Lib.hid HB
      clear hst
      go_wp2_with fail
      refine (play_c K k j0 j1 ad len cap _ (HA.out.up hbel.out)).mono ?_
      rintro e w5 ⟨rfl, hd⟩
      replace HB := Lib.hid (HB.out.up hd)
      replace hbel := Lib.hid (hbel.out.trans (hd.mono hbel.out.size))
      clear hd
      go_wp2_with fail
      refine (play_c K a (by omega) (by omega) ad2 j cap2 w5 HB.out).mono ?_
      rintro e w6 ⟨rfl, hd⟩
      replace hbel := Lib.hid (hbel.out.trans (hd.mono hbel.out.size))
      clear hd
      go_wp2_with fail
      refine (known_c K w6).mono ?_
      rintro e wd ⟨rfl, hd⟩
      have hb2 := Lib.hid (hbel.out.trans (hd.mono hbel.out.size))
      clear hd
      go_wp2
      go_ret
      exact ⟨rfl, hb2.out⟩
set_option maxHeartbeats 16000000 in
theorem numbers_any {PA : PAt} (K : PaceK PA) (w : World) :
    Calls Try.prog 3 #[] w fun e w' => e = .returned (.bool true) ∧ Below w.heap.size w w' := by
  obtain ⟨i0, hi0, hz0, hz1, hz2⟩ := info_parts info3
  have hmx : Hid (1000 ≤ maxLen) := Lib.hid (by decide)
  go_enter Try.func3, Try.ntmps3
  go_wp2
  go_loopw [1] (fun i wr => ∃ k : Int, -2 ≤ k ∧ k ≤ 20 ∧ i = .int .i64 k ∧ Hid (Below w.heap.size w wr)) (fun i _ => (20 - intOf i).toNat)
  case atStart => exact ⟨-2, by omega, by omega, rfl, Lib.hid (Below.refl _ _)⟩
  case round =>
    rename World => w0
    obtain ⟨k, k1, k2, rfl, hbel⟩ := hrel
    by_cases hlt : k < 20
    · have d1 : decide (k < 20) = true := by simpa using hlt
      have wk : IntKind.i64.wrap (k + 1) = k + 1 := by rw [IntKind.wrap_i64]; omega
      go_wp2
      have s0 : Hid (Row w0 w0 0 (.slice none 0 0) []) := Lib.hid ⟨World.ownsRow_nil _ _ _ _, rfl, fun _ h => (by cases h), Below.refl _ _⟩
      go_loopw [2, 3] (fun v i wx => ∃ j : Nat, j ≤ 60 ∧ i = .int .i64 j ∧ ∃ W, Hid (Row w0 wx j v W)) (fun _ i _ => 60 - (intOf i).toNat)
      case atStart => exact ⟨0, by omega, rfl, _, s0⟩
      case round =>
        clear s0
        obtain ⟨j, hj, rfl, W, hst⟩ := hrel
        by_cases hj2 : j < 60
        · have d2 : decide ((j : Int) < 60) = true := by simp; omega
          obtain ⟨Q, hQ, Q0, Q1⟩ : ∃ Q : Int, (j : Int) * k = Q ∧ -1200 ≤ Q ∧ Q ≤ 1200 := by
            refine ⟨_, rfl, ?_, ?_⟩
            · have := Int.mul_le_mul_of_nonneg_left (show (-2 : Int) ≤ k from k1) (show (0 : Int) ≤ (j : Int) by omega); omega
            · have := Int.mul_le_mul_of_nonneg_left (show k ≤ (20 : Int) from k2) (show (0 : Int) ≤ (j : Int) by omega); omega
          obtain ⟨r, hr, r0, r1, _⟩ := tmod_split (Q * 7) 90 (by omega)
          have g1 : IntKind.i64.wrap Q = Q := by rw [IntKind.wrap_i64]; omega
          have g2 : IntKind.i64.wrap (Q * 7) = Q * 7 := by rw [IntKind.wrap_i64]; omega
          have g3 : IntKind.i64.wrap r = r := by rw [IntKind.wrap_i64]; omega
          have g4 : IntKind.i64.wrap (r - 5) = r - 5 := by rw [IntKind.wrap_i64]; omega
          go_wp2_with (first | (at_builtin; refine wpList_append_lies _ rfl (.tmp 12) (.tmp 19) 22 rfl w0.heap.size 3 i0 (.int .i64 0) 1 8 Try.underlying22 hi0 hz0 hz1 hz2 rfl (by decide) u2 j _ (by simp [Act.eval]) (hst.out.own.alloc _) ⟨_, 0, none⟩ 1 1 (ints [(r - 5)]) (by simp [Act.eval]) (by simp [ints]) (one_at ((World.cell?_alloc_new _ _ _ 0).trans rfl)) (ints_one _) (by omega) (by have := hmx.out; omega) (by omega) (by have := hst.out.bel.size; simp; omega) _ rfl ?_; intro g9 cap9 w9 hown9 hgrow9 hat9 hlt9; have s9 := Lib.hid (hst.out.next (x := (r - 5)) (by omega) hown9 hgrow9); clear hown9 hgrow9 hat9 hlt9))
          go_roundw
          case rel => exact ⟨j + 1, by omega, by go_num, _, s9⟩
          case measure => simp [intOf]; omega
        · have d2 : decide ((j : Int) < 60) = false := by simp; omega
          obtain ⟨ad2, cap2, e2, HB⟩ := nums_own hst.out.own hst.out.bd
          subst e2
          have hb2 := Lib.hid (hbel.out.trans (hst.out.bel.mono hbel.out.size))
          replace HB := Lib.hid HB
          clear hst
          go_wp2_with fail
          refine (play_c K k (by omega) (by omega) ad2 j cap2 _ HB.out).mono ?_
          rintro e w5 ⟨rfl, hd⟩
          replace hb2 := Lib.hid (hb2.out.trans (hd.mono hb2.out.size))
          clear hd
          go_wp2_with fail
          refine (play_c K k (by omega) (by omega) _ 8 8 _ (nums_lit w5 [(9223372036854775807 : Int), 1048576, 1048577, (-9223372036854775808), 5, 7, 1, 1099511627776] (by decide) (by decide))).mono ?_
          rintro e w6 ⟨rfl, hd⟩
          replace hb2 := Lib.hid ((hb2.out.alloc hb2.out.size _).trans (hd.mono (by have := hb2.out.size; simp; omega)))
          clear hd
          go_wp2
          go_roundw
          case rel => exact ⟨k + 1, by omega, by omega, rfl, hb2⟩
          case measure => simp [intOf]; omega
    · have d1 : decide (k < 20) = false := by simpa using hlt
      go_wp2_with fail
      refine (play_c K 9223372036854775807 (by omega) (by omega) _ 1 1 _ (nums_lit w0 [(1 : Int)] (by decide) (by decide))).mono ?_
      rintro e w6 ⟨rfl, hd⟩
      replace hbel := Lib.hid ((hbel.out.alloc hbel.out.size _).trans (hd.mono (by have := hbel.out.size; simp; omega)))
      clear hd
      go_wp2_with fail
      refine (known_c K w6).mono ?_
      rintro e wd ⟨rfl, hd⟩
      have hb2 := Lib.hid (hbel.out.trans (hd.mono hbel.out.size))
      clear hd
      go_wp2
      go_ret
      exact ⟨rfl, hb2.out⟩
end Wd
end Go.Proofs.Ytgbhhejoglpboaa
