/- What the laws ask of a mill, whoever keeps it: same. -/
import Derived.Test.YtjobeomadkaeoaaMLaw
namespace Go.Proofs.Ytjobeomadkaeoaa
open Go.RowKit
namespace Wd
theorem rowA_in (A : Mst) (j : Nat) (h : j < 4) : rowA A (j : Int) = A j := by
  unfold rowA
  rw [if_pos ⟨by omega, by omega⟩, Int.toNat_natCast]
theorem rowA_out (A : Mst) (c : Int) (h : c < 0 ∨ 4 ≤ c) : rowA A c = [] := by
  unfold rowA
  rw [if_neg (by omega)]
theorem drewN_bel (w : World) (q : Nat) : Below w.heap.size w (w.drewN q) := ⟨rfl, rfl, rfl, Nat.le_refl _, fun _ _ => rfl⟩
/-- two mills, as a law looks at them -/
structure Look (MA : MAt) (w0 w : World) (p b n : Nat) (A : Mst) (F : Nat → Prop) (V : Nat → Value) : Prop where
  ma : MA w p n A F
  ref : RefM w b A V
  bel : Below w0.heap.size w0 w
theorem Look.keep {MA : MAt} (K : MillK MA) {w0 w w' : World} {p b n : Nat} {A : Mst} {F : Nat → Prop} {V : Nat → Value} (h : Look MA w0 w p b n A F V) (g : Below w.heap.size w w') : Look MA w0 w' p b n A F V :=
  ⟨K.keep h.ma (fun k hk => g.block k (K.lt h.ma k hk)), h.ref.keep g, h.bel.trans (g.mono h.bel.size)⟩
set_option maxHeartbeats 8000000 in
theorem same_c {MA : MAt} (K : MillK MA) {w : World} {p b n : Nat} {A : Mst} {F : Nat → Prop} {V : Nat → Value} (N : Nat) (hN : N ≤ 512) (h : Look MA w w p b n A F V) (hl : ∀ k, k < 4 → (A k).length ≤ 8192) :
    Calls Try.prog 25 #[.pointer (some ⟨p, 0, none⟩), .pointer (some ⟨b, 0, none⟩), .int .i64 N] w fun e w' => e = .returned (.bool true) ∧ Below w.heap.size w w' := by
  replace h := Lib.hid h
  go_enter Try.func25, Try.ntmps25
  go_wp2
  go_loopw [7] (fun s wr => ∃ c : Int, -1 ≤ c ∧ c ≤ 5 ∧ s = .int .i64 c ∧ Hid (Look MA w wr p b n A F V)) (fun s _ => (5 - intOf s).toNat)
  case atStart => exact ⟨-1, by omega, by omega, rfl, h⟩
  case round =>
    obtain ⟨c, c0, c1, rfl, hst⟩ := hrel
    clear h
    by_cases hlt : c < 5
    · have d1 : decide (c < 5) = true := by simpa using hlt
      have hw : IntKind.i64.wrap (c + 1) = c + 1 := by rw [IntKind.wrap_i64]; omega
      by_cases hin : 0 ≤ c ∧ c < 4
      · obtain ⟨j, rfl⟩ : ∃ j : Nat, c = j := ⟨c.toNat, by omega⟩
        have hj : j < 4 := by omega
        have d2 : decide ((j : Int) ≥ 0) = true := by simp
        have d3 : decide ((j : Int) < 4) = true := by simp; omega
        have p0 : (0 : Int) ≤ (j : Int) := by omega
        have p1 : (j : Int) < 4 := by omega
        have L1 := K.list (j : Int) hst.out.ma (by omega) (by omega)
        rw [rowA_in A j hj] at L1
        have cc := hst.out.ref.c j hj
        have hlj := hl j hj
        obtain ⟨a9, c9, hv9⟩ := (hst.out.ref.own j hj).form
        rw [hv9] at cc
        replace L1 := Lib.hid L1
        go_wp2_with fail
        refine L1.out.mono ?_
        rintro e w1 ⟨u, rfl, hu, hb1, _⟩
        have hst1 := Lib.hid (hst.out.keep K hb1)
        have hs := (hst1.out.ref.own j hj)
        rw [hv9] at hs
        have S1 := Lib.hid (same_ints (A j) (A j) u (.slice a9 (A j).length c9) w1 hu hs hlj hlj)
        clear hu hs hb1 L1 cc
        go_wp2_with fail
        refine S1.out.mono ?_
        rintro e w2 ⟨rfl, q, rfl⟩
        have hst2 := Lib.hid (hst1.out.keep K (drewN_bel w1 q))
        have L2 := K.count (j : Int) hst2.out.ma (by omega) (by omega)
        rw [rowA_in A j hj] at L2
        replace L2 := Lib.hid L2
        clear S1
        go_wp2_with fail
        refine L2.out.mono ?_
        rintro e w3 ⟨rfl, hb3⟩
        have hst3 := Lib.hid (hst2.out.keep K hb3)
        clear hst hst1 hst2 hb3 L2
        go_wp2
        go_roundw
        case rel => exact ⟨(j : Int) + 1, by omega, by omega, rfl, hst3⟩
        case measure => simp [intOf]; omega
      · have hr : rowA A c = [] := rowA_out A c (by omega)
        have L1 := K.list c hst.out.ma (by omega) (by omega)
        rw [hr] at L1
        replace L1 := Lib.hid L1
        have D : Hid ((decide (c ≥ 0) = false) ∨ (decide (c ≥ 0) = true ∧ decide (c < 4) = false)) := Lib.hid (by simp; omega)
        rcases D.out with d2 | ⟨d2, d3⟩
        all_goals
          go_wp2_with fail
          refine L1.out.mono ?_
          rintro e w1 ⟨u, rfl, hu, hb1, _⟩
          have hst1 := Lib.hid (hst.out.keep K hb1)
          have S1 := Lib.hid (same_ints [] [] u (.slice none 0 0) w1 hu (World.ownsRow_nil _ _ _ _) (by simp) (by simp))
          clear hu hb1 L1
          go_wp2_with fail
          refine S1.out.mono ?_
          rintro e w2 ⟨rfl, q, rfl⟩
          have hst2 := Lib.hid (hst1.out.keep K (drewN_bel w1 q))
          have L2 := K.count c hst2.out.ma (by omega) (by omega)
          rw [hr] at L2
          replace L2 := Lib.hid L2
          clear S1
          go_wp2_with fail
          refine L2.out.mono ?_
          rintro e w3 ⟨rfl, hb3⟩
          have hst3 := Lib.hid (hst2.out.keep K hb3)
          clear hst hst1 hst2 hb3 L2
          go_wp2
          go_roundw
          case rel => exact ⟨c + 1, by omega, by omega, rfl, hst3⟩
          case measure => simp [intOf]; omega
    · have d1 : decide (c < 5) = false := by simpa using hlt
      go_wp2
      go_loopw [9] (fun s wr => ∃ i : Int, -1 ≤ i ∧ i ≤ 600 ∧ s = .int .i64 i ∧ Hid (Look MA w wr p b n A F V)) (fun s _ => (600 - intOf s).toNat)
      case atStart => exact ⟨-1, by omega, by omega, rfl, hst⟩
      case round =>
        obtain ⟨i, i0, i1, rfl, hst⟩ := hrel
        by_cases hin : i ≤ (N : Int)
        · have e1 : decide (i ≤ (N : Int)) = true := by simpa using hin
          have hw : IntKind.i64.wrap (i + 3) = i + 3 := by rw [IntKind.wrap_i64]; omega
          go_wp2_with fail
          refine (K.color i hst.out.ma (by omega) (by omega)).mono ?_
          rintro e w1 ⟨rfl, hb1⟩
          have hst1 := Lib.hid (hst.out.keep K hb1)
          clear hb1
          go_wp2_with fail
          refine (rcolor_c i b A V w1 hst1.out.ref hl).mono ?_
          rintro e w2 ⟨rfl, hw2⟩
          subst w2
          clear hst
          generalize colorR A i = x
          have e3 : (x != x) = false := by simp
          go_wp2
          go_roundw
          case rel => exact ⟨i + 3, by omega, by omega, rfl, hst1⟩
          case measure => simp [intOf]; omega
        · have e1 : decide (i ≤ (N : Int)) = false := by simpa using hin
          go_wp2
          go_ret
          exact ⟨rfl, hst.out.bel⟩
end Wd
end Go.Proofs.Ytjobeomadkaeoaa
