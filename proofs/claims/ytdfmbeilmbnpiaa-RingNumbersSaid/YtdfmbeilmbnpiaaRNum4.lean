/- What the laws ask of a ring, whoever keeps it; what keeps it: RingNumbers. -/
import Derived.Test.YtdfmbeilmbnpiaaRNew
import Derived.Test.YtdfmbeilmbnpiaaRSame
import Derived.Test.YtdfmbeilmbnpiaaRMath
import Derived.Test.YtdfmbeilmbnpiaaRPlays
import Derived.Deep.AppendLies
import Derived.OpenShut
import Derived.Deep.RegionHeld3
namespace Go.Proofs.Ytdfmbeilmbnpiaa
open Go.RowKit
namespace Wd
theorem inb_lit (T : List (Int × Int × Int)) (h : T.all (fun t => decide (-9223372036854775808 ≤ t.1 ∧ t.1 ≤ 9223372036854775807) && decide (-9223372036854775808 ≤ t.2.1 ∧ t.2.1 ≤ 9223372036854775807) && decide (-9223372036854775808 ≤ t.2.2 ∧ t.2.2 ≤ 9223372036854775807)) = true) :
    ∀ t, t ∈ T → InB t.1 ∧ InB t.2.1 ∧ InB t.2.2 := by
  intro t ht
  have := List.all_eq_true.1 h t ht
  simp only [Bool.and_eq_true, decide_eq_true_eq] at this
  exact ⟨this.1.1, this.1.2, this.2⟩
theorem asks_lit (w : World) (cs : Array Value) (T : List (Int × Int × Int)) (hc : cs.toList = tri T) (hs : cs.size = T.length * 3) (hm : T.length ≤ maxLen) (hb : ∀ t, t ∈ T → InB t.1 ∧ InB t.2.1 ∧ InB t.2.2) :
    Asks (w.alloc (.cells cs 24)) (some ⟨w.heap.size, 0, none⟩) T.length := by
  have h := World.ownsRow_lit (base := 0) (e := 24) (size := 3) w cs T.length (by omega) hm hs
  rw [hc] at h
  obtain ⟨ad, cap, e, HB⟩ := asks_own h rfl hb
  cases e
  exact HB
theorem asks_nil (w : World) : Asks w none 0 := fun _ _ q hq => absurd hq (by omega)
set_option maxHeartbeats 16000000 in
theorem numbers_any {RA : RAt} (K : RingK RA) (w : World) :
    Calls Try.prog 3 #[] w fun e w' => e = .returned (.bool true) ∧ Below w.heap.size w w' := by
  obtain ⟨i0, hi0, hz0, hz1, hz2⟩ := info_parts infoA
  have hmx : Hid (1000 ≤ maxLen) := Lib.hid (by decide)
  go_enter Try.func3, Try.ntmps3
  go_wp2
  go_loopw [1] (fun i wr => ∃ k : Nat, 1 ≤ k ∧ k ≤ 40 ∧ i = .int .i64 k ∧ Hid (Below w.heap.size w wr)) (fun i _ => 40 - (intOf i).toNat)
  case atStart => exact ⟨1, by omega, by omega, rfl, Lib.hid (Below.refl _ _)⟩
  case round =>
    obtain ⟨k, k1, k2, rfl, hbel⟩ := hrel
    by_cases hlt : k < 40
    · have d1 : decide ((k : Int) < 40) = true := by simp; omega
      go_wp2
      have s0 : Hid (Some_ wr wr 0 (.slice none 0 0) []) := Lib.hid ⟨World.ownsRow_nil _ _ _ _, rfl, fun _ h => (by cases h), Below.refl _ _⟩
      go_loopw [2, 3] (fun v i w2 => ∃ j : Nat, j ≤ 90 ∧ i = .int .i64 j ∧ ∃ vv T, v = vv ∧ Hid (Some_ wr w2 j vv T)) (fun _ i _ => 90 - (intOf i).toNat)
      case atStart => exact ⟨0, by omega, rfl, _, [], rfl, s0⟩
      case round =>
        rename World => w2
        clear s0
        obtain ⟨j, hj, rfl, vv, T, rfl, hst⟩ := hrel
        by_cases hj2 : j < 90
        · have d2 : decide ((j : Int) < 90) = true := by simp; omega
          obtain ⟨P, hP, P0, P1⟩ : ∃ P : Int, (j : Int) * (j : Int) = P ∧ 0 ≤ P ∧ P ≤ 8100 := ⟨_, rfl, Int.mul_nonneg (by omega) (by omega), by have := Nat.mul_le_mul (show j ≤ 90 by omega) (show j ≤ 90 by omega); have e : ((j * j : Nat) : Int) = (j : Int) * j := (by simp); omega⟩
          obtain ⟨Q, hQ, Q0, Q1⟩ : ∃ Q : Int, (j : Int) * ((k : Int) + 3) = Q ∧ 0 ≤ Q ∧ Q ≤ 4000 := ⟨_, rfl, Int.mul_nonneg (by omega) (by omega), by have := Nat.mul_le_mul (show j ≤ 90 by omega) (show k + 3 ≤ 43 by omega); have e : ((j * (k + 3) : Nat) : Int) = (j : Int) * ((k : Int) + 3) := (by simp); omega⟩
          obtain ⟨A, hA, A0, A1, _⟩ := tmod_split (P + k) 4 (by omega)
          obtain ⟨B, hB, B0, B1, _⟩ := tmod_split Q ((k : Int) + 2) (by omega)
          obtain ⟨C, hC, C0, C1, _⟩ := tmod_split ((j : Int) * 7 + k) ((k : Int) + 3) (by omega)
          have g1 : IntKind.i64.wrap P = P := by rw [IntKind.wrap_i64]; omega
          have g2 : IntKind.i64.wrap (P + k) = P + k := by rw [IntKind.wrap_i64]; omega
          have g3 : IntKind.i64.wrap ((k : Int) + 3) = (k : Int) + 3 := by rw [IntKind.wrap_i64]; omega
          have g4 : IntKind.i64.wrap Q = Q := by rw [IntKind.wrap_i64]; omega
          have g5 : IntKind.i64.wrap ((k : Int) + 2) = (k : Int) + 2 := by rw [IntKind.wrap_i64]; omega
          have g6 : IntKind.i64.wrap ((j : Int) * 7) = (j : Int) * 7 := by rw [IntKind.wrap_i64]; omega
          have g7 : IntKind.i64.wrap ((j : Int) * 7 + k) = (j : Int) * 7 + k := by rw [IntKind.wrap_i64]; omega
          have g8 : IntKind.i64.wrap (C - 1) = C - 1 := by rw [IntKind.wrap_i64]; omega
          have n1 : ¬ (k : Int) + 2 = 0 := by omega
          have n2 : ¬ (k : Int) + 3 = 0 := by omega
          have a1 : IntKind.i64.wrap A = A := by rw [IntKind.wrap_i64]; omega
          have a2 : IntKind.i64.wrap B = B := by rw [IntKind.wrap_i64]; omega
          have a3 : IntKind.i64.wrap C = C := by rw [IntKind.wrap_i64]; omega
          go_wp2
          have hnw : Hid (∀ q u, (tri [(A, B, C - 1)])[q]? = some u → (w2.alloc (.cells #[.int .i64 A, .int .i64 B, .int .i64 (C - 1)] 24)).drew.cell? ((⟨w2.heap.size, 0, none⟩ : Addr).add q) = some u) := Lib.hid (World.news_of_block (heap_alloc_new w2 _))
          have tb : Hid (InB A ∧ InB B ∧ InB (C - 1)) := Lib.hid (by unfold InB; omega)
          go_region_held3 (fun _ => True) (trivial) (first
            | (refine step_append_lies _ rfl (.tmp 12) (.tmp 35) 22 rfl wr.heap.size 24 i0 (.agg #[.int .i64 0, .int .i64 0, .int .i64 0]) 3 24 Try.underlying22 hi0 hz0 hz1 hz2 rfl (by decide) u2 j _ (by simp [Act.eval]) (hst.out.own.alloc _) ⟨w2.heap.size, 0, none⟩ 1 1 (tri [(A, B, C - 1)]) (by simp [Act.eval]) rfl hnw.out (tri_one _) (by omega) (by have := hmx.out; omega) (by omega) (by have := hst.out.bel.size; simp; omega) _ rfl ?_; intro g2' cap2 w5 hown hgrow hat hlt2))
          go_wp2
          go_roundw
          case rel => exact ⟨j + 1, by omega, by go_num, _, _, rfl, Lib.hid (hst.out.next tb.out hown hgrow)⟩
          case measure => simp [intOf]; omega
        · have d2 : decide ((j : Int) < 90) = false := by simp; omega
          obtain ⟨ad2, cap2, e2, HB⟩ := asks_own hst.out.own hst.out.len hst.out.bd
          subst e2
          have hb2 := Lib.hid (hbel.out.trans (hst.out.bel.mono hbel.out.size))
          replace HB := Lib.hid HB
          clear hst
          go_wp2_with fail
          refine (play_c K k (by omega) (by omega) ad2 j cap2 w2 HB.out (by have := hmx.out; omega)).mono ?_
          rintro e w5 ⟨rfl, hd⟩
          replace hb2 := Lib.hid (hb2.out.trans (hd.mono hb2.out.size))
          clear hd
          go_wp2
          go_roundw
          case rel => exact ⟨k + 1, by omega, by omega, by go_num, hb2⟩
          case measure => simp [intOf]; omega
    · have d1 : decide ((k : Int) < 40) = false := by simp; omega
      go_wp2_with fail
      refine (play_c K 2 (by omega) (by omega) _ 6 6 _ (asks_lit wr #[.int .i64 (0), .int .i64 (0), .int .i64 (0), .int .i64 (0), .int .i64 (1), .int .i64 (0), .int .i64 (2), .int .i64 (1), .int .i64 (0), .int .i64 (2), .int .i64 (1), .int .i64 (-1), .int .i64 (2), .int .i64 (0), .int .i64 (-1), .int .i64 (2), .int .i64 (0), .int .i64 (1)] [((0 : Int), (0 : Int), (0 : Int)), (0, 1, 0), (2, 1, 0), (2, 1, -1), (2, 0, -1), (2, 0, 1)] rfl rfl (by decide) (inb_lit _ (by decide))) (by decide)).mono ?_
      rintro e w5 ⟨rfl, hd⟩
      replace hbel := Lib.hid ((hbel.out.alloc hbel.out.size _).trans (hd.mono (by have := hbel.out.size; simp; omega)))
      clear hd
      go_wp2_with fail
      refine (play_c K 4611686018427387904 (by omega) (by omega) none 0 0 w5 (asks_nil _) (by decide)).mono ?_
      rintro e w6 ⟨rfl, hd⟩
      replace hbel := Lib.hid (hbel.out.trans (hd.mono hbel.out.size))
      clear hd
      go_wp2_with fail
      refine (play_c K (-9223372036854775808) (by omega) (by omega) none 0 0 w6 (asks_nil _) (by decide)).mono ?_
      rintro e w7 ⟨rfl, hd⟩
      replace hbel := Lib.hid (hbel.out.trans (hd.mono hbel.out.size))
      clear hd
      go_wp2_with fail
      refine (play_c K 1 (by omega) (by omega) _ 2 2 _ (asks_lit w7 #[.int .i64 (0), .int .i64 (-9223372036854775808), .int .i64 (0), .int .i64 (2), .int .i64 (9223372036854775807), .int .i64 (-9223372036854775808)] [((0 : Int), (-9223372036854775808 : Int), (0 : Int)), (2, 9223372036854775807, -9223372036854775808)] rfl rfl (by decide) (inb_lit _ (by decide))) (by decide)).mono ?_
      rintro e w8 ⟨rfl, hd⟩
      replace hbel := Lib.hid ((hbel.out.alloc hbel.out.size _).trans (hd.mono (by have := hbel.out.size; simp; omega)))
      clear hd
      go_wp2_with fail
      refine (known_c K w8).mono ?_
      rintro e w9 ⟨rfl, hd⟩
      replace hbel := Lib.hid (hbel.out.trans (hd.mono hbel.out.size))
      go_wp2
      go_ret
      exact ⟨rfl, hbel.out⟩
end Wd
end Go.Proofs.Ytdfmbeilmbnpiaa
