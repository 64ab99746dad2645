/- What the laws ask of a mill, whoever keeps it: MillNumbers. -/
import Derived.Test.YtjobeomadkaeoaaMPlays
import Derived.Deep.AppendLies
import Derived.OpenShut
import Derived.Deep.RegionHeld3
namespace Go.Proofs.Ytjobeomadkaeoaa
open Go.RowKit
namespace Wd
theorem inb_lit (T : List (Int × Int)) (h : T.all (fun t => decide (-9223372036854775808 ≤ t.1 ∧ t.1 ≤ 9223372036854775807) && decide (-9223372036854775808 ≤ t.2 ∧ t.2 ≤ 9223372036854775807)) = true) :
    ∀ t, t ∈ T → InB t.1 ∧ InB t.2 := by
  intro t ht
  have := List.all_eq_true.1 h t ht
  simp only [Bool.and_eq_true, decide_eq_true_eq] at this
  exact ⟨this.1, this.2⟩
theorem asks_lit (w : World) (cs : Array Value) (T : List (Int × Int)) (hc : cs.toList = duo T) (hs : cs.size = T.length * 2) (hm : T.length ≤ maxLen) (hb : ∀ t, t ∈ T → InB t.1 ∧ InB t.2) :
    Asks (w.alloc (.cells cs 24)) (some ⟨w.heap.size, 0, none⟩) T.length := by
  have h := World.ownsRow_lit (base := 0) (e := 24) (size := 2) w cs T.length (by omega) hm hs
  rw [hc] at h
  obtain ⟨ad, cap, e, HB⟩ := asks_own h rfl hb
  cases e
  exact HB
theorem asks_nil (w : World) : Asks w none 0 := fun _ _ q hq => absurd hq (by omega)
set_option maxHeartbeats 16000000 in
theorem numbers_any {MA : MAt} (K : MillK MA) (w : World) :
    Calls Try.prog 3 #[] w fun e w' => e = .returned (.bool true) ∧ Below w.heap.size w w' := by
  obtain ⟨i0, hi0, hz0, hz1, hz2⟩ := info_parts infoA
  have hmx : Hid (1000 ≤ maxLen) := Lib.hid (by decide)
  go_enter Try.func3, Try.ntmps3
  go_wp2
  go_loopw [1] (fun i wr => ∃ k : Nat, 1 ≤ k ∧ k ≤ 40 ∧ i = .int .i64 k ∧ Hid (Below w.heap.size w wr)) (fun i _ => 40 - (intOf i).toNat)
  case atStart => exact ⟨1, by omega, by omega, rfl, Lib.hid (Below.refl _ _)⟩
  case round =>
    obtain ⟨k, k1, k2, rfl, hbel⟩ := hrel
    by_cases hlt : k < 40
    · have d1 : decide ((k : Int) < 40) = true := by simp; omega
      go_wp2
      have s0 : Hid (Some_ wr wr 0 (.slice none 0 0) []) := Lib.hid ⟨World.ownsRow_nil _ _ _ _, rfl, fun _ h => (by cases h), Below.refl _ _⟩
      go_loopw [2, 3] (fun v i w2 => ∃ j : Nat, j ≤ 120 ∧ i = .int .i64 j ∧ ∃ vv T, v = vv ∧ Hid (Some_ wr w2 j vv T)) (fun _ i _ => 120 - (intOf i).toNat)
      case atStart => exact ⟨0, by omega, rfl, _, [], rfl, s0⟩
      case round =>
        rename World => w2
        clear s0
        obtain ⟨j, hj, rfl, vv, T, rfl, hst⟩ := hrel
        by_cases hj2 : j < 120
        · have d2 : decide ((j : Int) < 120) = true := by simp; omega
          obtain ⟨P, hP, P0, P1⟩ : ∃ P : Int, (j : Int) * (j : Int) = P ∧ 0 ≤ P ∧ P ≤ 14400 := ⟨_, rfl, Int.mul_nonneg (by omega) (by omega), by have := Nat.mul_le_mul (show j ≤ 120 by omega) (show j ≤ 120 by omega); have e : ((j * j : Nat) : Int) = (j : Int) * j := (by simp); omega⟩
          obtain ⟨R, hR, R0, R1⟩ : ∃ R : Int, (k : Int) * (j : Int) = R ∧ 0 ≤ R ∧ R ≤ 4800 := ⟨_, rfl, Int.mul_nonneg (by omega) (by omega), by have := Nat.mul_le_mul (show k ≤ 40 by omega) (show j ≤ 120 by omega); have e : ((k * j : Nat) : Int) = (k : Int) * j := (by simp); omega⟩
          obtain ⟨Q, hQ, Q0, Q1⟩ : ∃ Q : Int, (j : Int) * ((k : Int) + 3) = Q ∧ 0 ≤ Q ∧ Q ≤ 5160 := ⟨_, rfl, Int.mul_nonneg (by omega) (by omega), by have := Nat.mul_le_mul (show j ≤ 120 by omega) (show k + 3 ≤ 43 by omega); have e : ((j * (k + 3) : Nat) : Int) = (j : Int) * ((k : Int) + 3) := (by simp); omega⟩
          obtain ⟨A, hA, A0, A1, _⟩ := tmod_split (P + R + k) 7 (by omega)
          obtain ⟨B, hB, B0, B1, _⟩ := tmod_split Q ((k : Int) + 1) (by omega)
          have g1 : IntKind.i64.wrap P = P := by rw [IntKind.wrap_i64]; omega
          have g9 : IntKind.i64.wrap R = R := by rw [IntKind.wrap_i64]; omega
          have g0 : IntKind.i64.wrap (P + R) = P + R := by rw [IntKind.wrap_i64]; omega
          have g2 : IntKind.i64.wrap (P + R + k) = P + R + k := by rw [IntKind.wrap_i64]; omega
          have g3 : IntKind.i64.wrap ((k : Int) + 3) = (k : Int) + 3 := by rw [IntKind.wrap_i64]; omega
          have g4 : IntKind.i64.wrap Q = Q := by rw [IntKind.wrap_i64]; omega
          have g5 : IntKind.i64.wrap ((k : Int) + 1) = (k : Int) + 1 := by rw [IntKind.wrap_i64]; omega
          have n1 : ¬ (k : Int) + 1 = 0 := by omega
          have a1 : IntKind.i64.wrap A = A := by rw [IntKind.wrap_i64]; omega
          have a2 : IntKind.i64.wrap B = B := by rw [IntKind.wrap_i64]; omega
          have hnw : Hid (∀ q u, (duo [(A, B)])[q]? = some u → (w2.alloc (.cells #[.int .i64 A, .int .i64 B] 24)).cell? ((⟨w2.heap.size, 0, none⟩ : Addr).add q) = some u) := Lib.hid (World.news_of_block (heap_alloc_new w2 _))
          have tb : Hid (InB A ∧ InB B) := Lib.hid (by unfold InB; omega)
          go_wp2_with (first | (at_builtin; refine wpList_append_lies _ rfl (.tmp 12) (.tmp 31) 22 rfl wr.heap.size 24 i0 (.agg #[.int .i64 0, .int .i64 0]) 2 16 Try.underlying22 hi0 hz0 hz1 hz2 rfl (by decide) u2 j _ (by simp [Act.eval]) (hst.out.own.alloc _) ⟨w2.heap.size, 0, none⟩ 1 1 (duo [(A, B)]) (by simp [Act.eval]) rfl hnw.out (duo_one _) (by omega) (by have := hmx.out; omega) (by omega) (by have := hst.out.bel.size; simp; omega) _ rfl ?_; intro g2' cap2 w5 hown hgrow hat hlt2; have S9 := Lib.hid (hst.out.next tb.out hown ⟨hgrow.os, hgrow.tape, hgrow.output, hgrow.size, hgrow.block⟩); clear hown hgrow hat hlt2))
          go_roundw
          case rel => exact ⟨j + 1, by omega, by go_num, _, _, rfl, S9⟩
          case measure => simp [intOf]; omega
        · have d2 : decide ((j : Int) < 120) = false := by simp; omega
          obtain ⟨ad2, cap2, e2, HB⟩ := asks_own hst.out.own hst.out.len hst.out.bd
          subst e2
          have hb2 := Lib.hid (hbel.out.trans (hst.out.bel.mono hbel.out.size))
          replace HB := Lib.hid HB
          clear hst
          go_wp2_with fail
          refine (play_c K k (by omega) (by omega) ad2 j cap2 w2 HB.out (by have := hmx.out; omega)).mono ?_
          rintro e w5 ⟨rfl, hd⟩
          replace hb2 := Lib.hid (hb2.out.trans (hd.mono hb2.out.size))
          clear hd
          go_wp2
          go_roundw
          case rel => exact ⟨k + 1, by omega, by omega, by go_num, hb2⟩
          case measure => simp [intOf]; omega
    · have d1 : decide ((k : Int) < 40) = false := by simp; omega
      go_wp2_with fail
      refine (play_c K 513 (by omega) (by omega) none 0 0 wr (asks_nil _) (by decide)).mono ?_
      rintro e w5 ⟨rfl, hd⟩
      replace hbel := Lib.hid (hbel.out.trans (hd.mono hbel.out.size))
      clear hd
      go_wp2_with fail
      refine (play_c K (-1) (by omega) (by omega) none 0 0 w5 (asks_nil _) (by decide)).mono ?_
      rintro e w6 ⟨rfl, hd⟩
      replace hbel := Lib.hid (hbel.out.trans (hd.mono hbel.out.size))
      clear hd
      go_wp2_with fail
      refine (play_c K 1 (by omega) (by omega) _ 9 9 _ (asks_lit w6 #[.int .i64 (0), .int .i64 (0), .int .i64 (6), .int .i64 (0), .int .i64 (3), .int .i64 (-9223372036854775808), .int .i64 (3), .int .i64 (0), .int .i64 (6), .int .i64 (0), .int .i64 (5), .int .i64 (0), .int .i64 (6), .int .i64 (0), .int .i64 (6), .int .i64 (0), .int .i64 (0), .int .i64 (0)] [((0 : Int), (0 : Int)), (6, 0), (3, -9223372036854775808), (3, 0), (6, 0), (5, 0), (6, 0), (6, 0), (0, 0)] rfl rfl (by decide) (inb_lit _ (by decide))) (by decide)).mono ?_
      rintro e w7 ⟨rfl, hd⟩
      replace hbel := Lib.hid ((hbel.out.alloc hbel.out.size _).trans (hd.mono (by have := hbel.out.size; simp; omega)))
      clear hd
      go_wp2_with fail
      refine (known_c K w7).mono ?_
      rintro e w8 ⟨rfl, hd⟩
      replace hbel := Lib.hid (hbel.out.trans (hd.mono hbel.out.size))
      go_wp2
      go_ret
      exact ⟨rfl, hbel.out⟩
end Wd
end Go.Proofs.Ytjobeomadkaeoaa
