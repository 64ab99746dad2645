/- Chapter 1's closed sentence: what its two pairs of loops keep. -/
import Derived.Test.YtfbaklkfjcnbbaaTwo
import Derived.Test.YtfbaklkfjcnbbaaPures
import Derived.Deep.RegionWith
namespace Go.Proofs.Ytfbaklkfjcnbbaa
open Go.RowKit
namespace Wd

theorem info25 : (Try.prog.info? 25).map (fun i => (i.zero, i.size, i.bytes)) = some (some (.int .u32 0), 1, 4) := by kernel_rfl

/-- a slice of n words, made by the call itself -/
def LW (B : Nat) (v : Value) (n : Nat) (wr : World) : Prop :=
  ∃ zs : List Int, (∀ z ∈ zs, 0 ≤ z ∧ z ≤ 4294967295) ∧ wr.ownsRow B 25 1 v n (zs.map (Value.int .u32))
theorem LW.nil (B : Nat) (wr : World) : LW B (.slice none 0 0) 0 wr := ⟨[], by simp, World.ownsRow_nil _ _ _ _⟩

/-- the outer pair's relation: i is below or at 32, and what was gathered is words -/
def R1 (w : World) (v i : Value) (wr : World) : Prop :=
  ∃ k n : Nat, k ≤ 32 ∧ n ≤ 9 * k ∧ i = .int .u64 k ∧ LW w.heap.size v n wr ∧ Below w.heap.size w wr
/-- the inner loop's -/
def R2 (w : World) (k : Nat) (v d : Value) (wr : World) : Prop :=
  ∃ (dd : Int) (m : Nat), -1 ≤ dd ∧ dd ≤ 2 ∧ (m : Int) ≤ 9 * k + 3 * (dd + 1) ∧ d = .int .i64 dd ∧ LW w.heap.size v m wr ∧ Below w.heap.size w wr
/-- the readers' two loops: the place is below or at the length, and nothing was written -/
def R3 (n : Nat) (w1 : World) (i : Value) (wr : World) : Prop := ∃ k nd : Nat, k ≤ n ∧ i = .int .i64 k ∧ wr = w1.drewN nd
theorem LW.more {B : Nat} {v' : Value} {n : Nat} {w' : World} {zs : List Int} (hz : ∀ z ∈ zs, 0 ≤ z ∧ z ≤ 4294967295) (a b c : Int)
    (ha : 0 ≤ a ∧ a ≤ 4294967295) (hb : 0 ≤ b ∧ b ≤ 4294967295) (hc : 0 ≤ c ∧ c ≤ 4294967295)
    (h : w'.ownsRow B 25 1 v' (n + 3) (zs.map (Value.int .u32) ++ [.int .u32 a, .int .u32 b, .int .u32 c])) : LW B v' (n + 3) w' := by
  refine ⟨zs ++ [a, b, c], ?_, by simpa using h⟩
  intro z hm
  simp only [List.mem_append, List.mem_cons, List.not_mem_nil, or_false] at hm
  rcases hm with hm | rfl | rfl | rfl
  · exact hz z hm
  · exact ha
  · exact hb
  · exact hc

set_option maxHeartbeats 4000000 in
set_option maxRecDepth 100000 in
theorem numbers_any (w : World) :
    Calls Try.prog 3 #[] w fun e w' => e = .returned (.bool true) ∧ Below w.heap.size w w' := by
  obtain ⟨i0, hi, hz0, hz1, hz2⟩ := info_parts info25
  go_enter Try.func3, Try.ntmps3
  go_wp2
  go_loopw [1, 2] (R1 w) (fun _ i _ => 32 - (intOf i).toNat)
  case atStart => exact ⟨0, 0, by omega, by omega, rfl, LW.nil _ _, Below.refl _ _⟩
  case round =>
    obtain ⟨k, n, hk, hn, rfl, hl, hb⟩ := hrel
    by_cases hlt : k < 32
    · have hlt' : decide ((k : Int) < 32) = true := by simp; omega
      go_wp2
      go_loopw [1, 3] (R2 w k) (fun _ d _ => (2 - intOf d).toNat)
      case atStart => exact ⟨-1, n, by omega, by omega, by omega, rfl, hl, hb⟩
      case round =>
        clear hl hb
        obtain ⟨dd, m, hd, hd2, hm, rfl, hl, hb⟩ := hrel
        obtain ⟨zs, hz, hown⟩ := hl
        have HZ := Lib.hid hz
        clear hz
        by_cases hdl : dd < 2
        · go_wp2_with fail
          generalize wrap64 (wrap64 (2 ^ k) + dd) = x at *
          refine (one_c _ _ ?_ ?_ _).mono ?_
          · first | (with_reducible exact (bits_bd _ _ _).1) | omega
          · first | (with_reducible exact (bits_bd _ _ _).2) | omega
          rintro e w' ⟨rfl, rfl⟩
          go_wp2_with fail
          refine (one_c _ _ ?_ ?_ _).mono ?_
          · first | (with_reducible exact (bits_bd _ _ _).1) | omega
          · first | (with_reducible exact (bits_bd _ _ _).2) | omega
          rintro e w' ⟨rfl, rfl⟩
          go_wp2_with fail
          refine (one_c _ _ ?_ ?_ _).mono ?_
          · first | (with_reducible exact (bits_bd _ _ _).1) | omega
          · first | (with_reducible exact (bits_bd _ _ _).2) | omega
          rintro e w' ⟨rfl, rfl⟩
          go_wp2_with fail
          refine (refInt_c _ _).mono ?_
          rintro e w' ⟨rfl, rfl⟩
          go_wp2_with fail
          refine (refInt_c _ _).mono ?_
          rintro e w' ⟨rfl, rfl⟩
          cases hf : fits x
          · go_wp2
            go_roundw
            case rel => (repeat (with_reducible apply Exists.intro)); first | exact ⟨dd + 1, m, by omega, by omega, by omega, rfl, ⟨zs, HZ.out, hown⟩, hb⟩ | (refine ⟨⟨dd + 1, m, by omega, by omega, by omega, rfl, ⟨zs, HZ.out, hown⟩, hb⟩, ?_⟩; and_intros <;> rfl)
            case measure => simp [intOf]; omega
          · by_cases h0 : dd = 0
            · subst h0
              go_wp2_with (at_builtin; refine wpList_append_own _ rfl _ _ 22 rfl w.heap.size 25 i0 (.int .u32 0) 1 4 Try.underlying22 hi hz0 hz1 hz2 rfl (by decide) _ _ _ rfl (hown.alloc _) ⟨wr.heap.size, 0, none⟩ 3 3 [.int .u32 (iv x), .int .u32 (iv (wrap64 (-x))), .int .u32 (x % 4294967296)] rfl rfl ?c1 ?c2 ?c3 ?c4 ?c5 ?_)
              case c1 =>
                intro j u hj
                match j, hj with
                | 0, hj => simp at hj; subst hj; simp [Addr.add]
                | 1, hj => simp at hj; subst hj; simp [Addr.add]
                | 2, hj => simp at hj; subst hj; simp [Addr.add]
              case c2 => intro u hu; simp at hu; rcases hu with rfl | rfl | rfl <;> rfl
              case c3 => unfold maxLen; omega
              case c4 => omega
              case c5 => have := hb.size; simp; omega
              · intro v' w1 hown' hgrow _
                have R : LW w.heap.size v' (m + 3) w1 := LW.more HZ.out _ _ _ (iv_bd _) (iv_bd _) (by omega) hown'
                have RB : Below w.heap.size w w1 := (hb.alloc hb.size _).grown hgrow (by have := hb.size; simp; omega) (fun q hq => (hown.lt q hq).1)
                clear hown' hgrow hown hb
                go_wp2
                go_roundw
                case rel => (repeat (with_reducible apply Exists.intro)); first | exact ⟨0 + 1, m + 3, by omega, by omega, by omega, rfl, R, RB⟩ | (refine ⟨⟨0 + 1, m + 3, by omega, by omega, by omega, rfl, R, RB⟩, ?_⟩; and_intros <;> rfl)
                case measure => simp [intOf]
            · have h0' : (dd == 0) = false := by simp [h0]
              go_wp2
              go_roundw
              case rel => (repeat (with_reducible apply Exists.intro)); first | exact ⟨dd + 1, m, by omega, by omega, by omega, rfl, ⟨zs, HZ.out, hown⟩, hb⟩ | (refine ⟨⟨dd + 1, m, by omega, by omega, by omega, rfl, ⟨zs, HZ.out, hown⟩, hb⟩, ?_⟩; and_intros <;> rfl)
              case measure => simp [intOf]; omega
        · go_wp2
          go_roundw
          case rel => exact ⟨k + 1, m, by omega, by omega, by go_num, ⟨zs, HZ.out, hown⟩, hb⟩
          case measure => simp [intOf]; omega
    · obtain ⟨zs, hz, hown⟩ := hl
      have hlen : zs.length = n := by have := hown.1; simpa using this
      rcases hown.2 with ⟨rfl, rfl⟩ | ⟨g, cap, cur, rfl, hg⟩
      · clear hown hlen hz
        go_wp2
        refine wp_loop_rounds 1 ?_
        rw [rounds_succ]
        go_wp2_with (first | (go_at_call 12; ((with_reducible refine (known_c _).mono ?_); rintro e w' ⟨rfl, n, rfl⟩)))
        go_ret
        exact ⟨rfl, below_drewN hb _⟩
      · have hc : ∀ j, j < n → ∃ a : Int, 0 ≤ a ∧ a ≤ 4294967295 ∧ wr.cell? ⟨g, j, none⟩ = some (.int .u32 a) := fun j hj => by
          have h1 := hown.cellAt j (by omega)
          have h2 : j < zs.length := by omega
          refine ⟨zs[j], (hz _ (List.getElem_mem h2)).1, (hz _ (List.getElem_mem h2)).2, ?_⟩
          rw [h1]; simp [h2]
        have hn9 : n ≤ 288 := by omega
        have HC := Lib.hid hc
        clear hown hlen hz hc hg
        go_wp2
        go_loopw [73] (R3 n wr) (fun i _ => n - (intOf i).toNat)
        case atStart => exact ⟨0, 0, by omega, rfl, rfl⟩
        case round =>
          obtain ⟨p, nd, hp, rfl, rfl⟩ := hrel
          by_cases hpn : p < n
          · have hpn' : decide ((p : Int) < (n : Int)) = true := by simp; omega
            obtain ⟨a, ha0, ha1, hca⟩ := HC.out p hpn
            go_wp2
            go_loopw [79] (R3 n wr) (fun i _ => n - (intOf i).toNat)
            case atStart => exact ⟨0, _, by omega, rfl, rfl⟩
            case round =>
              obtain ⟨q, nd2, hq, rfl, rfl⟩ := hrel
              by_cases hqn : q < n
              · obtain ⟨b, hb0, hb1, hcb⟩ := HC.out q hqn
                go_wp2_with (first | (go_at_call 11; ((with_reducible refine (two_c _ _ ?_ ?_ ?_ ?_ _).mono ?_); omega; omega; omega; omega; rintro e w' ⟨rfl, nd, rfl⟩)))
                go_roundw
                case rel => exact ⟨q + 1, _, by omega, by go_num, rfl⟩
                case measure => simp [intOf]; omega
              · go_wp2
                go_roundw
                case rel => exact ⟨p + 1, _, by omega, by go_num, rfl⟩
                case measure => simp [intOf]; omega
          · go_wp2_with (first | (go_at_call 12; ((with_reducible refine (known_c _).mono ?_); rintro e w' ⟨rfl, n, rfl⟩)))
            go_ret
            exact ⟨rfl, below_drewN hb _⟩
end Wd
end Go.Proofs.Ytfbaklkfjcnbbaa
