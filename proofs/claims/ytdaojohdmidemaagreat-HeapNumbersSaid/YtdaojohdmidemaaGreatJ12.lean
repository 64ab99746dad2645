/- Texts joined: FLeaf, CRight, VBase, VLeaf, VCell, VField, VRead, EK0, VShade, VGrey, VSwap. -/
import Derived.Test.YtdaojohdmidemaaGreatRows
import Derived.Test.YtdaojohdmidemaaGreatJ3
import Derived.Test.YtdaojohdmidemaaGreatJ8
import Derived.Test.YtdaojohdmidemaaGreatJ11
import Derived.WalkKit
import Derived.WalkSpells
import Derived.WalkLawsBesides
import Derived.Handy
import Derived.Lib.Hide
import Derived.BigQuiet
import Derived.LoopN
import Derived.StillTailTactics
import Derived.Deep.RegionHeld3
import Derived.BigRegion
/- What each function of the package fit, and of the document's own answer, returns. -/
namespace Go.Proofs.YtdaojohdmidemaaGreat
set_option maxRecDepth 20000
open Go.RowKit
namespace Wd
set_option maxHeartbeats 4000000 in
theorem words_c (n : Int) (h1 : -9223372036854775808 ≤ n) (h2 : n ≤ 9223372036854775807) (w : World) :
    Calls Tryz.prog 41 #[.int .i64 n] w fun e w' => e = .returned (.int .i64 (wd n)) ∧ w' = w := by
  rcases wd_cases n with ⟨h | h, e⟩ | ⟨rfl, e⟩ | ⟨rfl, e⟩ | ⟨rfl, e⟩ | ⟨rfl, e⟩ | ⟨rfl, e⟩
  all_goals
    rw [e]; clear e
    go_enter Tryz.func41, Tryz.ntmps41
    go_wp2
    go_ret
    exact ⟨rfl, rfl⟩
set_option maxHeartbeats 16000000 in
theorem of_c (n : Int) (h1 : -9223372036854775808 ≤ n) (h2 : n ≤ 9223372036854775807) (w : World) :
    Calls Tryz.prog 43 #[.int .i64 n] w fun e w' => e = .returned (.int .i64 (fo n)) ∧ w' = w := by
  have f0 : wd 0 = 4 := rfl
  have f1 : wd 1 = 8 := rfl
  have f2 : wd 2 = 16 := rfl
  have f3 : wd 3 = 32 := rfl
  have f4 : wd 4 = 64 := rfl
  rcases fo_cases n with ⟨h | h, e⟩ | ⟨l0, l1, e⟩ | ⟨l0, l1, e⟩ | ⟨l0, l1, e⟩ | ⟨l0, l1, e⟩ | ⟨l0, l1, e⟩
  · rw [e]; clear e
    go_enter Tryz.func43, Tryz.ntmps43
    go_wp2_with (first | (go_at_call 41; ((with_reducible refine (words_c _ ?_ ?_ _).mono ?_); (first | with_reducible assumption | omega); (first | with_reducible assumption | omega); rintro e w' ⟨rfl, rfl⟩)))
    go_ret
    exact ⟨rfl, rfl⟩
  · rw [e]; clear e
    go_enter Tryz.func43, Tryz.ntmps43
    go_wp2_with (first | (go_at_call 41; ((with_reducible refine (words_c _ ?_ ?_ _).mono ?_); (first | with_reducible assumption | omega); (first | with_reducible assumption | omega); rintro e w' ⟨rfl, rfl⟩)))
    go_ret
    exact ⟨rfl, rfl⟩
  · rw [e]; clear e
    go_enter Tryz.func43, Tryz.ntmps43
    go_wp2_with (first | (go_at_call 41; ((with_reducible refine (words_c _ ?_ ?_ _).mono ?_); (first | with_reducible assumption | omega); (first | with_reducible assumption | omega); rintro e w' ⟨rfl, rfl⟩)))
    refine wp_loop_rounds 1 ?_
    rw [rounds_succ]
    go_wp2_with (first | (go_at_call 41; ((with_reducible refine (words_c _ ?_ ?_ _).mono ?_); (first | with_reducible assumption | omega); (first | with_reducible assumption | omega); rintro e w' ⟨rfl, rfl⟩)))
    go_ret
    exact ⟨rfl, rfl⟩
  · rw [e]; clear e
    go_enter Tryz.func43, Tryz.ntmps43
    go_wp2_with (first | (go_at_call 41; ((with_reducible refine (words_c _ ?_ ?_ _).mono ?_); (first | with_reducible assumption | omega); (first | with_reducible assumption | omega); rintro e w' ⟨rfl, rfl⟩)))
    refine wp_loop_rounds 2 ?_
    rw [rounds_succ]
    go_wp2_with (first | (go_at_call 41; ((with_reducible refine (words_c _ ?_ ?_ _).mono ?_); (first | with_reducible assumption | omega); (first | with_reducible assumption | omega); rintro e w' ⟨rfl, rfl⟩)))
    rw [rounds_succ]
    go_wp2_with (first | (go_at_call 41; ((with_reducible refine (words_c _ ?_ ?_ _).mono ?_); (first | with_reducible assumption | omega); (first | with_reducible assumption | omega); rintro e w' ⟨rfl, rfl⟩)))
    go_ret
    exact ⟨rfl, rfl⟩
  · rw [e]; clear e
    go_enter Tryz.func43, Tryz.ntmps43
    go_wp2_with (first | (go_at_call 41; ((with_reducible refine (words_c _ ?_ ?_ _).mono ?_); (first | with_reducible assumption | omega); (first | with_reducible assumption | omega); rintro e w' ⟨rfl, rfl⟩)))
    refine wp_loop_rounds 3 ?_
    rw [rounds_succ]
    go_wp2_with (first | (go_at_call 41; ((with_reducible refine (words_c _ ?_ ?_ _).mono ?_); (first | with_reducible assumption | omega); (first | with_reducible assumption | omega); rintro e w' ⟨rfl, rfl⟩)))
    rw [rounds_succ]
    go_wp2_with (first | (go_at_call 41; ((with_reducible refine (words_c _ ?_ ?_ _).mono ?_); (first | with_reducible assumption | omega); (first | with_reducible assumption | omega); rintro e w' ⟨rfl, rfl⟩)))
    rw [rounds_succ]
    go_wp2_with (first | (go_at_call 41; ((with_reducible refine (words_c _ ?_ ?_ _).mono ?_); (first | with_reducible assumption | omega); (first | with_reducible assumption | omega); rintro e w' ⟨rfl, rfl⟩)))
    go_ret
    exact ⟨rfl, rfl⟩
  · rw [e]; clear e
    go_enter Tryz.func43, Tryz.ntmps43
    go_wp2_with (first | (go_at_call 41; ((with_reducible refine (words_c _ ?_ ?_ _).mono ?_); (first | with_reducible assumption | omega); (first | with_reducible assumption | omega); rintro e w' ⟨rfl, rfl⟩)))
    refine wp_loop_rounds 4 ?_
    rw [rounds_succ]
    go_wp2_with (first | (go_at_call 41; ((with_reducible refine (words_c _ ?_ ?_ _).mono ?_); (first | with_reducible assumption | omega); (first | with_reducible assumption | omega); rintro e w' ⟨rfl, rfl⟩)))
    rw [rounds_succ]
    go_wp2_with (first | (go_at_call 41; ((with_reducible refine (words_c _ ?_ ?_ _).mono ?_); (first | with_reducible assumption | omega); (first | with_reducible assumption | omega); rintro e w' ⟨rfl, rfl⟩)))
    rw [rounds_succ]
    go_wp2_with (first | (go_at_call 41; ((with_reducible refine (words_c _ ?_ ?_ _).mono ?_); (first | with_reducible assumption | omega); (first | with_reducible assumption | omega); rintro e w' ⟨rfl, rfl⟩)))
    rw [rounds_succ]
    go_wp2_with (first | (go_at_call 41; ((with_reducible refine (words_c _ ?_ ?_ _).mono ?_); (first | with_reducible assumption | omega); (first | with_reducible assumption | omega); rintro e w' ⟨rfl, rfl⟩)))
    go_ret
    exact ⟨rfl, rfl⟩
  · rw [e]; clear e
    go_enter Tryz.func43, Tryz.ntmps43
    go_wp2_with (first | (go_at_call 41; ((with_reducible refine (words_c _ ?_ ?_ _).mono ?_); (first | with_reducible assumption | omega); (first | with_reducible assumption | omega); rintro e w' ⟨rfl, rfl⟩)))
    refine wp_loop_rounds 5 ?_
    rw [rounds_succ]
    go_wp2_with (first | (go_at_call 41; ((with_reducible refine (words_c _ ?_ ?_ _).mono ?_); (first | with_reducible assumption | omega); (first | with_reducible assumption | omega); rintro e w' ⟨rfl, rfl⟩)))
    rw [rounds_succ]
    go_wp2_with (first | (go_at_call 41; ((with_reducible refine (words_c _ ?_ ?_ _).mono ?_); (first | with_reducible assumption | omega); (first | with_reducible assumption | omega); rintro e w' ⟨rfl, rfl⟩)))
    rw [rounds_succ]
    go_wp2_with (first | (go_at_call 41; ((with_reducible refine (words_c _ ?_ ?_ _).mono ?_); (first | with_reducible assumption | omega); (first | with_reducible assumption | omega); rintro e w' ⟨rfl, rfl⟩)))
    rw [rounds_succ]
    go_wp2_with (first | (go_at_call 41; ((with_reducible refine (words_c _ ?_ ?_ _).mono ?_); (first | with_reducible assumption | omega); (first | with_reducible assumption | omega); rintro e w' ⟨rfl, rfl⟩)))
    rw [rounds_succ]
    go_wp2_with (first | (go_at_call 41; ((with_reducible refine (words_c _ ?_ ?_ _).mono ?_); (first | with_reducible assumption | omega); (first | with_reducible assumption | omega); rintro e w' ⟨rfl, rfl⟩)))
    go_ret
    exact ⟨rfl, rfl⟩
end Wd
end Go.Proofs.YtdaojohdmidemaaGreat

/- What each function of the package fit, and of the document's own answer, returns. -/
namespace Go.Proofs.YtdaojohdmidemaaGreat
open Go.RowKit
set_option linter.unusedVariables false
namespace Wd
set_option maxHeartbeats 16000000 in
set_option maxRecDepth 100000 in
theorem right_c (a b c d e p : Int) (ha : -9223372036854775808 ≤ a) (ha' : a ≤ 9223372036854775807) (hb : -9223372036854775808 ≤ b) (hb' : b ≤ 9223372036854775807) (hc : -9223372036854775808 ≤ c) (hc' : c ≤ 9223372036854775807) (hd : -9223372036854775808 ≤ d) (hd' : d ≤ 9223372036854775807) (he : -9223372036854775808 ≤ e) (he' : e ≤ 9223372036854775807) (hp : -9223372036854775808 ≤ p) (hp' : p ≤ 9223372036854775807) (w : World) :
    Calls Tryz.prog 37 #[.agg #[.int .i64 a, .int .i64 b, .int .i64 c, .int .i64 d, .int .i64 e, .int .i64 p]] w fun r w' => r = .returned (.int .i64 (rt a b c d e p)) ∧ w' = w.alloc (.cells #[.int .i64 a, .int .i64 b, .int .i64 c, .int .i64 d, .int .i64 e, .int .i64 p] 28) := by
  have i0 : ∀ w : World, (Instr.index 26 (.agg #[.int .i64 a, .int .i64 b, .int .i64 c, .int .i64 d, .int .i64 e]) (.int .i64 0)).run Tryz.prog w = .ok (.int .i64 a) w := fun _ => by kernel_rfl
  have i1 : ∀ w : World, (Instr.index 26 (.agg #[.int .i64 a, .int .i64 b, .int .i64 c, .int .i64 d, .int .i64 e]) (.int .i64 1)).run Tryz.prog w = .ok (.int .i64 b) w := fun _ => by kernel_rfl
  have i2 : ∀ w : World, (Instr.index 26 (.agg #[.int .i64 a, .int .i64 b, .int .i64 c, .int .i64 d, .int .i64 e]) (.int .i64 2)).run Tryz.prog w = .ok (.int .i64 c) w := fun _ => by kernel_rfl
  have i3 : ∀ w : World, (Instr.index 26 (.agg #[.int .i64 a, .int .i64 b, .int .i64 c, .int .i64 d, .int .i64 e]) (.int .i64 3)).run Tryz.prog w = .ok (.int .i64 d) w := fun _ => by kernel_rfl
  have i4 : ∀ w : World, (Instr.index 26 (.agg #[.int .i64 a, .int .i64 b, .int .i64 c, .int .i64 d, .int .i64 e]) (.int .i64 4)).run Tryz.prog w = .ok (.int .i64 e) w := fun _ => by kernel_rfl
  rcases rt_cases a b c d e p with ⟨h, q⟩ | ⟨⟨a0, a1, b0, b1, c0, c1, d0, d1, e0, e1, s0, s1⟩, ⟨h, q⟩ | ⟨p0, p1, q⟩⟩
  · rw [q]; clear q
    rcases h with (h | h) | (⟨a0, a1, h | h⟩) | (⟨a0, a1, b0, b1, h | h⟩) | (⟨a0, a1, b0, b1, c0, c1, h | h⟩) | (⟨a0, a1, b0, b1, c0, c1, d0, d1, h | h⟩) | (⟨a0, a1, b0, b1, c0, c1, d0, d1, e0, e1, h | h⟩)
    · go_enter Tryz.func37, Tryz.ntmps37
      go_wp2
      refine wp_loop_rounds 1 ?_
      rw [rounds_succ]
      go_wp2
      go_ret
      exact ⟨rfl, rfl⟩
    · go_enter Tryz.func37, Tryz.ntmps37
      go_wp2
      refine wp_loop_rounds 1 ?_
      rw [rounds_succ]
      go_wp2
      go_ret
      exact ⟨rfl, rfl⟩
    · go_enter Tryz.func37, Tryz.ntmps37
      go_wp2
      refine wp_loop_rounds 2 ?_
      rw [rounds_succ]
      go_wp2
      rw [rounds_succ]
      go_wp2
      go_ret
      exact ⟨rfl, rfl⟩
    · go_enter Tryz.func37, Tryz.ntmps37
      go_wp2
      refine wp_loop_rounds 2 ?_
      rw [rounds_succ]
      go_wp2
      rw [rounds_succ]
      go_wp2
      go_ret
      exact ⟨rfl, rfl⟩
    · go_enter Tryz.func37, Tryz.ntmps37
      go_wp2
      refine wp_loop_rounds 3 ?_
      rw [rounds_succ]
      go_wp2
      rw [rounds_succ]
      go_wp2
      rw [rounds_succ]
      go_wp2
      go_ret
      exact ⟨rfl, rfl⟩
    · go_enter Tryz.func37, Tryz.ntmps37
      go_wp2
      refine wp_loop_rounds 3 ?_
      rw [rounds_succ]
      go_wp2
      rw [rounds_succ]
      go_wp2
      rw [rounds_succ]
      go_wp2
      go_ret
      exact ⟨rfl, rfl⟩
    · go_enter Tryz.func37, Tryz.ntmps37
      go_wp2
      refine wp_loop_rounds 4 ?_
      rw [rounds_succ]
      go_wp2
      rw [rounds_succ]
      go_wp2
      rw [rounds_succ]
      go_wp2
      rw [rounds_succ]
      go_wp2
      go_ret
      exact ⟨rfl, rfl⟩
    · go_enter Tryz.func37, Tryz.ntmps37
      go_wp2
      refine wp_loop_rounds 4 ?_
      rw [rounds_succ]
      go_wp2
      rw [rounds_succ]
      go_wp2
      rw [rounds_succ]
      go_wp2
      rw [rounds_succ]
      go_wp2
      go_ret
      exact ⟨rfl, rfl⟩
    · go_enter Tryz.func37, Tryz.ntmps37
      go_wp2
      refine wp_loop_rounds 5 ?_
      rw [rounds_succ]
      go_wp2
      rw [rounds_succ]
      go_wp2
      rw [rounds_succ]
      go_wp2
      rw [rounds_succ]
      go_wp2
      rw [rounds_succ]
      go_wp2
      go_ret
      exact ⟨rfl, rfl⟩
    · go_enter Tryz.func37, Tryz.ntmps37
      go_wp2
      refine wp_loop_rounds 5 ?_
      rw [rounds_succ]
      go_wp2
      rw [rounds_succ]
      go_wp2
      rw [rounds_succ]
      go_wp2
      rw [rounds_succ]
      go_wp2
      rw [rounds_succ]
      go_wp2
      go_ret
      exact ⟨rfl, rfl⟩
    · go_enter Tryz.func37, Tryz.ntmps37
      go_wp2
      refine wp_loop_rounds 6 ?_
      rw [rounds_succ]
      go_wp2
      rw [rounds_succ]
      go_wp2
      rw [rounds_succ]
      go_wp2
      rw [rounds_succ]
      go_wp2
      rw [rounds_succ]
      go_wp2
      rw [rounds_succ]
      go_wp2
      go_ret
      exact ⟨rfl, rfl⟩
    · go_enter Tryz.func37, Tryz.ntmps37
      go_wp2
      refine wp_loop_rounds 6 ?_
      rw [rounds_succ]
      go_wp2
      rw [rounds_succ]
      go_wp2
      rw [rounds_succ]
      go_wp2
      rw [rounds_succ]
      go_wp2
      rw [rounds_succ]
      go_wp2
      rw [rounds_succ]
      go_wp2
      go_ret
      exact ⟨rfl, rfl⟩
  · rw [q]; clear q
    rcases h with h | h
    · go_enter Tryz.func37, Tryz.ntmps37
      go_wp2
      refine wp_loop_rounds 6 ?_
      rw [rounds_succ]
      go_wp2
      rw [rounds_succ]
      go_wp2
      rw [rounds_succ]
      go_wp2
      rw [rounds_succ]
      go_wp2
      rw [rounds_succ]
      go_wp2
      rw [rounds_succ]
      go_wp2
      go_ret
      exact ⟨rfl, rfl⟩
    · go_enter Tryz.func37, Tryz.ntmps37
      go_wp2
      refine wp_loop_rounds 6 ?_
      rw [rounds_succ]
      go_wp2
      rw [rounds_succ]
      go_wp2
      rw [rounds_succ]
      go_wp2
      rw [rounds_succ]
      go_wp2
      rw [rounds_succ]
      go_wp2
      rw [rounds_succ]
      go_wp2
      go_ret
      exact ⟨rfl, rfl⟩
  · rw [q]; clear q
    go_enter Tryz.func37, Tryz.ntmps37
    go_wp2
    refine wp_loop_rounds 6 ?_
    rw [rounds_succ]
    go_wp2
    rw [rounds_succ]
    go_wp2
    rw [rounds_succ]
    go_wp2
    rw [rounds_succ]
    go_wp2
    rw [rounds_succ]
    go_wp2
    rw [rounds_succ]
    go_wp2
    go_ret
    exact ⟨rfl, rfl⟩
end Wd
end Go.Proofs.YtdaojohdmidemaaGreat

/- The landed memory, as it lies; what a call of one of its parts leaves. -/
namespace Go.Proofs.YtdaojohdmidemaaGreat
open Go.RowKit Go.Maps
set_option linter.unusedVariables false
set_option maxRecDepth 20000
namespace Wd
/-- words of a cell -/
def wN (s : Nat) : Nat := 4 * 2 ^ s
theorem wd_wN {s : Nat} (hs : s < 5) : wd (s : Int) = (wN s : Nat) := by
  rcases (show s = 0 ∨ s = 1 ∨ s = 2 ∨ s = 3 ∨ s = 4 by omega) with rfl | rfl | rfl | rfl | rfl <;> rfl
theorem wN_bd {s : Nat} (hs : s < 5) : 4 ≤ wN s ∧ wN s ≤ 64 := by
  rcases (show s = 0 ∨ s = 1 ∨ s = 2 ∨ s = 3 ∨ s = 4 by omega) with rfl | rfl | rfl | rfl | rfl <;> decide
/-- a meter -/
structure Mt (w : World) (m : Nat) : Prop where
  ex : ∃ a b : Int, w.cell? ⟨m, 0, none⟩ = some (.int .i64 a) ∧ w.cell? ⟨m, 1, none⟩ = some (.int .i64 b) ∧ (0 ≤ a ∧ a ≤ 1152921504606846976) ∧ (0 ≤ b ∧ b ≤ 1152921504606846976)
  z : ∀ k, w.frozen? ⟨m, k, none⟩ = false
theorem Mt.same {w w' : World} {m : Nat} (h : Mt w m) (hb : w'.heap[m]? = w.heap[m]?) : Mt w' m := by
  obtain ⟨⟨a, b, h1, h2, h3⟩, z⟩ := h
  exact ⟨⟨a, b, (World.cell?_of_block (a := ⟨m, 0, none⟩) hb).trans h1, (World.cell?_of_block (a := ⟨m, 1, none⟩) hb).trans h2, h3⟩, fun k => (World.frozen?_of_block (a := ⟨m, k, none⟩) hb).trans (z k)⟩
/-- the blocks of a part are others from now on -/
def upB (B : Nat → Nat → Prop) (i : Nat) (F : Nat → Prop) : Nat → Nat → Prop := fun j => if j = i then F else B j
/-- all blocks -/
def un (B : Nat → Nat → Prop) : Nat → Prop := fun k => ∃ i, B i k
def upX (X : Nat → Nat → Int) (s k : Nat) (v : Int) : Nat → Nat → Int := fun t j => if t = s ∧ j = k then v else X t j
theorem upX_same {X : Nat → Nat → Int} {s k : Nat} {v : Int} : upX X s k v s k = v := by unfold upX; rw [if_pos ⟨rfl, rfl⟩]
theorem upX_ne {X : Nat → Nat → Int} {s k t j : Nat} {v : Int} (h : ¬ (t = s ∧ j = k)) : upX X s k v t j = X t j := by unfold upX; rw [if_neg h]
theorem upB_ap {B : Nat → Nat → Prop} {N i0 : Nat} {F' : Nat → Prop} (ap : ∀ i j k, B i k → B j k → i = j) (lt : ∀ i k, B i k → k < N) (hn : Newer (B i0) F' N) : ∀ i j k, upB B i0 F' i k → upB B i0 F' j k → i = j := by
  intro i j k h1 h2
  unfold upB at h1 h2
  split at h1
  · rename_i e
    split at h2
    · rename_i e2; omega
    · rcases hn k h1 with h3 | h3
      · rw [e]; exact ap _ _ k h3 h2
      · have := lt _ _ h2; omega
  · split at h2
    · rename_i e2
      rcases hn k h2 with h3 | h3
      · rw [e2]; exact ap _ _ k h1 h3
      · have := lt _ _ h1; omega
    · exact ap _ _ k h1 h2
theorem upB_lt {B : Nat → Nat → Prop} {N N' i0 : Nat} {F' : Nat → Prop} (lt : ∀ i k, B i k → k < N) (hN : N ≤ N') (hF : ∀ k, F' k → k < N') : ∀ i k, upB B i0 F' i k → k < N' := by
  intro i k h
  unfold upB at h
  split at h
  · exact hF k h
  · exact Nat.lt_of_lt_of_le (lt i k h) hN
theorem upB_newer {B : Nat → Nat → Prop} {N i0 : Nat} {F' : Nat → Prop} (hn : Newer (B i0) F' N) : Newer (un B) (un (upB B i0 F')) N := by
  rintro k ⟨i, h⟩
  unfold upB at h
  split at h
  · rcases hn k h with h3 | h3
    · exact Or.inl ⟨_, h3⟩
    · exact Or.inr h3
  · exact Or.inl ⟨_, h⟩
/-- the landed memory at block p: its parts lie in the blocks B i (0 itself, 1 its meter, 2 its table, 3 and on its mills, 8 and on its rows of words); the words are X -/
structure HP (w : World) (p : Nat) (n : Nat → Nat) (B : Nat → Nat → Prop) (mp gw : Nat → Nat) (tb mt : Nat) (T : Tst) (M : Nat → Mst) (X : Nat → Nat → Int) : Prop where
  cm : ∀ s, s < 5 → w.cell? ⟨p, s, none⟩ = some (.pointer (if n s = 0 then none else some ⟨mp s, 0, none⟩))
  cw : ∀ s, s < 5 → 1 ≤ n s → w.cell? ⟨p, 5 + s, none⟩ = some (.slice (some ⟨gw s, 0, none⟩) (n s * wN s) (n s * wN s))
  ct : w.cell? ⟨p, 10, none⟩ = some (.pointer (some ⟨tb, 0, none⟩))
  cc : w.cell? ⟨p, 11, none⟩ = some (.pointer (some ⟨mt, 0, none⟩))
  bp : B 0 p
  bm : B 1 mt
  bg : ∀ s, s < 5 → 1 ≤ n s → B (8 + s) (gw s)
  mill : ∀ s, s < 5 → 1 ≤ n s → MA w (mp s) (n s) (M s) (B (3 + s))
  tbl : TA w tb T (B 2)
  met : Mt w mt
  row : ∀ s, s < 5 → ∀ k, k < n s * wN s → w.cell? ⟨gw s, k, none⟩ = some (.int .u32 (X s k))
  zg : ∀ s, s < 5 → 1 ≤ n s → ∀ k, w.frozen? ⟨gw s, k, none⟩ = false
  xb : ∀ s k, 0 ≤ X s k ∧ X s k ≤ 4294967295
  ap : ∀ i j k, B i k → B j k → i = j
  lt : ∀ i k, B i k → k < w.heap.size
section
variable {w w' : World} {p : Nat} {n : Nat → Nat} {B : Nat → Nat → Prop} {mp gw : Nat → Nat} {tb mt : Nat} {T : Tst} {M : Nat → Mst} {X : Nat → Nat → Int}
theorem n_pos {a k b : Nat} (h : k < a * b) : 1 ≤ a := by
  rcases Nat.eq_zero_or_pos a with h0 | h0
  · subst h0; simp at h
  · exact h0
theorem HP.same (h : HP w p n B mp gw tb mt T M X) (hs : w.heap.size ≤ w'.heap.size) (hk : ∀ k, un B k → w'.heap[k]? = w.heap[k]?) : HP w' p n B mp gw tb mt T M X := by
  have e0 := hk p ⟨_, h.bp⟩
  refine ⟨fun s h1 => (World.cell?_of_block (a := ⟨p, s, none⟩) e0).trans (h.cm s h1), fun s h1 h2 => (World.cell?_of_block (a := ⟨p, 5 + s, none⟩) e0).trans (h.cw s h1 h2), (World.cell?_of_block (a := ⟨p, 10, none⟩) e0).trans h.ct, (World.cell?_of_block (a := ⟨p, 11, none⟩) e0).trans h.cc, h.bp, h.bm, h.bg,
    fun s h1 h2 => KM.keep (h.mill s h1 h2) (fun k hb => hk k ⟨_, hb⟩), KT.keep h.tbl (fun k hb => hk k ⟨_, hb⟩), h.met.same (hk mt ⟨_, h.bm⟩), fun s h1 k h2 => ?_, fun s h1 h2 k => ?_, h.xb, h.ap, fun i k hb => Nat.lt_of_lt_of_le (h.lt i k hb) hs⟩
  · exact (World.cell?_of_block (a := ⟨gw s, k, none⟩) (hk (gw s) ⟨_, h.bg s h1 (n_pos h2)⟩)).trans (h.row s h1 k h2)
  · exact (World.frozen?_of_block (a := ⟨gw s, k, none⟩) (hk (gw s) ⟨_, h.bg s h1 h2⟩)).trans (h.zg s h1 h2 k)
theorem HP.ltu (h : HP w p n B mp gw tb mt T M X) : ∀ k, un B k → k < w.heap.size := fun k ⟨i, hb⟩ => h.lt i k hb
theorem HP.keep (h : HP w p n B mp gw tb mt T M X) (g : Below w.heap.size w w') : HP w' p n B mp gw tb mt T M X := h.same g.size (fun k hk => g.block k (h.ltu k hk))
/-- the others lie as they lay -/
theorem HP.oth (h : HP w p n B mp gw tb mt T M X) {i : Nat} {G : Nat → Prop} (hc : Ch G w w') (hG : ∀ k, G k → B i k) {j k : Nat} (hb : B j k) (hne : j ≠ i) : w'.heap[k]? = w.heap[k]? :=
  hc.block k (h.lt _ _ hb) (fun hg => hne (h.ap _ _ k hb (hG k hg)))
theorem HP.mstep (h : HP w p n B mp gw tb mt T M X) {s : Nat} (hs : s < 5) (hn : 1 ≤ n s) {A' : Mst} {F' : Nat → Prop} (hm : MA w' (mp s) (n s) A' F') (hc : Ch (B (3 + s)) w w') (hN : Newer (B (3 + s)) F' w.heap.size) :
    HP w' p n (upB B (3 + s) F') mp gw tb mt T (upM M s A') X ∧ Ch (un B) w w' ∧ Newer (un B) (un (upB B (3 + s) F')) w.heap.size := by
  have o := fun {j k : Nat} (hb : B j k) (hne : j ≠ 3 + s) => h.oth hc (i := 3 + s) (fun k hk => hk) hb hne
  have e0 := o h.bp (by omega)
  have ne : ∀ {j : Nat}, j ≠ 3 + s → upB B (3 + s) F' j = B j := fun hne => by unfold upB; rw [if_neg hne]
  refine ⟨⟨fun s h1 => (World.cell?_of_block (a := ⟨p, s, none⟩) e0).trans (h.cm s h1), fun s h1 h2 => (World.cell?_of_block (a := ⟨p, 5 + s, none⟩) e0).trans (h.cw s h1 h2), (World.cell?_of_block (a := ⟨p, 10, none⟩) e0).trans h.ct, (World.cell?_of_block (a := ⟨p, 11, none⟩) e0).trans h.cc, ?_, ?_, fun t h1 h2 => ?_,
    fun t h1 h2 => ?_, ?_, h.met.same (o h.bm (by omega)), fun t h1 k h2 => ?_, fun t h1 h2 k => ?_, h.xb, upB_ap h.ap h.lt hN, upB_lt h.lt hc.size (KM.lt hm)⟩, hc.mono (fun k hk => ⟨_, hk⟩), upB_newer hN⟩
  · rw [ne (by omega)]; exact h.bp
  · rw [ne (by omega)]; exact h.bm
  · rw [ne (by omega)]; exact h.bg t h1 h2
  · unfold upM
    by_cases e : t = s
    · subst e; rw [if_pos rfl]; unfold upB; rw [if_pos rfl]; exact hm
    · rw [if_neg e, ne (by omega)]
      exact KM.keep (h.mill t h1 h2) (fun k hb => o hb (by omega))
  · rw [ne (by omega)]
    exact KT.keep h.tbl (fun k hb => o hb (by omega))
  · exact (World.cell?_of_block (a := ⟨gw t, k, none⟩) (o (h.bg t h1 (n_pos h2)) (by omega))).trans (h.row t h1 k h2)
  · exact (World.frozen?_of_block (a := ⟨gw t, k, none⟩) (o (h.bg t h1 h2) (by omega))).trans (h.zg t h1 h2 k)
theorem HP.tstep (h : HP w p n B mp gw tb mt T M X) {T' : Tst} {F' : Nat → Prop} (hm : TA w' tb T' F') (hc : Ch (B 2) w w') (hN : Newer (B 2) F' w.heap.size) :
    HP w' p n (upB B 2 F') mp gw tb mt T' M X ∧ Ch (un B) w w' ∧ Newer (un B) (un (upB B 2 F')) w.heap.size := by
  have o := fun {j k : Nat} (hb : B j k) (hne : j ≠ 2) => h.oth hc (i := 2) (fun k hk => hk) hb hne
  have e0 := o h.bp (by omega)
  have ne : ∀ {j : Nat}, j ≠ 2 → upB B 2 F' j = B j := fun hne => by unfold upB; rw [if_neg hne]
  refine ⟨⟨fun s h1 => (World.cell?_of_block (a := ⟨p, s, none⟩) e0).trans (h.cm s h1), fun s h1 h2 => (World.cell?_of_block (a := ⟨p, 5 + s, none⟩) e0).trans (h.cw s h1 h2), (World.cell?_of_block (a := ⟨p, 10, none⟩) e0).trans h.ct, (World.cell?_of_block (a := ⟨p, 11, none⟩) e0).trans h.cc, ?_, ?_, fun t h1 h2 => ?_,
    fun t h1 h2 => ?_, ?_, h.met.same (o h.bm (by omega)), fun t h1 k h2 => ?_, fun t h1 h2 k => ?_, h.xb, upB_ap h.ap h.lt hN, upB_lt h.lt hc.size (KT.lt hm)⟩, hc.mono (fun k hk => ⟨_, hk⟩), upB_newer hN⟩
  · rw [ne (by omega)]; exact h.bp
  · rw [ne (by omega)]; exact h.bm
  · rw [ne (by omega)]; exact h.bg t h1 h2
  · rw [ne (by omega)]
    exact KM.keep (h.mill t h1 h2) (fun k hb => o hb (by omega))
  · unfold upB; rw [if_pos rfl]; exact hm
  · exact (World.cell?_of_block (a := ⟨gw t, k, none⟩) (o (h.bg t h1 (n_pos h2)) (by omega))).trans (h.row t h1 k h2)
  · exact (World.frozen?_of_block (a := ⟨gw t, k, none⟩) (o (h.bg t h1 h2) (by omega))).trans (h.zg t h1 h2 k)
/-- the meter counts -/
theorem HP.cstep (h : HP w p n B mp gw tb mt T M X) (hm : Mt w' mt) (hc : Ch (fun k => k = mt) w w') : HP w' p n B mp gw tb mt T M X ∧ Ch (un B) w w' := by
  have o := fun {j k : Nat} (hb : B j k) (hne : j ≠ 1) => h.oth hc (i := 1) (fun k hk => by subst hk; exact h.bm) hb hne
  have e0 := o h.bp (by omega)
  exact ⟨⟨fun s h1 => (World.cell?_of_block (a := ⟨p, s, none⟩) e0).trans (h.cm s h1), fun s h1 h2 => (World.cell?_of_block (a := ⟨p, 5 + s, none⟩) e0).trans (h.cw s h1 h2), (World.cell?_of_block (a := ⟨p, 10, none⟩) e0).trans h.ct, (World.cell?_of_block (a := ⟨p, 11, none⟩) e0).trans h.cc, h.bp, h.bm, h.bg,
    fun t h1 h2 => KM.keep (h.mill t h1 h2) (fun k hb => o hb (by omega)), KT.keep h.tbl (fun k hb => o hb (by omega)), hm,
    fun t h1 k h2 => (World.cell?_of_block (a := ⟨gw t, k, none⟩) (o (h.bg t h1 (n_pos h2)) (by omega))).trans (h.row t h1 k h2),
    fun t h1 h2 k => (World.frozen?_of_block (a := ⟨gw t, k, none⟩) (o (h.bg t h1 h2) (by omega))).trans (h.zg t h1 h2 k), h.xb, h.ap, fun i k hb => Nat.lt_of_lt_of_le (h.lt i k hb) hc.size⟩, hc.mono (fun k hk => ⟨1, by subst hk; exact h.bm⟩)⟩
/-- a word is written -/
theorem HP.wstep (h : HP w p n B mp gw tb mt T M X) {s k : Nat} (hs : s < 5) (hk : k < n s * wN s) {v : Int} (v0 : 0 ≤ v) (v1 : v ≤ 4294967295) :
    HP (w.setCell ⟨gw s, k, none⟩ (.int .u32 v)) p n B mp gw tb mt T M (upX X s k v) ∧ Ch (un B) w (w.setCell ⟨gw s, k, none⟩ (.int .u32 v)) := by
  have hB := h.bg s hs (n_pos hk)
  have hc : Ch (fun k => k = gw s) w (w.setCell ⟨gw s, k, none⟩ (.int .u32 v)) := (Ch.refl (fun b => b = gw s) w).set ⟨gw s, k, none⟩ rfl _
  have o := fun {j k : Nat} (hb : B j k) (hne : j ≠ 8 + s) => h.oth hc (i := 8 + s) (fun k hk => by subst hk; exact hB) hb hne
  have e0 := o h.bp (by omega)
  refine ⟨⟨fun s h1 => (World.cell?_of_block (a := ⟨p, s, none⟩) e0).trans (h.cm s h1), fun s h1 h2 => (World.cell?_of_block (a := ⟨p, 5 + s, none⟩) e0).trans (h.cw s h1 h2), (World.cell?_of_block (a := ⟨p, 10, none⟩) e0).trans h.ct, (World.cell?_of_block (a := ⟨p, 11, none⟩) e0).trans h.cc, h.bp, h.bm, h.bg,
    fun t h1 h2 => KM.keep (h.mill t h1 h2) (fun k hb => o hb (by omega)), KT.keep h.tbl (fun k hb => o hb (by omega)), h.met.same (o h.bm (by omega)), fun t h1 j h2 => ?_, fun t h1 h2 j => ?_, fun t j => ?_, h.ap, fun i k hb => Nat.lt_of_lt_of_le (h.lt i k hb) hc.size⟩, hc.mono (fun k hk => ⟨_, by subst hk; exact hB⟩)⟩
  · by_cases e : t = s
    · subst e
      by_cases e2 : j = k
      · subst e2
        rw [upX_same]
        exact World.cell?_setCell_same _ _ _ (h.row t h1 j h2)
      · rw [upX_ne (fun c => e2 c.2), World.cell?_setCell_other _ _ _ _ (by intro e; injection e with _ h3; exact e2 h3.symm)]
        exact h.row t h1 j h2
    · rw [upX_ne (fun c => e c.1)]
      exact (World.cell?_of_block (a := ⟨gw t, j, none⟩) (o (h.bg t h1 (n_pos h2)) (by omega))).trans (h.row t h1 j h2)
  · rw [World.frozen?_setCell]; exact h.zg t h1 h2 j
  · unfold upX
    split
    · exact ⟨v0, v1⟩
    · exact h.xb t j
end
/-- what the words of the cells tell -/
def WR (n : Nat → Nat) (T : Tst) (C : Pl → Int × List Int) (X : Nat → Nat → Int) : Prop :=
  ∀ k (s c : Nat), T k = some ((s : Int), (c : Int)) → s < 5 → c < n s → hc (X s (c * wN s)) = (C ((s : Int), (c : Int))).1 ∧ hs (X s (c * wN s)) = (C ((s : Int), (c : Int))).2.length ∧ ∀ j v, (C ((s : Int), (c : Int))).2[j]? = some v → X s (c * wN s + 2 + j) = v
/-- the memory at block p, its parts in B, and what holds at any time -/
structure HQ (w : World) (p : Nat) (n : Nat → Nat) (H : Hst) (B : Nat → Nat → Prop) (mp gw : Nat → Nat) (tb mt : Nat) (X : Nat → Nat → Int) : Prop where
  hp : HP w p n B mp gw tb mt H.T H.M X
  wr : WR n H.T H.C X
  inv : HInv n H
/-- the landed memory -/
def HA (w : World) (p : Nat) (n : Nat → Nat) (H : Hst) (F : Nat → Prop) : Prop := ∃ B mp gw tb mt X, F = un B ∧ HQ w p n H B mp gw tb mt X
section
variable {w w' : World} {p : Nat} {n : Nat → Nat} {H : Hst} {F : Nat → Prop} {B : Nat → Nat → Prop} {mp gw : Nat → Nat} {tb mt : Nat} {X : Nat → Nat → Int}
theorem HQ.keep (h : HQ w p n H B mp gw tb mt X) (g : Below w.heap.size w w') : HQ w' p n H B mp gw tb mt X := ⟨h.hp.keep g, h.wr, h.inv⟩
theorem HA.lt (h : HA w p n H F) : ∀ k, F k → k < w.heap.size := by
  obtain ⟨B, mp, gw, tb, mt, X, rfl, h⟩ := h
  exact h.hp.ltu
theorem HA.same (h : HA w p n H F) (hs : w.heap.size ≤ w'.heap.size) (hk : ∀ k, F k → w'.heap[k]? = w.heap[k]?) : HA w' p n H F := by
  obtain ⟨B, mp, gw, tb, mt, X, rfl, h⟩ := h
  exact ⟨B, mp, gw, tb, mt, X, rfl, h.hp.same hs hk, h.wr, h.inv⟩
theorem HA.keep (h : HA w p n H F) (g : Below w.heap.size w w') : HA w' p n H F := h.same g.size (fun k hk => g.block k (h.lt k hk))
theorem HA.inv (h : HA w p n H F) : HInv n H := by
  obtain ⟨B, mp, gw, tb, mt, X, rfl, h⟩ := h
  exact h.inv
end
end Wd
end Go.Proofs.YtdaojohdmidemaaGreat

/- The landed memory: what its small ones answer: the meter, a word's identity. -/
namespace Go.Proofs.YtdaojohdmidemaaGreat
open Go.RowKit Go.Maps
set_option linter.unusedVariables false
set_option maxRecDepth 20000
namespace Wd
/-- n, or the end of 0 to m that it lies beyond -/
def hld (n m : Int) : Int := if n < 0 then 0 else if m < n then m else n
theorem hld_c (n m : Int) (w : World) :
    Calls Tryz.prog 92 #[.int .i64 n, .int .i64 m] w fun e w' => e = .returned (.int .i64 (hld n m)) ∧ w' = w := by
  by_cases h1 : n < 0
  · have e : hld n m = 0 := by unfold hld; rw [if_pos h1]
    rw [e]
    have d1 : decide (n < 0) = true := by simpa using h1
    go_enter Tryz.func92, Tryz.ntmps92
    go_wp2
    go_ret
    exact ⟨rfl, rfl⟩
  · have d1 : decide (n < 0) = false := by simpa using h1
    by_cases h2 : m < n
    · have e : hld n m = m := by unfold hld; rw [if_neg h1, if_pos h2]
      rw [e]
      have d2 : decide (m < n) = true := by simpa using h2
      have d3 : decide (n > m) = true := by simpa using h2
      go_enter Tryz.func92, Tryz.ntmps92
      go_wp2
      go_ret
      exact ⟨rfl, rfl⟩
    · have e : hld n m = n := by unfold hld; rw [if_neg h1, if_neg h2]
      rw [e]
      have d2 : decide (m < n) = false := by simpa using h2
      have d3 : decide (n > m) = false := by simpa using h2
      go_enter Tryz.func92, Tryz.ntmps92
      go_wp2
      go_ret
      exact ⟨rfl, rfl⟩
theorem Mt.set2 {w : World} {m : Nat} {a b x y : Int} (c0 : w.cell? ⟨m, 0, none⟩ = some (.int .i64 a)) (c1 : w.cell? ⟨m, 1, none⟩ = some (.int .i64 b)) (z : ∀ k, w.frozen? ⟨m, k, none⟩ = false)
    (hx : 0 ≤ x ∧ x ≤ 1152921504606846976) (hy : 0 ≤ y ∧ y ≤ 1152921504606846976) : Mt ((w.setCell ⟨m, 0, none⟩ (.int .i64 x)).setCell ⟨m, 1, none⟩ (.int .i64 y)) m :=
  ⟨⟨x, y, (World.cell?_setCell_other _ _ _ _ (by intro e; injection e with _ h2; cases h2)).trans (World.cell?_setCell_same _ _ _ c0), World.cell?_setCell_same _ _ _ ((World.cell?_setCell_other _ _ _ _ (by intro e; injection e with _ h2; cases h2)).trans c1), hx, hy⟩, fun k => by rw [World.frozen?_setCell, World.frozen?_setCell]; exact z k⟩
set_option maxHeartbeats 4000000 in
theorem add_c {w : World} {m : Nat} (h : Mt w m) (x : Int) (x0 : 0 ≤ x) (x1 : x ≤ 1048576) :
    Calls Tryz.prog 52 #[.pointer (some ⟨m, 0, none⟩), .int .i64 x] w fun e w' => e = .returned (.tuple #[]) ∧ Mt w' m ∧ Ch (fun k => k = m) w w' := by
  obtain ⟨⟨t, s, c0, c1, ⟨t0, t1⟩, ⟨s0, s1⟩⟩, z⟩ := h
  have e : hld x 1048576 = x := by unfold hld; split <;> (try split) <;> omega
  have P := Lib.hid (hld_c x 1048576)
  rw [e] at P
  obtain ⟨y, hy⟩ : ∃ y, y = hld (t + x) 1152921504606846976 := ⟨_, rfl⟩
  obtain ⟨u, hu⟩ : ∃ u, u = hld (s + x) 1152921504606846976 := ⟨_, rfl⟩
  have yb : 0 ≤ y ∧ y ≤ 1152921504606846976 := by rw [hy]; unfold hld; split <;> (try split) <;> omega
  have ub : 0 ≤ u ∧ u ≤ 1152921504606846976 := by rw [hu]; unfold hld; split <;> (try split) <;> omega
  have P2 := Lib.hid (hld_c (t + x) 1152921504606846976)
  have P3 := Lib.hid (hld_c (s + x) 1152921504606846976)
  rw [← hy] at P2
  rw [← hu] at P3
  have hw2 : IntKind.i64.wrap (t + x) = t + x := by rw [IntKind.wrap_i64]; omega
  have hw3 : IntKind.i64.wrap (s + x) = s + x := by rw [IntKind.wrap_i64]; omega
  have z0 := z 0
  have z1 := z 1
  have fin := Lib.hid (Mt.set2 c0 c1 z yb ub)
  have cc : (w.setCell ⟨m, 0, none⟩ (.int .i64 y)).cell? ⟨m, 1, none⟩ = some (.int .i64 s) := (World.cell?_setCell_other _ _ _ _ (by intro e; injection e with _ h2; cases h2)).trans c1
  have zz : (w.setCell ⟨m, 0, none⟩ (.int .i64 y)).frozen? ⟨m, 1, none⟩ = false := by rw [World.frozen?_setCell]; exact z1
  clear e z hy hu yb ub
  go_enter Tryz.func52, Tryz.ntmps52
  go_wp2_with (first | (go_at_call 92; ((with_reducible refine (P.out _).mono ?_); rintro e w' ⟨rfl, hw'⟩; subst w')) | (go_at_call 92; ((with_reducible refine (P2.out _).mono ?_); rintro e w' ⟨rfl, hw'⟩; subst w')) | (go_at_call 92; ((with_reducible refine (P3.out _).mono ?_); rintro e w' ⟨rfl, hw'⟩; subst w')))
  go_end0
  exact ⟨rfl, fin.out, ((Ch.refl (fun b => b = m) w).set ⟨m, 0, none⟩ rfl _).set ⟨m, 1, none⟩ rfl _⟩
theorem isnum_c (a : Int) (h0 : 0 ≤ a) (h1 : a ≤ 4294967295) (w : World) :
    Calls Tryz.prog 103 #[.int .u32 a] w fun e w' => e = .returned (.bool (decide (a % 2 = 1))) ∧ w' = w := by
  have k : bits .and .u32 a 1 = a % 2 := and_mod a 1 1 rfl h0 h1 (by omega)
  have e : (bits .and .u32 a 1 == 1) = decide (a % 2 = 1) := by rw [k]; rfl
  rw [← e]
  clear e k
  go_enter Tryz.func103, Tryz.ntmps103
  go_wp2
  go_ret
  exact ⟨rfl, rfl⟩
theorem id9_c (a : Int) (h0 : 0 ≤ a) (h1 : a ≤ 4294967295) (w : World) :
    Calls Tryz.prog 93 #[.int .u32 a] w fun e w' => e = .returned (.tuple #[.int .i64 (idW a), .bool (isOp a)]) ∧ w' = w := by
  have P := Lib.hid (isnum_c a h0 h1)
  by_cases ha : a % 2 = 1
  · have e1 : isOp a = false := by unfold isOp; simp; omega
    have e2 : idW a = 0 := by unfold idW; rw [e1]; rfl
    have d : decide (a % 2 = 1) = true := by simpa using ha
    rw [d] at P
    rw [e1, e2]
    clear e1 e2 ha d
    go_enter Tryz.func93, Tryz.ntmps93
    go_wp2_with (first | (go_at_call 103; ((with_reducible refine (P.out _).mono ?_); rintro e w' ⟨rfl, hw'⟩; subst w')))
    go_returns
    exact ⟨rfl, rfl⟩
  · have d : decide (a % 2 = 1) = false := by simpa using ha
    rw [d] at P
    by_cases hz : a = 0
    · subst hz
      clear d ha
      go_enter Tryz.func93, Tryz.ntmps93
      go_wp2_with (first | (go_at_call 103; ((with_reducible refine (P.out _).mono ?_); rintro e w' ⟨rfl, hw'⟩; subst w')))
      go_returns
      exact ⟨rfl, rfl⟩
    · have e1 : isOp a = true := by unfold isOp; simp; omega
      have e2 : idW a = a / 2 := by unfold idW; rw [e1]; rfl
      have dz : (a == 0) = false := by simpa using hz
      rw [e1, e2]
      clear e1 e2 d ha hz
      go_enter Tryz.func93, Tryz.ntmps93
      go_wp2_with (first | (go_at_call 103; ((with_reducible refine (P.out _).mono ?_); rintro e w' ⟨rfl, hw'⟩; subst w')))
      go_returns
      exact ⟨by first | rfl | (rw [IntWalk.wrap64_in _ (by omega)]), rfl⟩
theorem builtMt : Tryz.prog.built 114 [] = some #[.int .i64 0, .int .i64 0, .int .i64 0] := by kernel_rfl
set_option maxHeartbeats 4000000 in
theorem cnew_c (w : World) : Calls Tryz.prog 39 #[] w fun e w' => ∃ m, e = .returned (.pointer (some ⟨m, 0, none⟩)) ∧ Mt w' m ∧ m = w.heap.size ∧ Below w.heap.size w w' := by
  go_enter Tryz.func39, Tryz.ntmps39
  go_wp2
  go_ret
  refine ⟨_, rfl, ⟨⟨0, 0, by simp, by simp, by omega, by omega⟩, fun k => by simp⟩, rfl, ?_⟩
  exact (Below.refl _ _).alloc (Nat.le_refl _) _
end Wd
end Go.Proofs.YtdaojohdmidemaaGreat

/- The landed memory: a cell's words, an object's, a field. -/
namespace Go.Proofs.YtdaojohdmidemaaGreat
open Go.RowKit Go.Maps
set_option linter.unusedVariables false
set_option maxRecDepth 20000
namespace Wd
section
variable {w w' : World} {p : Nat} {n : Nat → Nat} {B : Nat → Nat → Prop} {mp gw : Nat → Nat} {tb mt : Nat} {T : Tst} {M : Nat → Mst} {X : Nat → Nat → Int} {H : Hst}
/-- a cell lies within its row -/
theorem cell_in {s c : Nat} (hs : s < 5) (hc : c < n s) (few : n s ≤ 512) : c * wN s + wN s ≤ n s * wN s ∧ n s * wN s ≤ 32768 := by
  have h1 := Nat.mul_le_mul_right (wN s) (show c + 1 ≤ n s by omega)
  rw [Nat.add_mul, Nat.one_mul] at h1
  have h2 := Nat.mul_le_mul few (wN_bd hs).2
  omega
/-- the value of a cell's words -/
def cellV (n gw : Nat → Nat) (s c : Nat) : Value := .slice (some ⟨gw s, c * wN s, none⟩) (wN s) (n s * wN s - c * wN s)
set_option maxHeartbeats 4000000 in
theorem cell_c (h : HP w p n B mp gw tb mt T M X) {s c : Nat} (hs : s < 5) (hc : c < n s) (few : n s ≤ 512) :
    Calls Tryz.prog 88 #[.pointer (some ⟨p, 0, none⟩), plV ((s : Int), (c : Int))] w fun e w' => e = .returned (cellV n gw s c) ∧ Below w.heap.size w w' := by
  have cw := h.cw s hs (by omega)
  have PW := Lib.hid (words_c (s : Int) (by omega) (by omega))
  rw [wd_wN hs] at PW
  have hps : p < w.heap.size := h.lt _ _ h.bp
  obtain ⟨l1, l2⟩ := cell_in hs hc few
  have hWb := wN_bd hs
  have ns : n s ≤ 512 := few
  obtain ⟨a, ha⟩ : ∃ a, a = c * wN s := ⟨_, rfl⟩
  have m1 : IntKind.i64.wrap ((c : Int) * (wN s : Int)) = (a : Int) := by
    rw [show ((c : Int) * (wN s : Int)) = (a : Int) by rw [ha, Int.natCast_mul], IntKind.wrap_i64]; omega
  have m2 : IntKind.i64.wrap ((c : Int) + 1) = (c : Int) + 1 := by rw [IntKind.wrap_i64]; omega
  have m3 : IntKind.i64.wrap (((c : Int) + 1) * (wN s : Int)) = ((a + wN s : Nat) : Int) := by
    rw [show (((c : Int) + 1) * (wN s : Int)) = ((a + wN s : Nat) : Int) by rw [Int.natCast_add, ha, Int.natCast_mul, Int.add_mul, Int.one_mul], IntKind.wrap_i64]; omega
  unfold cellV plV
  simp only
  rw [← ha] at l1 ⊢
  clear h ha
  have hs' : (s : Int) < 5 := by omega
  generalize n s * wN s = N at *
  generalize wN s = W at *
  generalize gw s = g at *
  have hB : Below w.heap.size w (w.alloc (.cells #[.int .i64 s, .int .i64 c] 83)) := (Below.refl _ _).alloc (Nat.le_refl _) _
  obtain ⟨w2, hw2⟩ : ∃ w2, w2 = w.alloc (.cells #[.int .i64 s, .int .i64 c] 83) := ⟨_, rfl⟩
  rw [← hw2] at hB
  have q0 : w2.cell? ⟨w.heap.size, 0, none⟩ = some (.int .i64 s) := by rw [hw2]; simp
  have q1 : w2.cell? ⟨w.heap.size, 1, none⟩ = some (.int .i64 c) := by rw [hw2]; simp
  have cw2 : w2.cell? ⟨p, 5 + s, none⟩ = some (.slice (some ⟨g, 0, none⟩) N N) := (hB.cell hps).trans cw
  have e1 : ((a + W : Nat) : Int) ≤ (N : Int) := by omega
  have e2 : (a : Int) ≤ ((a + W : Nat) : Int) := by omega
  clear cw
  go_enter Tryz.func88, Tryz.ntmps88
  go_wp2_with fail
  rw [← hw2]
  clear hw2
  go_wp2_with (first | (go_at_call 41; ((with_reducible refine (PW.out _).mono ?_); rintro e w' ⟨rfl, hw'⟩; subst w')))
  go_big_quiet (fail)
  go_wp2
  go_ret
  refine ⟨?_, hB.trans ((drewN_bel w2 nq).mono hB.size)⟩
  show Ending.returned (Value.slice (some ⟨g, a, none⟩) (a + W - a) (N - a)) = _
  rw [Nat.add_sub_cancel_left]
/-- where an identity lies -/
theorem HInv.lies (h : HInv n H) {i : Int} (hh : hasT H.T i = true) : ∃ (k s c : Nat), i = k ∧ 4 ≤ k ∧ k < 1024 ∧ H.T k = some ((s : Int), (c : Int)) ∧ atP H.T i = ((s : Int), (c : Int)) ∧ s < 5 ∧ c < n s ∧ n s ≤ 512 := by
  obtain ⟨k, p, rfl, h4, hk, hp, e⟩ := h.has hh
  obtain ⟨s, h1, h2, h3, h5, _⟩ := h.pl k p hp
  have hf := h.few s h1
  obtain ⟨pa, pc⟩ := p
  simp only at h2 h3 h5
  subst h2
  obtain ⟨c, rfl⟩ : ∃ c : Nat, pc = c := ⟨pc.toNat, by omega⟩
  exact ⟨k, s, c, rfl, h4, hk, hp, e, h1, by omega, hf⟩
set_option maxHeartbeats 4000000 in
theorem object_no (h : HQ w p n H B mp gw tb mt X) (i : Int) (i0 : -9223372036854775808 ≤ i) (i1 : i ≤ 9223372036854775807) (hh : hasT H.T i = false) :
    Calls Tryz.prog 79 #[.pointer (some ⟨p, 0, none⟩), .int .i64 i] w fun e w' => e = .returned (.slice none 0 0) ∧ Below w.heap.size w w' := by
  have ct := h.hp.ct
  have P := Lib.hid (KT.at' i h.hp.tbl i0 i1)
  rw [hh, atP_no hh] at P
  unfold plV at P
  simp only at P
  clear h hh
  go_enter Tryz.func79, Tryz.ntmps79
  go_wp2_with (first | (go_at_call 83; ((with_reducible refine (P.out).mono ?_); rintro e w1 ⟨rfl, hb⟩; replace hb := Lib.hid hb)))
  go_ret
  exact ⟨rfl, hb.out.trans (((Below.refl _ _).alloc (Nat.le_refl _) _).mono hb.out.size)⟩
set_option maxHeartbeats 4000000 in
theorem object_yes (h : HQ w p n H B mp gw tb mt X) {i : Int} {s c : Nat} (i0 : -9223372036854775808 ≤ i) (i1 : i ≤ 9223372036854775807) (hh : hasT H.T i = true) (ha : atP H.T i = ((s : Int), (c : Int))) (hs : s < 5) (hc : c < n s) :
    Calls Tryz.prog 79 #[.pointer (some ⟨p, 0, none⟩), .int .i64 i] w fun e w' => e = .returned (cellV n gw s c) ∧ Below w.heap.size w w' := by
  have ct := h.hp.ct
  have P := Lib.hid (KT.at' i h.hp.tbl i0 i1)
  rw [hh, ha] at P
  have PC := Lib.hid (fun (w1 : World) (hb : Below w.heap.size w w1) => cell_c (h.hp.keep hb) hs hc (h.inv.few s hs))
  unfold plV at P PC
  simp only at P PC
  clear h hh
  unfold cellV at *
  go_enter Tryz.func79, Tryz.ntmps79
  go_wp2_with (first | (go_at_call 83; ((with_reducible refine (P.out).mono ?_); rintro e w1 ⟨rfl, hb⟩; replace hb := Lib.hid hb)) | (go_at_call 88; ((with_reducible refine (PC.out _ (hb.out.trans (((Below.refl _ _).alloc (Nat.le_refl _) _).mono hb.out.size))).mono ?_); rintro e w2 ⟨rfl, hb2⟩; replace hb2 := Lib.hid hb2)))
  go_ret
  have hb3 := hb.out.trans (((Below.refl _ _).alloc (Nat.le_refl _) (.cells #[.int .i64 s, .int .i64 c] 83)).mono hb.out.size)
  exact ⟨rfl, hb3.trans (hb2.out.mono hb3.size)⟩
end
end Wd
end Go.Proofs.YtdaojohdmidemaaGreat

/- The landed memory: where a field stands. -/
namespace Go.Proofs.YtdaojohdmidemaaGreat
open Go.RowKit Go.Maps
set_option linter.unusedVariables false
set_option maxRecDepth 20000
namespace Wd
theorem len_fits {s : Nat} (hs : s < 5) {l : Nat} (h : fo (l : Int) = (s : Int)) : l + 2 ≤ wN s ∧ l ≤ 62 := by
  have e : wN 0 = 4 ∧ wN 1 = 8 ∧ wN 2 = 16 ∧ wN 3 = 32 ∧ wN 4 = 64 := by decide
  rcases fo_cases (l : Int) with ⟨h1, h2⟩ | ⟨h0, h1, h2⟩ | ⟨h0, h1, h2⟩ | ⟨h0, h1, h2⟩ | ⟨h0, h1, h2⟩ | ⟨h0, h1, h2⟩ <;> rw [h2] at h <;> (first | (exfalso; omega) | skip)
  · obtain rfl : s = 0 := by omega
    omega
  · obtain rfl : s = 1 := by omega
    omega
  · obtain rfl : s = 2 := by omega
    omega
  · obtain rfl : s = 3 := by omega
    omega
  · obtain rfl : s = 4 := by omega
    omega
theorem nil_is (w : World) : Sem.run Tryz.prog (binOp .eql 36 (.slice none 0 0) (.slice none 0 0)) w = .ok (.bool true) w := by kernel_rfl
theorem nil_not (g a m c : Nat) (w : World) : Sem.run Tryz.prog (binOp .eql 36 (.slice (some ⟨g, a, none⟩) m c) (.slice none 0 0)) w = .ok (.bool false) w := by kernel_rfl
/-- an object that is there: its cell, its class, its fields -/
structure Ob (n : Nat → Nat) (H : Hst) (X : Nat → Nat → Int) (i : Int) (s c : Nat) (cl : Int) (L : List Int) : Prop where
  hh : hasT H.T i = true
  ha : atP H.T i = ((s : Int), (c : Int))
  s5 : s < 5
  cn : c < n s
  few : n s ≤ 512
  hC : H.C ((s : Int), (c : Int)) = (cl, L)
  e1 : hc (X s (c * wN s)) = cl
  e2 : hs (X s (c * wN s)) = L.length
  fit : L.length + 2 ≤ wN s
  l62 : L.length ≤ 62
  fs : ∀ j v, L[j]? = some v → X s (c * wN s + 2 + j) = v
  cb : 0 ≤ cl ∧ cl ≤ 4095
  lb : ∀ x ∈ L, 0 < x ∧ x ≤ 4294967295
section
variable {w w' : World} {p : Nat} {n : Nat → Nat} {B : Nat → Nat → Prop} {mp gw : Nat → Nat} {tb mt : Nat} {T : Tst} {M : Nat → Mst} {X : Nat → Nat → Int} {H : Hst} {i : Int} {s c : Nat} {cl : Int} {L : List Int}
theorem HQ.ob (h : HQ w p n H B mp gw tb mt X) {i : Int} (hh : hasT H.T i = true) : ∃ s c cl L, Ob n H X i s c cl L := by
  obtain ⟨k, s, c, rfl, h4, hk, hT, ha, s5, cn, few⟩ := h.inv.lies hh
  obtain ⟨w1, w2, w3⟩ := h.wr k s c hT s5 cn
  obtain ⟨c1, c2, c3⟩ := h.inv.cel k _ hT
  obtain ⟨f1, f2⟩ := len_fits s5 c1
  exact ⟨s, c, _, _, hh, ha, s5, cn, few, rfl, w1, w2, f1, f2, w3, c2, c3⟩
theorem Ob.cls (o : Ob n H X i s c cl L) : clsI H i = cl := by unfold clsI; rw [if_pos o.hh, o.ha, o.hC]
theorem Ob.fld (o : Ob n H X i s c cl L) : fldI H i = L.length := by unfold fldI; rw [if_pos o.hh, o.ha, o.hC]
theorem Ob.fsi (o : Ob n H X i s c cl L) : fsI H i = L := by unfold fsI; rw [if_pos o.hh, o.ha, o.hC]
theorem Ob.col (o : Ob n H X i s c cl L) : colI H i = colorR (H.M s) c := by unfold colI colP szP; rw [if_pos o.hh, o.ha]; simp
theorem HP.word (h : HP w p n B mp gw tb mt T M X) {s c k : Nat} (hs : s < 5) (hc : c < n s) (few : n s ≤ 512) (hk : k < wN s) : w.cell? ⟨gw s, c * wN s + k, none⟩ = some (.int .u32 (X s (c * wN s + k))) :=
  h.row s hs _ (by have := (cell_in hs hc few).1; omega)
set_option maxHeartbeats 4000000 in
theorem field_none (h : HQ w p n H B mp gw tb mt X) (i j : Int) (i0 : -9223372036854775808 ≤ i) (i1 : i ≤ 9223372036854775807) (j0 : -9223372036854775808 ≤ j) (j1 : j ≤ 9223372036854775807) (hh : hasT H.T i = false) :
    Calls Tryz.prog 51 #[.pointer (some ⟨p, 0, none⟩), .int .i64 i, .int .i64 j] w fun e w' => e = .returned (.pointer none) ∧ Below w.heap.size w w' := by
  have P := Lib.hid (object_no h i i0 i1 hh)
  clear h hh
  have hnil := nil_is
  go_enter Tryz.func51, Tryz.ntmps51
  go_wp2_with (first | (go_at_call 79; ((with_reducible refine (P.out).mono ?_); rintro e w1 ⟨rfl, hb⟩; replace hb := Lib.hid hb)))
  go_ret
  exact ⟨rfl, hb.out⟩
set_option maxHeartbeats 4000000 in
theorem field_out (h : HQ w p n H B mp gw tb mt X) (i j : Int) (i0 : -9223372036854775808 ≤ i) (i1 : i ≤ 9223372036854775807) (j0 : -9223372036854775808 ≤ j) (j1 : j ≤ 9223372036854775807) (o : Ob n H X i s c cl L) (hj : j < 0 ∨ (L.length : Int) ≤ j) :
    Calls Tryz.prog 51 #[.pointer (some ⟨p, 0, none⟩), .int .i64 i, .int .i64 j] w fun e w' => e = .returned (.pointer none) ∧ Below w.heap.size w w' := by
  have P := Lib.hid (object_yes h i0 i1 o.hh o.ha o.s5 o.cn)
  have c0 := h.hp.word o.s5 o.cn o.few (k := 0) (by have := o.fit; omega)
  have hx := h.hp.xb s (c * wN s)
  have hgs : gw s < w.heap.size := h.hp.lt _ _ (h.hp.bg s o.s5 (by have := o.cn; omega))
  rw [Nat.add_zero] at c0
  have PS := Lib.hid (Size_c (X s (c * wN s)) hx.1 hx.2)
  rw [o.e2] at PS
  have hW : 0 < wN s := by have := o.fit; omega
  have hl := o.l62
  clear h o
  unfold cellV at P
  generalize X s (c * wN s) = x at *
  generalize n s * wN s - c * wN s = cap at *
  generalize c * wN s = a at *
  generalize wN s = W at *
  generalize gw s = g at *
  generalize L.length = l at *
  have hnil := nil_not g a W cap
  rcases hj with hj | hj
  · have d1 : decide (j < 0) = true := by simpa using hj
    go_enter Tryz.func51, Tryz.ntmps51
    go_wp2_with (first | (go_at_call 79; ((with_reducible refine (P.out).mono ?_); rintro e w1 ⟨rfl, hb⟩; replace hb := Lib.hid hb)))
    go_ret
    exact ⟨rfl, hb.out⟩
  · have d1 : decide (j < 0) = false := by simp; omega
    have d2 : decide ((l : Int) ≤ j) = true := by simpa using hj
    have d3 : decide (j ≥ (l : Int)) = true := by simpa using hj
    go_enter Tryz.func51, Tryz.ntmps51
    go_wp2_with (first | (go_at_call 79; ((with_reducible refine (P.out).mono ?_); rintro e w1 ⟨rfl, hb⟩; have c1 := (hb.cell hgs).trans c0; replace hb := Lib.hid hb)) | (go_at_call 81; ((with_reducible refine (PS.out _).mono ?_); rintro e w2 ⟨rfl, hw2⟩; subst w2)))
    go_ret
    exact ⟨rfl, hb.out.drew⟩
set_option maxHeartbeats 4000000 in
theorem field_in (h : HQ w p n H B mp gw tb mt X) (i : Int) (j : Nat) (i0 : -9223372036854775808 ≤ i) (i1 : i ≤ 9223372036854775807) (o : Ob n H X i s c cl L) (hj : j < L.length) :
    Calls Tryz.prog 51 #[.pointer (some ⟨p, 0, none⟩), .int .i64 i, .int .i64 j] w fun e w' => e = .returned (.pointer (some ⟨gw s, c * wN s + (2 + j), none⟩)) ∧ Below w.heap.size w w' := by
  have P := Lib.hid (object_yes h i0 i1 o.hh o.ha o.s5 o.cn)
  have c0 := h.hp.word o.s5 o.cn o.few (k := 0) (by have := o.fit; omega)
  have hx := h.hp.xb s (c * wN s)
  have hgs : gw s < w.heap.size := h.hp.lt _ _ (h.hp.bg s o.s5 (by have := o.cn; omega))
  rw [Nat.add_zero] at c0
  have PS := Lib.hid (Size_c (X s (c * wN s)) hx.1 hx.2)
  rw [o.e2] at PS
  have hW : L.length + 2 ≤ wN s := o.fit
  have hl := o.l62
  clear h o
  unfold cellV at P
  generalize X s (c * wN s) = x at *
  generalize n s * wN s - c * wN s = cap at *
  generalize c * wN s = a at *
  generalize wN s = W at *
  generalize gw s = g at *
  generalize L.length = l at *
  have hnil := nil_not g a W cap
  have d1 : decide ((j : Int) < 0) = false := by simp
  have d2 : decide ((l : Int) ≤ (j : Int)) = false := by simp; omega
  have d3 : decide ((j : Int) ≥ (l : Int)) = false := by simp; omega
  have hw : IntKind.i64.wrap (2 + (j : Int)) = ((2 + j : Nat) : Int) := by rw [IntKind.wrap_i64]; omega
  have hW0 : 0 < W := by omega
  have hi : ((2 + j : Nat) : Int) < (W : Int) := by omega
  have hi2 : 2 + j < W := by omega
  go_enter Tryz.func51, Tryz.ntmps51
  go_wp2_with (first | (go_at_call 79; ((with_reducible refine (P.out).mono ?_); rintro e w1 ⟨rfl, hb⟩; have c1 := (hb.cell hgs).trans c0; replace hb := Lib.hid hb)) | (go_at_call 81; ((with_reducible refine (PS.out _).mono ?_); rintro e w2 ⟨rfl, hw2⟩; subst w2)))
  go_ret
  exact ⟨rfl, hb.out.drew⟩
end
end Wd
end Go.Proofs.YtdaojohdmidemaaGreat

/- The landed memory: Get, Class, Fields, Color, IDs, Cost. -/
namespace Go.Proofs.YtdaojohdmidemaaGreat
open Go.RowKit Go.Maps
set_option linter.unusedVariables false
set_option maxRecDepth 20000
namespace Wd
section
variable {w w' : World} {p : Nat} {n : Nat → Nat} {B : Nat → Nat → Prop} {mp gw : Nat → Nat} {tb mt : Nat} {T : Tst} {M : Nat → Mst} {X : Nat → Nat → Int} {H : Hst} {i : Int} {s c : Nat} {cl : Int} {L : List Int}
theorem HQ.count (h : HQ w p n H B mp gw tb mt X) (hm : Mt w' mt) (hc : Ch (fun k => k = mt) w w') : HQ w' p n H B mp gw tb mt X ∧ Ch (un B) w w' :=
  ⟨⟨(h.hp.cstep hm hc).1, h.wr, h.inv⟩, (h.hp.cstep hm hc).2⟩
theorem below_un {F : Nat → Prop} {w w' : World} (b : Below w.heap.size w w') : Ch F w w' := below_toCh F b
theorem fsI_no {H : Hst} {i : Int} (h : hasT H.T i = false) : fsI H i = [] := by unfold fsI; rw [h]; rfl
/-- what a call leaves that turns nothing but the meter -/
abbrev Kept (w w' : World) (p : Nat) (n : Nat → Nat) (H : Hst) (B : Nat → Nat → Prop) (mp gw : Nat → Nat) (tb mt : Nat) (X : Nat → Nat → Int) : Prop := HQ w' p n H B mp gw tb mt X ∧ Ch (un B) w w'
set_option maxHeartbeats 4000000 in
theorem vget_no (h : HQ w p n H B mp gw tb mt X) (i j : Int) (hF : Calls Tryz.prog 51 #[.pointer (some ⟨p, 0, none⟩), .int .i64 i, .int .i64 j] w fun e w' => e = .returned (.pointer none) ∧ Below w.heap.size w w') :
    Calls Tryz.prog 16 #[.pointer (some ⟨p, 0, none⟩), .int .i64 i, .int .i64 j] w fun e w' => e = .returned (.tuple #[.int .u32 0, .bool false]) ∧ Kept w w' p n H B mp gw tb mt X := by
  have P := Lib.hid hF
  replace h := Lib.hid h
  clear hF
  go_enter Tryz.func16, Tryz.ntmps16
  go_wp2_with (first | (go_at_call 51; ((with_reducible refine (P.out).mono ?_); rintro e w1 ⟨rfl, hb⟩; replace hb := Lib.hid hb)))
  go_returns
  exact ⟨rfl, h.out.keep hb.out, below_un hb.out⟩
set_option maxHeartbeats 4000000 in
theorem vget_c (h : HQ w p n H B mp gw tb mt X) (i j : Int) (i0 : -9223372036854775808 ≤ i) (i1 : i ≤ 9223372036854775807) (j0 : -9223372036854775808 ≤ j) (j1 : j ≤ 9223372036854775807) :
    Calls Tryz.prog 16 #[.pointer (some ⟨p, 0, none⟩), .int .i64 i, .int .i64 j] w fun e w' => e = .returned (.tuple #[.int .u32 (getV H i j), .bool (getB H i j)]) ∧ Kept w w' p n H B mp gw tb mt X := by
  cases hh : hasT H.T i with
  | false =>
    have e1 : getV H i j = 0 := by unfold getV; rw [fsI_no hh, if_neg (by simp <;> omega)]
    have e2 : getB H i j = false := by unfold getB; rw [fsI_no hh]; simp <;> omega
    rw [e1, e2]
    exact vget_no h i j (field_none h i j i0 i1 j0 j1 hh)
  | true =>
    obtain ⟨s, c, cl, L, o⟩ := h.ob hh
    by_cases hj : 0 ≤ j ∧ j < L.length
    · obtain ⟨k, rfl⟩ : ∃ k : Nat, j = k := ⟨j.toNat, by omega⟩
      have hk : k < L.length := by omega
      have e1 : getV H i k = X s (c * wN s + (2 + k)) := by
        unfold getV
        rw [o.fsi, if_pos (by simp; omega)]
        rw [← Nat.add_assoc, o.fs k L[k] (by simp [hk])]
        simp [List.getD, hk]
      have e2 : getB H i k = true := by unfold getB; rw [o.fsi]; simp; omega
      rw [e1, e2]
      have P := Lib.hid (field_in h i k i0 i1 o hk)
      have PA := Lib.hid (fun (w1 : World) (hb : Below w.heap.size w w1) => add_c (h.keep hb).hp.met 2 (by omega) (by omega))
      have hcc := Lib.hid (fun (w1 : World) (hb : Below w.heap.size w w1) => (h.keep hb).hp.cc)
      have hwd := Lib.hid (fun (w2 : World) (h2 : HQ w2 p n H B mp gw tb mt X) => h2.hp.word o.s5 o.cn o.few (k := 2 + k) (by have := o.fit; omega))
      replace h := Lib.hid h
      clear o e1 e2 hh hj
      generalize X s (c * wN s + (2 + k)) = x at *
      generalize c * wN s + (2 + k) = off at *
      generalize hg : gw s = g at *
      replace hg := Lib.hid hg
      go_enter Tryz.func16, Tryz.ntmps16
      go_wp2_with (first | (go_at_call 51; ((with_reducible refine (P.out).mono ?_); rintro e w1 ⟨rfl, hb⟩; have cc := hcc.out _ hb; have P2 := Lib.hid (PA.out _ hb); replace hb := Lib.hid hb)) | (go_at_call 52; ((with_reducible refine (P2.out).mono ?_); rintro e w2 ⟨rfl, d1, d2⟩; have h2 := (h.out.keep hb.out).count d1 d2; have cf := hwd.out _ h2.1; replace h2 := Lib.hid h2; clear d1 d2)))
      go_returns
      exact ⟨rfl, h2.out.1, (below_un hb.out).trans h2.out.2⟩
    · have e1 : getV H i j = 0 := by unfold getV; rw [o.fsi, if_neg hj]
      have e2 : getB H i j = false := by unfold getB; rw [o.fsi]; simp; omega
      rw [e1, e2]
      exact vget_no h i j (field_out h i j i0 i1 j0 j1 o (by omega))
set_option maxHeartbeats 4000000 in
theorem vclass_c (h : HQ w p n H B mp gw tb mt X) (i : Int) (i0 : -9223372036854775808 ≤ i) (i1 : i ≤ 9223372036854775807) :
    Calls Tryz.prog 30 #[.pointer (some ⟨p, 0, none⟩), .int .i64 i] w fun e w' => e = .returned (.int .i64 (clsI H i)) ∧ Kept w w' p n H B mp gw tb mt X := by
  cases hh : hasT H.T i with
  | false =>
    have e1 : clsI H i = -1 := by unfold clsI; rw [hh]; rfl
    rw [e1]
    have P := Lib.hid (object_no h i i0 i1 hh)
    have hnil := nil_is
    replace h := Lib.hid h
    clear e1 hh
    go_enter Tryz.func30, Tryz.ntmps30
    go_wp2_with (first | (go_at_call 79; ((with_reducible refine (P.out).mono ?_); rintro e w1 ⟨rfl, hb⟩; replace hb := Lib.hid hb)))
    go_ret
    exact ⟨rfl, h.out.keep hb.out, below_un hb.out⟩
  | true =>
    obtain ⟨s, c, cl, L, o⟩ := h.ob hh
    rw [o.cls]
    have P := Lib.hid (object_yes h i0 i1 o.hh o.ha o.s5 o.cn)
    have hx := h.hp.xb s (c * wN s)
    have PS := Lib.hid (Class_c (X s (c * wN s)) hx.1 hx.2)
    rw [o.e1] at PS
    have hW : 0 < wN s := by have := o.fit; omega
    have PA := Lib.hid (fun (w1 : World) (hb : Below w.heap.size w w1) => add_c (h.keep hb).hp.met 1 (by omega) (by omega))
    have hcc := Lib.hid (fun (w1 : World) (hb : Below w.heap.size w w1) => (h.keep hb).hp.cc)
    have hwd := Lib.hid (fun (w2 : World) (h2 : HQ w2 p n H B mp gw tb mt X) => h2.hp.word o.s5 o.cn o.few (k := 0) (by have := o.fit; omega))
    simp only [Nat.add_zero] at hwd
    replace h := Lib.hid h
    clear o hh
    unfold cellV at P
    generalize X s (c * wN s) = x at *
    generalize n s * wN s - c * wN s = cap at *
    generalize c * wN s = a at *
    generalize wN s = W at *
    generalize hg : gw s = g at *
    replace hg := Lib.hid hg
    have hnil := nil_not g a W cap
    go_enter Tryz.func30, Tryz.ntmps30
    go_wp2_with (first | (go_at_call 79; ((with_reducible refine (P.out).mono ?_); rintro e w1 ⟨rfl, hb⟩; have cc := hcc.out _ hb; have P2 := Lib.hid (PA.out _ hb); replace hb := Lib.hid hb)) | (go_at_call 52; ((with_reducible refine (P2.out).mono ?_); rintro e w2 ⟨rfl, d1, d2⟩; have h2 := (h.out.keep hb.out).count d1 d2; have cf := hwd.out _ h2.1; replace h2 := Lib.hid h2; clear d1 d2)) | (go_at_call 80; ((with_reducible refine (PS.out _).mono ?_); rintro e w3 ⟨rfl, hw3⟩; subst w3)))
    go_ret
    exact ⟨rfl, h2.out.1.keep (Below.refl _ _).drew, ((below_un hb.out).trans h2.out.2).trans (below_un (Below.refl _ _).drew)⟩
set_option maxHeartbeats 4000000 in
theorem vfields_c (h : HQ w p n H B mp gw tb mt X) (i : Int) (i0 : -9223372036854775808 ≤ i) (i1 : i ≤ 9223372036854775807) :
    Calls Tryz.prog 31 #[.pointer (some ⟨p, 0, none⟩), .int .i64 i] w fun e w' => e = .returned (.int .i64 (fldI H i)) ∧ Kept w w' p n H B mp gw tb mt X := by
  cases hh : hasT H.T i with
  | false =>
    have e1 : fldI H i = -1 := by unfold fldI; rw [hh]; rfl
    rw [e1]
    have P := Lib.hid (object_no h i i0 i1 hh)
    have hnil := nil_is
    replace h := Lib.hid h
    clear e1 hh
    go_enter Tryz.func31, Tryz.ntmps31
    go_wp2_with (first | (go_at_call 79; ((with_reducible refine (P.out).mono ?_); rintro e w1 ⟨rfl, hb⟩; replace hb := Lib.hid hb)))
    go_ret
    exact ⟨rfl, h.out.keep hb.out, below_un hb.out⟩
  | true =>
    obtain ⟨s, c, cl, L, o⟩ := h.ob hh
    rw [o.fld]
    have P := Lib.hid (object_yes h i0 i1 o.hh o.ha o.s5 o.cn)
    have hx := h.hp.xb s (c * wN s)
    have PS := Lib.hid (Size_c (X s (c * wN s)) hx.1 hx.2)
    rw [o.e2] at PS
    have hW : 0 < wN s := by have := o.fit; omega
    have PA := Lib.hid (fun (w1 : World) (hb : Below w.heap.size w w1) => add_c (h.keep hb).hp.met 1 (by omega) (by omega))
    have hcc := Lib.hid (fun (w1 : World) (hb : Below w.heap.size w w1) => (h.keep hb).hp.cc)
    have hwd := Lib.hid (fun (w2 : World) (h2 : HQ w2 p n H B mp gw tb mt X) => h2.hp.word o.s5 o.cn o.few (k := 0) (by have := o.fit; omega))
    simp only [Nat.add_zero] at hwd
    replace h := Lib.hid h
    clear o hh
    unfold cellV at P
    generalize X s (c * wN s) = x at *
    generalize n s * wN s - c * wN s = cap at *
    generalize c * wN s = a at *
    generalize wN s = W at *
    generalize hg : gw s = g at *
    generalize L.length = l at *
    replace hg := Lib.hid hg
    have hnil := nil_not g a W cap
    go_enter Tryz.func31, Tryz.ntmps31
    go_wp2_with (first | (go_at_call 79; ((with_reducible refine (P.out).mono ?_); rintro e w1 ⟨rfl, hb⟩; have cc := hcc.out _ hb; have P2 := Lib.hid (PA.out _ hb); replace hb := Lib.hid hb)) | (go_at_call 52; ((with_reducible refine (P2.out).mono ?_); rintro e w2 ⟨rfl, d1, d2⟩; have h2 := (h.out.keep hb.out).count d1 d2; have cf := hwd.out _ h2.1; replace h2 := Lib.hid h2; clear d1 d2)) | (go_at_call 81; ((with_reducible refine (PS.out _).mono ?_); rintro e w3 ⟨rfl, hw3⟩; subst w3)))
    go_ret
    exact ⟨rfl, h2.out.1.keep (Below.refl _ _).drew, ((below_un hb.out).trans h2.out.2).trans (below_un (Below.refl _ _).drew)⟩
set_option maxHeartbeats 4000000 in
theorem vcolor_c (h : HQ w p n H B mp gw tb mt X) (i : Int) (i0 : -9223372036854775808 ≤ i) (i1 : i ≤ 9223372036854775807) :
    Calls Tryz.prog 36 #[.pointer (some ⟨p, 0, none⟩), .int .i64 i] w fun e w' => e = .returned (.int .i64 (colI H i)) ∧ Below w.heap.size w w' := by
  have ct := h.hp.ct
  have P := Lib.hid (KT.at' i h.hp.tbl i0 i1)
  cases hh : hasT H.T i with
  | false =>
    have e1 : colI H i = -1 := by unfold colI; rw [hh]; rfl
    rw [e1]
    rw [hh, atP_no hh] at P
    unfold plV at P
    simp only at P
    clear h hh e1
    go_enter Tryz.func36, Tryz.ntmps36
    go_wp2_with (first | (go_at_call 83; ((with_reducible refine (P.out).mono ?_); rintro e w1 ⟨rfl, hb⟩; replace hb := Lib.hid hb)))
    go_ret
    exact ⟨rfl, hb.out.trans (((Below.refl _ _).alloc (Nat.le_refl _) _).mono hb.out.size)⟩
  | true =>
    obtain ⟨s, c, cl, L, o⟩ := h.ob hh
    rw [o.col]
    rw [hh, o.ha] at P
    have hs5 : (s : Int) < 5 := by have := o.s5; omega
    have cn := o.cn
    have few := o.few
    have hn0 : ¬ (n s = 0) := by omega
    have cm := Lib.hid (fun (w1 : World) (hb : Below w.heap.size w w1) => (h.hp.keep hb).cm s o.s5)
    simp only [if_neg hn0] at cm
    have PM := Lib.hid (fun (w1 : World) (hb : Below w.heap.size w w1) => KM.color (c : Int) ((h.hp.keep hb).mill s o.s5 (by omega)) (by omega) (by omega))
    have hss : s < 5 := o.s5
    unfold plV at P
    simp only at P
    clear h hh o hn0
    generalize colorR (H.M s) c = col at *
    go_enter Tryz.func36, Tryz.ntmps36
    go_wp2_with (first | (go_at_call 83; ((with_reducible refine (P.out).mono ?_); rintro e w1 ⟨rfl, hb⟩; replace hb := Lib.hid hb)))
    have hb3 := hb.out.trans (((Below.refl _ _).alloc (Nat.le_refl _) (.cells #[.int .i64 s, .int .i64 c] 83)).mono hb.out.size)
    have q0 : (w1.alloc (.cells #[.int .i64 s, .int .i64 c] 83)).cell? ⟨w1.heap.size, 0, none⟩ = some (.int .i64 s) := by simp
    have q1 : (w1.alloc (.cells #[.int .i64 s, .int .i64 c] 83)).cell? ⟨w1.heap.size, 1, none⟩ = some (.int .i64 c) := by simp
    have cm1 := cm.out _ hb3
    generalize (w1.alloc (.cells #[.int .i64 s, .int .i64 c] 83)) = w2 at *
    replace hb3 := Lib.hid hb3
    go_still_tail 9, (by kernel_rfl)
    go_wp2_with (first | (go_at_call 84; ((with_reducible refine (PM.out _ hb3.out.drew).mono ?_); rintro e w4 ⟨rfl, hb4⟩; replace hb4 := Lib.hid hb4)))
    go_ret
    exact ⟨rfl, hb3.out.drew.trans (hb4.out.mono hb3.out.drew.size)⟩
set_option maxHeartbeats 4000000 in
theorem vids_c (h : HQ w p n H B mp gw tb mt X) :
    Calls Tryz.prog 33 #[.pointer (some ⟨p, 0, none⟩)] w fun e w' => ∃ u, e = .returned u ∧ SL w' 3 u (idsT H.T) ∧ Below w.heap.size w w' ∧ (∀ g, u.ownBlock = some g → w.heap.size ≤ g) := by
  have ct := h.hp.ct
  have P := Lib.hid (KT.ids h.hp.tbl)
  clear h
  go_enter Tryz.func33, Tryz.ntmps33
  go_wp2_with (first | (go_at_call 82; ((with_reducible refine (P.out).mono ?_); rintro e w1 ⟨u, rfl, hu, hb, hf⟩; replace hu := Lib.hid hu; replace hb := Lib.hid hb; replace hf := Lib.hid hf)))
  go_ret
  exact ⟨_, rfl, hu.out, hb.out, hf.out⟩
theorem vcost_c (h : HQ w p n H B mp gw tb mt X) :
    Calls Tryz.prog 35 #[.pointer (some ⟨p, 0, none⟩)] w fun e w' => e = .returned (.pointer (some ⟨mt, 0, none⟩)) ∧ w' = w := by
  have cc := h.hp.cc
  clear h
  go_enter Tryz.func35, Tryz.ntmps35
  go_wp2
  go_ret
  exact ⟨rfl, rfl⟩
end
end Wd
end Go.Proofs.YtdaojohdmidemaaGreat

/- The colours of cells: what is shaded, what stays. -/
namespace Go.Proofs.YtdaojohdmidemaaGreat
open Go.RowKit Go.Maps
set_option linter.unusedVariables false
namespace Wd
theorem color_shade (A : Mst) (i j : Int) : colorR (shadeA A i) j = if j = i ∧ colorR A i = 3 then 2 else colorR A j := by
  unfold shadeA
  by_cases h : colorR A i = 3
  · rw [if_pos h]
    have n0 : i ∉ A 0 := fun m => by unfold colorR at h; rw [if_pos m] at h; omega
    have n1 : i ∉ A 1 := fun m => by unfold colorR at h; rw [if_neg n0, if_pos m] at h; omega
    by_cases c : j = i
    · subst c
      rw [if_pos ⟨rfl, h⟩]
      unfold colorR
      rw [if_neg (by simpa [upA] using n0), if_neg (by simpa [upA] using n1), if_pos (by simp [upA])]
    · rw [if_neg (fun e => c e.1)]
      unfold colorR
      simp [upA, c]
  · rw [if_neg h, if_neg (fun e => h e.2)]
/-- a place that is one: its row is its size -/
def okP (p : Pl) : Prop := ∃ s : Nat, s < 5 ∧ p.1 = s
theorem okP.eq {p q : Pl} (hp : okP p) (hq : okP q) (h1 : szP p = szP q) (h2 : p.2 = q.2) : p = q := by
  obtain ⟨s, _, e⟩ := hp
  obtain ⟨t, _, f⟩ := hq
  unfold szP at h1
  rw [e, f] at h1
  have : s = t := by simpa using h1
  subst this
  exact Prod.ext (by rw [e, f]) h2
theorem colP_sh (H : Hst) {p q : Pl} (hp : okP p) (hq : okP q) : colP (sh H p) q = if q = p ∧ colP H p = 3 then 2 else colP H q := by
  unfold colP
  show colorR (upM H.M (szP p) (shadeA (H.M (szP p)) p.2) (szP q)) q.2 = _
  unfold upM
  by_cases c : szP q = szP p
  · rw [if_pos c, color_shade]
    by_cases d : q.2 = p.2 ∧ colorR (H.M (szP p)) p.2 = 3
    · rw [if_pos d, if_pos ⟨hq.eq hp c d.1, d.2⟩]
    · rw [if_neg d, if_neg (fun e => d ⟨by rw [e.1], e.2⟩), c]
  · rw [if_neg c, if_neg (fun e => c (by rw [e.1]))]
/-- the same memory, a little darker -/
structure Dk (H H' : Hst) : Prop where
  t : H'.T = H.T
  c : H'.C = H.C
  col : ∀ q, okP q → colP H' q = colP H q ∨ (colP H q = 3 ∧ colP H' q = 2)
theorem Dk.refl (H : Hst) : Dk H H := ⟨rfl, rfl, fun _ _ => .inl rfl⟩
theorem Dk.trans {H H1 H2 : Hst} (a : Dk H H1) (b : Dk H1 H2) : Dk H H2 :=
  ⟨b.t.trans a.t, b.c.trans a.c, fun q hq => by rcases a.col q hq with h | h <;> rcases b.col q hq with g | g <;> omega⟩
theorem Dk.sh (H : Hst) {p : Pl} (hp : okP p) : Dk H (Wd.sh H p) := ⟨rfl, rfl, fun q hq => by
  rw [colP_sh H hp hq]
  split
  · rename_i e; rw [e.1]; exact .inr ⟨e.2, rfl⟩
  · exact .inl rfl⟩
theorem HInv.okP {n : Nat → Nat} {H : Hst} (h : HInv n H) {k : Nat} {p : Pl} (ht : H.T k = some p) : Wd.okP p := by
  obtain ⟨s, hs, e, _⟩ := h.pl k p ht
  exact ⟨s, hs, e⟩
theorem Dk.shI {n : Nat → Nat} {H : Hst} (h : HInv n H) (i : Int) : Dk H (Wd.shI H i) := by
  unfold Wd.shI
  split
  · rename_i hh
    obtain ⟨k, p, rfl, _, _, hp, e⟩ := h.has hh
    rw [e]
    exact Dk.sh H (h.okP hp)
  · exact Dk.refl H
theorem Dk.shW {n : Nat → Nat} {H : Hst} (h : HInv n H) (x : Int) : Dk H (Wd.shW H x) := by
  unfold Wd.shW
  split
  · exact Dk.shI h _
  · exact Dk.refl H
theorem Dk.hold {n : Nat → Nat} {H : Hst} (h : HInv n H) : ∀ l : List Int, Dk H (holdH H l) := by
  intro l
  unfold holdH
  induction l generalizing H with
  | nil => exact Dk.refl H
  | cons x l ih => exact (Dk.shW h x).trans (ih (h.shW x))
/-- no Ecru one is what the word names -/
def okW (H : Hst) (x : Int) : Prop := isOp x = true → ∀ k q, x / 2 = ((k : Nat) : Int) → H.T k = some q → colP H q ≠ 3
theorem okW.dark {H H' : Hst} {n : Nat → Nat} {x : Int} (hi : HInv n H) (h : okW H x) (d : Dk H H') : okW H' x := fun ho k q e ht => by
  rw [d.t] at ht
  have := h ho k q e ht
  rcases d.col q (hi.okP ht) with g | g <;> omega
theorem okW.shW {H : Hst} {n : Nat → Nat} (h : HInv n H) (x : Int) : okW (Wd.shW H x) x := fun ho k q e ht => by
  have hT : (Wd.shW H x).T = H.T := (Dk.shW h x).t
  rw [hT] at ht
  have bk := h.inv.bd k q ht
  unfold Wd.shW
  rw [if_pos ho, e]
  obtain ⟨h1, h2⟩ := atP_at ht (by omega : k < 1024)
  have e2 : Wd.shI H (k : Nat) = Wd.sh H q := by unfold Wd.shI; rw [if_pos h2, h1]
  rw [e2, colP_sh H (h.okP ht) (h.okP ht)]
  by_cases c : colP H q = 3
  · rw [if_pos ⟨rfl, c⟩]; omega
  · rw [if_neg (fun e => c e.2)]; exact c
theorem okW.hold {n : Nat → Nat} : ∀ (l : List Int) {H : Hst}, HInv n H → ∀ x, x ∈ l → okW (holdH H l) x
  | [], _, _, _, hx => by cases hx
  | y :: l, H, h, x, hx => by
    rcases List.mem_cons.1 hx with rfl | hx
    · exact (okW.shW h x).dark (h.shW x) (Dk.hold (h.shW x) l)
    · exact okW.hold l (h.shW y) x hx
/-- no Black cell names an Ecru one -/
def Tri (H : Hst) : Prop := ∀ p, okP p → colP H p = 1 → ∀ x, x ∈ (H.C p).2 → okW H x
theorem Tri.dark {n : Nat → Nat} {H H' : Hst} (h : Tri H) (hi : HInv n H) (d : Dk H H') : Tri H' := fun p hp hc x hx => by
  rw [d.c] at hx
  have : colP H p = 1 := by rcases d.col p hp with g | g <;> omega
  exact (h p hp this x hx).dark hi d
theorem Tri.hold {n : Nat → Nat} {H : Hst} (h : Tri H) (hi : HInv n H) (l : List Int) : Tri (holdH H l) := h.dark hi (Dk.hold hi l)
theorem color_first {A : Mst} {i j : Int} {R : List Int} {n : Nat} (h : Good n A) (hA : A 2 = i :: R) : colorR (firstA A 2 1) j = if j = i then 1 else colorR A j := by
  have n0 : i ∉ A 0 := fun m => by have := good_color h (x := 0) (by omega) m; have := good_color h (x := 2) (by omega) (show i ∈ A 2 by rw [hA]; simp); omega
  unfold firstA
  rw [hA]
  by_cases c : j = i
  · subst c
    rw [if_pos rfl]
    unfold colorR
    simp [upA, n0]
  · rw [if_neg c]
    unfold colorR
    simp [upA, c, hA]
end Wd
end Go.Proofs.YtdaojohdmidemaaGreat

/- The landed memory: what makes cells Grey: shade, shadeWord, Hold, Swap. -/
namespace Go.Proofs.YtdaojohdmidemaaGreat
open Go.RowKit Go.Maps
set_option linter.unusedVariables false
set_option maxRecDepth 20000
namespace Wd
/-- what a call leaves: the memory H', the same words -/
def Tn (w w' : World) (p : Nat) (n : Nat → Nat) (H' : Hst) (B : Nat → Nat → Prop) (mp gw : Nat → Nat) (tb mt : Nat) (X : Nat → Nat → Int) : Prop :=
  ∃ B', HQ w' p n H' B' mp gw tb mt X ∧ Ch (un B) w w' ∧ Newer (un B) (un B') w.heap.size
section
variable {w w' w1 w2 : World} {p : Nat} {n : Nat → Nat} {B B1 : Nat → Nat → Prop} {mp gw : Nat → Nat} {tb mt : Nat} {T T' : Tst} {M : Nat → Mst} {X : Nat → Nat → Int} {H H1 H2 : Hst} {i : Int} {s c : Nat} {cl : Int} {L : List Int}
theorem Tn.refl (h : HQ w p n H B mp gw tb mt X) : Tn w w p n H B mp gw tb mt X := ⟨B, h, Ch.refl _ _, newer_refl9 _ _⟩
theorem Tn.keep (h : Tn w w1 p n H B mp gw tb mt X) (g : Below w1.heap.size w1 w2) : Tn w w2 p n H B mp gw tb mt X := by
  obtain ⟨B', h1, h2, h3⟩ := h
  exact ⟨B', h1.keep g, h2.trans (below_un g), h3⟩
theorem Tn.pre (hb : Below w.heap.size w w1) (h : Tn w1 w2 p n H B mp gw tb mt X) : Tn w w2 p n H B mp gw tb mt X := by
  obtain ⟨B', h1, h2, h3⟩ := h
  exact ⟨B', h1, (below_un hb).trans h2, fun k hk => by
    rcases h3 k hk with h | h
    · exact Or.inl h
    · exact Or.inr (Nat.le_trans hb.size h)⟩
theorem tn_then (c1 : Ch (un B) w w1) (n1 : Newer (un B) (un B1) w.heap.size) (h : Tn w1 w2 p n H B1 mp gw tb mt X) : Tn w w2 p n H B mp gw tb mt X := by
  obtain ⟨B', h1, h2, h3⟩ := h
  exact ⟨B', h1, c1.then_ h2 n1, Newer.trans n1 h3 c1.size⟩
theorem HQ.mstep (h : HQ w p n H B mp gw tb mt X) (s5 : s < 5) (hn : 1 ≤ n s) {A' : Mst} {F' : Nat → Prop} (hm : MA w' (mp s) (n s) A' F') (hc : Ch (B (3 + s)) w w') (hN : Newer (B (3 + s)) F' w.heap.size) (hi : HInv n { H with M := upM H.M s A' }) :
    Tn w w' p n { H with M := upM H.M s A' } B mp gw tb mt X := by
  obtain ⟨a1, a2, a3⟩ := h.hp.mstep s5 hn hm hc hN
  exact ⟨_, ⟨a1, h.wr, hi⟩, a2, a3⟩
theorem WR.ids {C : Pl → Int × List Int} (h : WR n T C X) (hT : ∀ k q, T' k = some q → ∃ j, T j = some q) : WR n T' C X := fun k s c hk => by
  obtain ⟨j, hj⟩ := hT k _ hk
  exact h j s c hj
set_option maxHeartbeats 4000000 in
theorem vshade_c (h : HQ w p n H B mp gw tb mt X) (i : Int) (i0 : -9223372036854775808 ≤ i) (i1 : i ≤ 9223372036854775807) :
    Calls Tryz.prog 58 #[.pointer (some ⟨p, 0, none⟩), .int .i64 i] w fun e w' => e = .returned (.tuple #[]) ∧ Tn w w' p n (shI H i) B mp gw tb mt X := by
  have ct := h.hp.ct
  have P := Lib.hid (KT.at' i h.hp.tbl i0 i1)
  cases hh : hasT H.T i with
  | false =>
    have e1 : shI H i = H := by unfold shI; rw [hh]; rfl
    rw [e1]
    rw [hh, atP_no hh] at P
    unfold plV at P
    simp only at P
    replace h := Lib.hid h
    clear hh e1
    go_enter Tryz.func58, Tryz.ntmps58
    go_wp2_with (first | (go_at_call 83; ((with_reducible refine (P.out).mono ?_); rintro e w1 ⟨rfl, hb⟩; replace hb := Lib.hid hb)))
    go_end0
    exact ⟨rfl, (Tn.refl h.out).keep (hb.out.trans (((Below.refl _ _).alloc (Nat.le_refl _) _).mono hb.out.size))⟩
  | true =>
    obtain ⟨s, c, cl, L, o⟩ := h.ob hh
    have e1 : shI H i = { H with M := upM H.M s (shadeA (H.M s) c) } := by
      unfold shI sh szP
      rw [if_pos hh, o.ha]
      simp
    have hi : HInv n { H with M := upM H.M s (shadeA (H.M s) c) } := by rw [← e1]; exact h.inv.shI i
    rw [e1]
    rw [hh, o.ha] at P
    have hs5 : (s : Int) < 5 := by have := o.s5; omega
    have cn := o.cn
    have few := o.few
    have hn0 : ¬ (n s = 0) := by omega
    have cm := Lib.hid (fun (w1 : World) (hb : Below w.heap.size w w1) => (h.hp.keep hb).cm s o.s5)
    simp only [if_neg hn0] at cm
    have PM := Lib.hid (fun (w1 : World) (hb : Below w.heap.size w w1) => KM.shade (c : Int) ((h.hp.keep hb).mill s o.s5 (by omega)) (by omega) (by omega))
    have hss : s < 5 := o.s5
    unfold plV at P
    simp only at P
    replace h := Lib.hid h
    replace hi := Lib.hid hi
    clear hh o hn0 e1
    go_enter Tryz.func58, Tryz.ntmps58
    go_wp2_with (first | (go_at_call 83; ((with_reducible refine (P.out).mono ?_); rintro e w1 ⟨rfl, hb⟩; replace hb := Lib.hid hb)))
    have hb3 := hb.out.trans (((Below.refl _ _).alloc (Nat.le_refl _) (.cells #[.int .i64 s, .int .i64 c] 83)).mono hb.out.size)
    have q0 : (w1.alloc (.cells #[.int .i64 s, .int .i64 c] 83)).cell? ⟨w1.heap.size, 0, none⟩ = some (.int .i64 s) := by simp
    have q1 : (w1.alloc (.cells #[.int .i64 s, .int .i64 c] 83)).cell? ⟨w1.heap.size, 1, none⟩ = some (.int .i64 c) := by simp
    have cm1 := cm.out _ hb3
    generalize (w1.alloc (.cells #[.int .i64 s, .int .i64 c] 83)) = w2 at *
    replace hb3 := Lib.hid hb3
    go_still_tail 9, (by kernel_rfl)
    go_wp2_with (first | (go_at_call 97; ((with_reducible refine (PM.out _ hb3.out.drew).mono ?_); rintro e w4 ⟨F', he, d1, d2, d3⟩; subst he)))
    go_end0
    exact ⟨rfl, Tn.pre hb3.out.drew ((h.out.keep hb3.out.drew).mstep hss (by omega) d1 d2 d3 hi.out)⟩
set_option maxHeartbeats 4000000 in
theorem vshw_c (h : HQ w p n H B mp gw tb mt X) (x : Int) (x0 : 0 ≤ x) (x1 : x ≤ 4294967295) :
    Calls Tryz.prog 53 #[.pointer (some ⟨p, 0, none⟩), .int .u32 x] w fun e w' => e = .returned (.tuple #[]) ∧ Tn w w' p n (shW H x) B mp gw tb mt X := by
  have P := Lib.hid (id9_c x x0 x1)
  cases hx : isOp x with
  | false =>
    have e : shW H x = H := by unfold shW; rw [hx]; rfl
    have e2 : idW x = 0 := by unfold idW; rw [hx]; rfl
    rw [e]
    rw [hx, e2] at P
    replace h := Lib.hid h
    clear e e2
    go_enter Tryz.func53, Tryz.ntmps53
    go_wp2_with (first | (go_at_call 93; ((with_reducible refine (P.out _).mono ?_); rintro e w1 ⟨rfl, hw1⟩; subst w1)))
    go_end0
    exact ⟨rfl, Tn.refl h.out⟩
  | true =>
    have e : shW H x = shI H (x / 2) := by unfold shW; rw [hx]; rfl
    have e2 : idW x = x / 2 := by unfold idW; rw [hx]; rfl
    rw [e]
    rw [hx, e2] at P
    have P2 := Lib.hid (vshade_c h (x / 2) (by omega) (by omega))
    clear e e2 h
    generalize x / 2 = y at *
    go_enter Tryz.func53, Tryz.ntmps53
    go_wp2_with (first | (go_at_call 93; ((with_reducible refine (P.out _).mono ?_); rintro e w1 ⟨rfl, hw1⟩; subst w1)) | (go_at_call 58; ((with_reducible refine (P2.out).mono ?_); rintro e w1 ⟨rfl, hd⟩; replace hd := Lib.hid hd)))
    go_end0
    exact ⟨rfl, hd.out⟩
theorem hold_succ {l : List Int} {k : Nat} {x : Int} (hx : l[k]? = some x) : holdH H (l.take (k + 1)) = shW (holdH H (l.take k)) x := by
  unfold holdH
  rw [List.take_add_one, hx, Option.toList_some, List.foldl_append]; rfl
set_option maxHeartbeats 4000000 in
theorem vhold_c {u : Value} {l : List Int} (h : HQ w p n H B mp gw tb mt X) (hu : SW w u l) (hl : ∀ x ∈ l, 0 ≤ x ∧ x ≤ 4294967295) (hlen : l.length ≤ 1000) (hfar : ∀ g, u.ownBlock = some g → ¬ un B g) :
    Calls Tryz.prog 19 #[.pointer (some ⟨p, 0, none⟩), u] w fun e w' => e = .returned (.tuple #[]) ∧ Tn w w' p n (holdH H l) B mp gw tb mt X := by
  rcases hu.cases with ⟨rfl, rfl⟩ | ⟨g, cap, rfl, g1, g2, g3, g4⟩
  · replace h := Lib.hid h
    clear hu
    go_enter Tryz.func19, Tryz.ntmps19
    go_wp2
    refine wp_loop_rounds 1 ?_
    rw [rounds_succ]
    go_wp2
    go_end0
    exact ⟨rfl, Tn.refl h.out⟩
  · have S0 := Lib.hid (Tn.refl h)
    have hgf := hfar g rfl
    have hcell : Hid (∀ (wX : World) (k : Nat) (y : Int), Ch (un B) w wX → l[k]? = some y → wX.cell? ⟨g, k, none⟩ = some (.int .u32 y)) := Lib.hid (fun wX k y hc hq => (World.cell?_of_block (a := ⟨g, k, none⟩) (hc.block g g3 hgf)).trans (wrow_cell g4 hq))
    replace hl := Lib.hid hl
    clear hu g4 hfar h
    go_enter Tryz.func19, Tryz.ntmps19
    go_wp2
    go_loopw [8] (fun i' wr => ∃ k : Nat, k ≤ l.length ∧ i' = .int .i64 k ∧ Tn w wr p n (holdH H (l.take k)) B mp gw tb mt X) (fun i' _ => l.length - (intOf i').toNat)
    case atStart => exact ⟨0, by omega, rfl, S0.out⟩
    case round =>
      obtain ⟨k, hk, rfl, hR⟩ := hrel
      by_cases hlt : k < l.length
      · have hd : decide ((k : Int) < (l.length : Int)) = true := by simp; omega
        have hw1 : IntKind.i64.wrap ((k : Int) + 1) = (k : Int) + 1 := by rw [IntKind.wrap_i64]; omega
        have hx : l[k]? = some l[k] := by simp [hlt]
        have hc := hcell.out wr k _ hR.choose_spec.2.1 hx
        have hxb := hl.out l[k] (List.getElem_mem hlt)
        have eN := hold_succ (H := H) hx
        obtain ⟨B1, h1, h2, h3⟩ := hR
        have P := Lib.hid (vshw_c h1 l[k] hxb.1 hxb.2)
        rw [← eN] at P
        replace h2 := Lib.hid h2
        replace h3 := Lib.hid h3
        clear h1 eN hx
        generalize l[k] = x at *
        go_wp2_with (first | (go_at_call 53; ((with_reducible refine (P.out).mono ?_); rintro e w1 ⟨rfl, hd1⟩; replace hd1 := Lib.hid hd1)))
        have hN := Lib.hid (tn_then h2.out h3.out hd1.out)
        clear hd1 P h2 h3 hc
        go_roundw
        case rel => exact ⟨k + 1, by omega, by go_num, hN.out⟩
        case measure => simp [intOf]; omega
      · have e : k = l.length := by omega
        subst e
        have hd : decide ((l.length : Int) < (l.length : Int)) = false := by simp
        rw [List.take_length] at hR
        replace hR := Lib.hid hR
        go_wp2
        go_end0
        exact ⟨rfl, hR.out⟩
end
end Wd
end Go.Proofs.YtdaojohdmidemaaGreat

/- The landed memory: the least size that has a Grey cell; Done. -/
namespace Go.Proofs.YtdaojohdmidemaaGreat
open Go.RowKit Go.Maps
set_option linter.unusedVariables false
set_option maxRecDepth 20000
namespace Wd
/-- a mill's pointer -/
def mv (n mp : Nat → Nat) (s : Nat) : Option Addr := if n s = 0 then none else some ⟨mp s, 0, none⟩
def millsV (v : Nat → Option Addr) : Value := .agg #[.pointer (v 0), .pointer (v 1), .pointer (v 2), .pointer (v 3), .pointer (v 4)]
theorem index_mv (v : Nat → Option Addr) {s : Nat} (hs : s < 5) (w : World) : (Instr.index 63 (millsV v) (.int .i64 (s : Int))).run Tryz.prog w = .ok (.pointer (v s)) w := by
  unfold millsV
  rcases (show s = 0 ∨ s = 1 ∨ s = 2 ∨ s = 3 ∨ s = 4 by omega) with rfl | rfl | rfl | rfl | rfl <;> kernel_rfl
/-- the least size that has a Grey cell, or -1 -/
def gryI (H : Hst) : Int := match gry H with | some s => (s : Int) | none => -1
theorem gryI_some {H : Hst} {s : Nat} (h : gry H = some s) : gryI H = s := by unfold gryI; rw [h]
theorem gryI_none {H : Hst} (h : gry H = none) : gryI H = -1 := by unfold gryI; rw [h]
theorem gry_at {H : Hst} {k : Nat} (hk : k < 5) (hne : H.M k 2 ≠ []) (hem : ∀ j, j < k → H.M j 2 = []) : gry H = some k := by
  unfold gry
  rw [List.find?_range_eq_some]
  exact ⟨by simpa using hne, List.mem_range.2 hk, fun j hj => by rw [hem j hj]; rfl⟩
theorem gry_no {H : Hst} (hem : ∀ j, j < 5 → H.M j 2 = []) : gry H = none := by
  unfold gry
  rw [List.find?_eq_none]
  intro s hs
  rw [hem s (List.mem_range.1 hs)]
  simp
theorem gry_done {H : Hst} : doneB H = decide (gryI H < 0) := by
  cases hd : doneB H with
  | true => rw [gryI_none (gry_none hd)]; rfl
  | false =>
    obtain ⟨s, hg, hs5, _⟩ := gry_some hd
    rw [gryI_some hg]; simp
theorem good_nil {A : Mst} (h : Good 0 A) : A 0 = [] ∧ A 1 = [] ∧ A 2 = [] ∧ A 3 = [] := by
  have := good_len h
  refine ⟨?_, ?_, ?_, ?_⟩ <;> exact List.length_eq_zero_iff.1 (by omega)
section
variable {w w' w1 w2 : World} {p : Nat} {n : Nat → Nat} {B B1 : Nat → Nat → Prop} {mp gw : Nat → Nat} {tb mt : Nat} {T T' : Tst} {M : Nat → Mst} {X : Nat → Nat → Int} {H H1 H2 : Hst} {i : Int} {s c : Nat} {cl : Int} {L : List Int}
theorem HP.cm5 (h : HP w p n B mp gw tb mt T M X) : ∀ s, s < 5 → w.cell? ⟨p, s, none⟩ = some (.pointer (mv n mp s)) := h.cm
set_option maxHeartbeats 4000000 in
theorem vgrey_c (h : HQ w p n H B mp gw tb mt X) :
    Calls Tryz.prog 62 #[.pointer (some ⟨p, 0, none⟩)] w fun e w' => e = .returned (.int .i64 (gryI H)) ∧ Below w.heap.size w w' := by
  have m0 := h.hp.cm5 0 (by omega)
  have m1 := h.hp.cm5 1 (by omega)
  have m2 := h.hp.cm5 2 (by omega)
  have m3 := h.hp.cm5 3 (by omega)
  have m4 := h.hp.cm5 4 (by omega)
  have hmv : Hid (∀ s, s < 5 → n s = 0 → mv n mp s = none ∧ H.M s 2 = []) := Lib.hid (fun s h5 h0 => ⟨by unfold mv; rw [if_pos h0], by
    have := h.inv.good s h5
    rw [h0] at this
    exact (good_nil this).2.2.1⟩)
  have hmq : Hid (∀ s, n s ≠ 0 → mv n mp s = some ⟨mp s, 0, none⟩) := Lib.hid (fun s h0 => by unfold mv; rw [if_neg h0])
  have hix := Lib.hid (fun (s : Nat) (hs : s < 5) (w : World) => index_mv (mv n mp) hs w)
  have PC := Lib.hid (fun (s : Nat) (h5 : s < 5) (h1 : n s ≠ 0) (w1 : World) (hb : Below w.heap.size w w1) => KM.count 2 ((h.hp.keep hb).mill s h5 (by omega)) (by omega) (by omega))
  clear h
  generalize mv n mp = v at *
  unfold millsV at hix
  generalize v 0 = v0 at *
  generalize v 1 = v1 at *
  generalize v 2 = v2 at *
  generalize v 3 = v3 at *
  generalize v 4 = v4 at *
  go_enter Tryz.func62, Tryz.ntmps62
  go_wp2
  clear m0 m1 m2 m3 m4
  go_loopw [9] (fun i' wr => ∃ k : Nat, k ≤ 5 ∧ i' = .int .i64 k ∧ Below w.heap.size w wr ∧ ∀ j, j < k → H.M j 2 = []) (fun i' _ => 5 - (intOf i').toNat)
  case atStart => exact ⟨0, by omega, rfl, Below.refl _ _, fun j hj => by omega⟩
  case round =>
    obtain ⟨k, hk, rfl, hb, hem⟩ := hrel
    replace hb := Lib.hid hb
    replace hem := Lib.hid hem
    by_cases hlt : k < 5
    · have hd : decide ((k : Int) < 5) = true := by simp; omega
      have hw1 : IntKind.i64.wrap ((k : Int) + 1) = (k : Int) + 1 := by rw [IntKind.wrap_i64]; omega
      have hx := hix.out k hlt wr
      by_cases h0 : n k = 0
      · obtain ⟨e1, e2⟩ := hmv.out k hlt h0
        rw [e1] at hx
        have hN : Hid (∀ j, j < k + 1 → H.M j 2 = []) := Lib.hid (fun j hj => by
          by_cases e : j = k
          · subst e; exact e2
          · exact hem.out j (by omega))
        clear e1 e2 hem
        go_wp2
        go_roundw
        case rel => exact ⟨k + 1, by omega, by go_num, hb.out, hN.out⟩
        case measure => simp [intOf]; omega
      · have e1 := hmq.out k h0
        rw [e1] at hx
        have P := Lib.hid (PC.out k hlt h0 wr hb.out)
        have er : rowA (H.M k) 2 = H.M k 2 := rfl
        rw [er] at P
        by_cases hz : H.M k 2 = []
        · have hN : Hid (∀ j, j < k + 1 → H.M j 2 = []) := Lib.hid (fun j hj => by
            by_cases e : j = k
            · subst e; exact hz
            · exact hem.out j (by omega))
          rw [hz] at P
          have P' : Hid (Calls Tryz.prog 98 #[.pointer (some ⟨mp k, 0, none⟩), .int .i64 2] wr fun e w' => e = .returned (.int .i64 0) ∧ Below wr.heap.size wr w') := P
          clear P e1 hem hz er
          go_wp2_with (first | (go_at_call 98; ((with_reducible refine (P'.out).mono ?_); rintro e w3 ⟨rfl, hb3⟩; replace hb3 := Lib.hid hb3)))
          have hbN := Lib.hid (hb.out.trans (hb3.out.mono hb.out.size))
          clear hb hb3
          go_roundw
          case rel => exact ⟨k + 1, by omega, by go_num, hbN.out, hN.out⟩
          case measure => simp [intOf]; omega
        · have hl : 0 < (H.M k 2).length := List.length_pos_iff.2 hz
          have d1 : decide (((H.M k 2).length : Int) > 0) = true := by simp; omega
          have d2 : decide (0 < ((H.M k 2).length : Int)) = true := by simp; omega
          have eg := Lib.hid (gryI_some (gry_at hlt hz hem.out))
          clear e1 hem hz er
          generalize (H.M k 2).length = l at *
          go_wp2_with (first | (go_at_call 98; ((with_reducible refine (P.out).mono ?_); rintro e w3 ⟨rfl, hb3⟩; replace hb3 := Lib.hid hb3)))
          go_ret
          rw [eg.out]
          exact ⟨rfl, hb.out.trans (hb3.out.mono hb.out.size)⟩
    · have e : k = 5 := by omega
      subst e
      have eg := Lib.hid (gryI_none (gry_no hem.out))
      go_wp2
      go_ret
      rw [eg.out]
      exact ⟨rfl, hb.out⟩
theorem vdone_c (h : HQ w p n H B mp gw tb mt X) :
    Calls Tryz.prog 34 #[.pointer (some ⟨p, 0, none⟩)] w fun e w' => e = .returned (.bool (doneB H)) ∧ Below w.heap.size w w' := by
  have P := Lib.hid (vgrey_c h)
  rw [gry_done]
  clear h
  generalize gryI H = g at *
  go_enter Tryz.func34, Tryz.ntmps34
  go_wp2_with (first | (go_at_call 62; ((with_reducible refine (P.out).mono ?_); rintro e w1 ⟨rfl, hb⟩; replace hb := Lib.hid hb)))
  go_ret
  exact ⟨rfl, hb.out⟩
end
end Wd
end Go.Proofs.YtdaojohdmidemaaGreat

/- The landed memory: Swap. -/
namespace Go.Proofs.YtdaojohdmidemaaGreat
open Go.RowKit Go.Maps
set_option linter.unusedVariables false
set_option maxRecDepth 20000
namespace Wd
theorem upM_self {M : Nat → Mst} {s : Nat} : upM M s (M s) = M := by
  funext t
  unfold upM
  split
  · rename_i e; rw [e]
  · rfl
theorem shI_idle {H : Hst} {i : Int} (hc : colI H i ≠ 3) : shI H i = H := by
  unfold shI
  split
  · rename_i hh
    unfold colI at hc
    rw [if_pos hh] at hc
    unfold sh shadeA
    unfold colP at hc
    rw [if_neg hc, upM_self]
  · rfl
theorem swT_col {H : Hst} {a b : Int} (hb : swapB H.T a b = true) : colI (swT H a b) a = colI H b ∧ colI (swT H a b) b = colI H a := by
  obtain ⟨x, y, p, q, rfl, rfl, hx, hy, hp, hq, e⟩ := swap_of hb
  have e1 : (swT H x y).T x = some q := by unfold swT; rw [e]; exact swap_x hp hq
  have e2 : (swT H x y).T y = some p := by unfold swT; rw [e]; exact swap_y
  obtain ⟨f1, f2⟩ := atP_at e1 hx
  obtain ⟨f3, f4⟩ := atP_at e2 hy
  obtain ⟨f5, f6⟩ := atP_at hp hx
  obtain ⟨f7, f8⟩ := atP_at hq hy
  constructor
  · unfold colI; rw [if_pos f2, if_pos f8, f1, f7]; rfl
  · unfold colI; rw [if_pos f4, if_pos f6, f3, f5]; rfl
section
variable {w w' w1 w2 : World} {p : Nat} {n : Nat → Nat} {B B1 : Nat → Nat → Prop} {mp gw : Nat → Nat} {tb mt : Nat} {T T' : Tst} {M : Nat → Mst} {X : Nat → Nat → Int} {H H1 H2 : Hst} {i : Int} {s c : Nat} {cl : Int} {L : List Int}
theorem Tn.shade (t : Tn w w1 p n H1 B mp gw tb mt X) (i : Int) (i0 : -9223372036854775808 ≤ i) (i1 : i ≤ 9223372036854775807) :
    Calls Tryz.prog 58 #[.pointer (some ⟨p, 0, none⟩), .int .i64 i] w1 fun e w' => e = .returned (.tuple #[]) ∧ Tn w w' p n (shI H1 i) B mp gw tb mt X := by
  obtain ⟨B', h1, h2, h3⟩ := t
  refine (vshade_c h1 i i0 i1).mono ?_
  rintro e w' ⟨rfl, t2⟩
  exact ⟨rfl, tn_then h2 h3 t2⟩
theorem Tn.shw (t : Tn w w1 p n H1 B mp gw tb mt X) (x : Int) (x0 : 0 ≤ x) (x1 : x ≤ 4294967295) :
    Calls Tryz.prog 53 #[.pointer (some ⟨p, 0, none⟩), .int .u32 x] w1 fun e w' => e = .returned (.tuple #[]) ∧ Tn w w' p n (shW H1 x) B mp gw tb mt X := by
  obtain ⟨B', h1, h2, h3⟩ := t
  refine (vshw_c h1 x x0 x1).mono ?_
  rintro e w' ⟨rfl, t2⟩
  exact ⟨rfl, tn_then h2 h3 t2⟩
theorem HQ.tswap (h : HQ w p n H B mp gw tb mt X) {a b : Int} (hsw : swapB H.T a b = true) {F' : Nat → Prop} (hm : TA w' tb (swapT H.T a b) F') (hc : Ch (B 2) w w') (hN : Newer (B 2) F' w.heap.size) :
    Tn w w' p n (swT H a b) B mp gw tb mt X := by
  obtain ⟨a1, a2, a3⟩ := h.hp.tstep hm hc hN
  refine ⟨_, ⟨a1, h.wr.ids (fun k q hk => ?_), h.inv.swT hsw⟩, a2, a3⟩
  obtain ⟨x, y, p, q', rfl, rfl, hx, hy, hp, hq, e⟩ := swap_of hsw
  have hk' : swapT H.T x y k = some q := hk
  rw [e, swap_val hp hq] at hk'
  split at hk'
  · exact ⟨x, by rw [hp]; exact hk'⟩
  · split at hk'
    · exact ⟨y, by rw [hq]; exact hk'⟩
    · exact ⟨k, hk'⟩
set_option maxHeartbeats 4000000 in
theorem vswap_c (h : HQ w p n H B mp gw tb mt X) (a b : Int) (a0 : -9223372036854775808 ≤ a) (a1 : a ≤ 9223372036854775807) (b0 : -9223372036854775808 ≤ b) (b1 : b ≤ 9223372036854775807) :
    Calls Tryz.prog 17 #[.pointer (some ⟨p, 0, none⟩), .int .i64 a, .int .i64 b] w fun e w' => e = .returned (.bool (swapB H.T a b)) ∧ Tn w w' p n (swapH H a b) B mp gw tb mt X := by
  have P1 := Lib.hid (vcolor_c h a a0 a1)
  have P2 := Lib.hid (fun (w1 : World) (hb : Below w.heap.size w w1) => vcolor_c (h.keep hb) b b0 b1)
  have P3 := Lib.hid (fun (w1 : World) (hb : Below w.heap.size w w1) => KT.swap a b (h.keep hb).hp.tbl a0 a1 b0 b1)
  have hct := Lib.hid (fun (w1 : World) (hb : Below w.heap.size w w1) => (h.keep hb).hp.ct)
  cases hsw : swapB H.T a b with
  | false =>
    have e : swapH H a b = H := by unfold swapH; rw [hsw]; rfl
    have eT : swapT H.T a b = H.T := by unfold swapT; rw [hsw]; rfl
    rw [e]
    rw [hsw, eT] at P3
    have hfin : Hid (∀ w1 w2 F', Below w.heap.size w w1 → TA w2 tb H.T F' → Ch (B 2) w1 w2 → Newer (B 2) F' w1.heap.size → Tn w w2 p n H B mp gw tb mt X) := Lib.hid (fun w1 w2 F' hb d1 d2 d3 => by
      obtain ⟨a1, a2, a3⟩ := (h.keep hb).hp.tstep d1 d2 d3
      exact Tn.pre hb ⟨_, ⟨a1, h.wr, h.inv⟩, a2, a3⟩)
    clear e eT hsw h
    generalize colI H a = ca at *
    generalize colI H b = cb at *
    go_enter Tryz.func17, Tryz.ntmps17
    go_wp2_with (first | (go_at_call 36; ((with_reducible refine (P1.out).mono ?_); rintro e w1 ⟨rfl, hb1⟩; replace hb1 := Lib.hid hb1)) | (go_at_call 36; ((with_reducible refine (P2.out _ hb1.out).mono ?_); rintro e w2 ⟨rfl, hb2⟩; have hb12 := Lib.hid (hb1.out.trans (hb2.mono hb1.out.size)); have ct := hct.out _ hb12.out; clear hb2)) | (go_at_call 57; ((with_reducible refine (P3.out _ hb12.out).mono ?_); rintro e w3 ⟨F', he, d1, d2, d3⟩; subst he; have hT := Lib.hid (hfin.out _ _ _ hb12.out d1 d2 d3); clear d1 d2 d3)))
    go_ret
    exact ⟨rfl, hT.out⟩
  | true =>
    rw [hsw] at P3
    obtain ⟨e1, e2⟩ := swT_col hsw
    have hfin : Hid (∀ w1 w2 F', Below w.heap.size w w1 → TA w2 tb (swapT H.T a b) F' → Ch (B 2) w1 w2 → Newer (B 2) F' w1.heap.size → Tn w w2 p n (swT H a b) B mp gw tb mt X) := Lib.hid (fun w1 w2 F' hb d1 d2 d3 => Tn.pre hb ((h.keep hb).tswap hsw d1 d2 d3))
    have hdk := Dk.shI (h.inv.swT hsw) a
    have hcolb : colI H a ≠ 3 → colI (shI (swT H a b) a) b ≠ 3 := fun hne => by
      obtain ⟨x, y, p, q, rfl, rfl, hx, hy, hp, hq, e⟩ := swap_of hsw
      have f2 : (swT H x y).T y = some p := by unfold swT; rw [e]; exact swap_y
      have g2 : (shI (swT H x y) x).T y = some p := by rw [hdk.t]; exact f2
      obtain ⟨c1, c2⟩ := atP_at f2 hy
      obtain ⟨c3, c4⟩ := atP_at g2 hy
      have hne' : colP (swT H x y) p ≠ 3 := by
        rw [← e2] at hne
        unfold colI at hne
        rw [if_pos c2, c1] at hne
        exact hne
      have okp := (h.inv.swT hsw).okP f2
      unfold colI
      rw [if_pos c4, c3]
      rcases hdk.col p okp with d | d
      · rw [d]; exact hne'
      · exact absurd d.1 hne'
    have key : swapH H a b = (if colI H a = 3 then (if colI H b = 3 then swT H a b else shI (swT H a b) b) else (if colI H b = 3 then shI (swT H a b) a else shI (shI (swT H a b) a) b)) := by
      unfold swapH
      rw [if_pos hsw]
      by_cases ha : colI H a = 3
      · by_cases hb : colI H b = 3
        · have : swN H a b = false := by unfold swN; rw [ha, hb]; rfl
          rw [this, if_pos ha, if_pos hb]; rfl
        · have : swN H a b = true := by unfold swN; simp [ha, hb]
          rw [this, if_pos ha, if_neg hb, if_pos rfl, shI_idle (i := a) (by rw [e1]; exact hb)]
      · by_cases hb : colI H b = 3
        · have : swN H a b = true := by unfold swN; simp [ha, hb]
          rw [this, if_neg ha, if_pos hb, if_pos rfl, shI_idle (i := b) (hcolb ha)]
        · have : swN H a b = false := by unfold swN; simp [ha, hb]
          rw [this, if_neg ha, if_neg hb, shI_idle (i := b) (hcolb ha), shI_idle (i := a) (by rw [e1]; exact hb)]; rfl
    rw [key]
    clear key hcolb hdk e1 e2 hsw h
    generalize swT H a b = S at *
    generalize swapT H.T a b = TS at *
    generalize colI H a = ca at *
    generalize colI H b = cb at *
    by_cases ha : ca = 3 <;> by_cases hb : cb = 3
    · rw [if_pos ha, if_pos hb]
      have q1 : (ca != 3) = false := by simp [ha]
      have q2 : (cb != 3) = false := by simp [hb]
      clear ha hb
      go_enter Tryz.func17, Tryz.ntmps17
      go_wp2_with (first | (go_at_call 36; ((with_reducible refine (P1.out).mono ?_); rintro e w1 ⟨rfl, hb1⟩; replace hb1 := Lib.hid hb1)) | (go_at_call 36; ((with_reducible refine (P2.out _ hb1.out).mono ?_); rintro e w2 ⟨rfl, hb2⟩; have hb12 := Lib.hid (hb1.out.trans (hb2.mono hb1.out.size)); have ct := hct.out _ hb12.out; clear hb2)) | (go_at_call 57; ((with_reducible refine (P3.out _ hb12.out).mono ?_); rintro e w3 ⟨F', he, d1, d2, d3⟩; subst he; have hT := Lib.hid (hfin.out _ _ _ hb12.out d1 d2 d3); clear d1 d2 d3)))
      go_ret
      exact ⟨rfl, hT.out⟩
    · rw [if_pos ha, if_neg hb]
      have q1 : (ca != 3) = false := by simp [ha]
      have q2 : (cb != 3) = true := by simp [hb]
      clear ha hb
      go_enter Tryz.func17, Tryz.ntmps17
      go_wp2_with (first | (go_at_call 36; ((with_reducible refine (P1.out).mono ?_); rintro e w1 ⟨rfl, hb1⟩; replace hb1 := Lib.hid hb1)) | (go_at_call 36; ((with_reducible refine (P2.out _ hb1.out).mono ?_); rintro e w2 ⟨rfl, hb2⟩; have hb12 := Lib.hid (hb1.out.trans (hb2.mono hb1.out.size)); have ct := hct.out _ hb12.out; clear hb2)) | (go_at_call 57; ((with_reducible refine (P3.out _ hb12.out).mono ?_); rintro e w3 ⟨F', he, d1, d2, d3⟩; subst he; have hT := Lib.hid (hfin.out _ _ _ hb12.out d1 d2 d3); clear d1 d2 d3)) | (go_at_call 58; ((with_reducible refine (hT.out.shade _ ?_ ?_).mono ?_); (with_reducible assumption); (with_reducible assumption); rintro e w4 ⟨rfl, hT4⟩; replace hT4 := Lib.hid hT4)))
      go_ret
      exact ⟨rfl, hT4.out⟩
    · rw [if_neg ha, if_pos hb]
      have q1 : (ca != 3) = true := by simp [ha]
      have q2 : (cb != 3) = false := by simp [hb]
      clear ha hb
      go_enter Tryz.func17, Tryz.ntmps17
      go_wp2_with (first | (go_at_call 36; ((with_reducible refine (P1.out).mono ?_); rintro e w1 ⟨rfl, hb1⟩; replace hb1 := Lib.hid hb1)) | (go_at_call 36; ((with_reducible refine (P2.out _ hb1.out).mono ?_); rintro e w2 ⟨rfl, hb2⟩; have hb12 := Lib.hid (hb1.out.trans (hb2.mono hb1.out.size)); have ct := hct.out _ hb12.out; clear hb2)) | (go_at_call 57; ((with_reducible refine (P3.out _ hb12.out).mono ?_); rintro e w3 ⟨F', he, d1, d2, d3⟩; subst he; have hT := Lib.hid (hfin.out _ _ _ hb12.out d1 d2 d3); clear d1 d2 d3)) | (go_at_call 58; ((with_reducible refine (hT.out.shade _ ?_ ?_).mono ?_); (with_reducible assumption); (with_reducible assumption); rintro e w4 ⟨rfl, hT4⟩; replace hT4 := Lib.hid hT4)))
      go_ret
      exact ⟨rfl, hT4.out⟩
    · rw [if_neg ha, if_neg hb]
      have q1 : (ca != 3) = true := by simp [ha]
      have q2 : (cb != 3) = true := by simp [hb]
      clear ha hb
      go_enter Tryz.func17, Tryz.ntmps17
      go_wp2_with (first | (go_at_call 36; ((with_reducible refine (P1.out).mono ?_); rintro e w1 ⟨rfl, hb1⟩; replace hb1 := Lib.hid hb1)) | (go_at_call 36; ((with_reducible refine (P2.out _ hb1.out).mono ?_); rintro e w2 ⟨rfl, hb2⟩; have hb12 := Lib.hid (hb1.out.trans (hb2.mono hb1.out.size)); have ct := hct.out _ hb12.out; clear hb2)) | (go_at_call 57; ((with_reducible refine (P3.out _ hb12.out).mono ?_); rintro e w3 ⟨F', he, d1, d2, d3⟩; subst he; have hT := Lib.hid (hfin.out _ _ _ hb12.out d1 d2 d3); clear d1 d2 d3)) | (go_at_call 58; ((with_reducible refine (hT4.out.shade _ ?_ ?_).mono ?_); (with_reducible assumption); (with_reducible assumption); rintro e w5 ⟨rfl, hT5⟩; replace hT5 := Lib.hid hT5)) | (go_at_call 58; ((with_reducible refine (hT.out.shade _ ?_ ?_).mono ?_); (with_reducible assumption); (with_reducible assumption); rintro e w4 ⟨rfl, hT4⟩; replace hT4 := Lib.hid hT4)))
      go_ret
      exact ⟨rfl, hT5.out⟩
end
end Wd
end Go.Proofs.YtdaojohdmidemaaGreat
