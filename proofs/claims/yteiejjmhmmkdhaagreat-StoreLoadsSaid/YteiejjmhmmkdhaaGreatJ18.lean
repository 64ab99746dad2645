/- Texts joined: CRight, VBase, VLeaf, VCell, VField, VRead, ESame, EPlay, EKnown0, EKnown, ESw0, EFg0, EFi0, EK0, VShade, VGrey, VSwap, VScan, VFlip. -/
import Derived.Test.YteiejjmhmmkdhaaGreatRows
import Derived.Test.YteiejjmhmmkdhaaGreatJ8
import Derived.Test.YteiejjmhmmkdhaaGreatJ15
import Derived.Test.YteiejjmhmmkdhaaGreatJ16
import Derived.Test.YteiejjmhmmkdhaaGreatJ17
import Derived.WalkKit
import Derived.WalkSpells
import Derived.WalkLawsBesides
import Derived.Handy
import Derived.Lib.Hide
import Derived.BigQuiet
import Derived.LoopN
import Derived.StillTailTactics
import Derived.Deep.RegionHeld3
import Derived.BigRegion
/- What each function of the package fit, and of the document's own answer, returns. -/
namespace Go.Proofs.YteiejjmhmmkdhaaGreat
open Go.RowKit
set_option linter.unusedVariables false
namespace Wd
set_option maxHeartbeats 16000000 in
set_option maxRecDepth 100000 in
theorem right9_c (a b c d e p : Int) (ha : -9223372036854775808 ≤ a) (ha' : a ≤ 9223372036854775807) (hb : -9223372036854775808 ≤ b) (hb' : b ≤ 9223372036854775807) (hc : -9223372036854775808 ≤ c) (hc' : c ≤ 9223372036854775807) (hd : -9223372036854775808 ≤ d) (hd' : d ≤ 9223372036854775807) (he : -9223372036854775808 ≤ e) (he' : e ≤ 9223372036854775807) (hp : -9223372036854775808 ≤ p) (hp' : p ≤ 9223372036854775807) (w : World) :
    Calls Tryz.prog 48 #[.agg #[.int .i64 a, .int .i64 b, .int .i64 c, .int .i64 d, .int .i64 e, .int .i64 p]] w fun r w' => r = .returned (.int .i64 (rt a b c d e p)) ∧ w' = w.alloc (.cells #[.int .i64 a, .int .i64 b, .int .i64 c, .int .i64 d, .int .i64 e, .int .i64 p] 61) := by
  have i0 : ∀ w : World, (Instr.index 59 (.agg #[.int .i64 a, .int .i64 b, .int .i64 c, .int .i64 d, .int .i64 e]) (.int .i64 0)).run Tryz.prog w = .ok (.int .i64 a) w := fun _ => by kernel_rfl
  have i1 : ∀ w : World, (Instr.index 59 (.agg #[.int .i64 a, .int .i64 b, .int .i64 c, .int .i64 d, .int .i64 e]) (.int .i64 1)).run Tryz.prog w = .ok (.int .i64 b) w := fun _ => by kernel_rfl
  have i2 : ∀ w : World, (Instr.index 59 (.agg #[.int .i64 a, .int .i64 b, .int .i64 c, .int .i64 d, .int .i64 e]) (.int .i64 2)).run Tryz.prog w = .ok (.int .i64 c) w := fun _ => by kernel_rfl
  have i3 : ∀ w : World, (Instr.index 59 (.agg #[.int .i64 a, .int .i64 b, .int .i64 c, .int .i64 d, .int .i64 e]) (.int .i64 3)).run Tryz.prog w = .ok (.int .i64 d) w := fun _ => by kernel_rfl
  have i4 : ∀ w : World, (Instr.index 59 (.agg #[.int .i64 a, .int .i64 b, .int .i64 c, .int .i64 d, .int .i64 e]) (.int .i64 4)).run Tryz.prog w = .ok (.int .i64 e) w := fun _ => by kernel_rfl
  rcases rt_cases a b c d e p with ⟨h, q⟩ | ⟨⟨a0, a1, b0, b1, c0, c1, d0, d1, e0, e1, s0, s1⟩, ⟨h, q⟩ | ⟨p0, p1, q⟩⟩
  · rw [q]; clear q
    rcases h with (h | h) | (⟨a0, a1, h | h⟩) | (⟨a0, a1, b0, b1, h | h⟩) | (⟨a0, a1, b0, b1, c0, c1, h | h⟩) | (⟨a0, a1, b0, b1, c0, c1, d0, d1, h | h⟩) | (⟨a0, a1, b0, b1, c0, c1, d0, d1, e0, e1, h | h⟩)
    · go_enter Tryz.func48, Tryz.ntmps48
      go_wp2
      refine wp_loop_rounds 1 ?_
      rw [rounds_succ]
      go_wp2
      go_ret
      exact ⟨rfl, rfl⟩
    · go_enter Tryz.func48, Tryz.ntmps48
      go_wp2
      refine wp_loop_rounds 1 ?_
      rw [rounds_succ]
      go_wp2
      go_ret
      exact ⟨rfl, rfl⟩
    · go_enter Tryz.func48, Tryz.ntmps48
      go_wp2
      refine wp_loop_rounds 2 ?_
      rw [rounds_succ]
      go_wp2
      rw [rounds_succ]
      go_wp2
      go_ret
      exact ⟨rfl, rfl⟩
    · go_enter Tryz.func48, Tryz.ntmps48
      go_wp2
      refine wp_loop_rounds 2 ?_
      rw [rounds_succ]
      go_wp2
      rw [rounds_succ]
      go_wp2
      go_ret
      exact ⟨rfl, rfl⟩
    · go_enter Tryz.func48, Tryz.ntmps48
      go_wp2
      refine wp_loop_rounds 3 ?_
      rw [rounds_succ]
      go_wp2
      rw [rounds_succ]
      go_wp2
      rw [rounds_succ]
      go_wp2
      go_ret
      exact ⟨rfl, rfl⟩
    · go_enter Tryz.func48, Tryz.ntmps48
      go_wp2
      refine wp_loop_rounds 3 ?_
      rw [rounds_succ]
      go_wp2
      rw [rounds_succ]
      go_wp2
      rw [rounds_succ]
      go_wp2
      go_ret
      exact ⟨rfl, rfl⟩
    · go_enter Tryz.func48, Tryz.ntmps48
      go_wp2
      refine wp_loop_rounds 4 ?_
      rw [rounds_succ]
      go_wp2
      rw [rounds_succ]
      go_wp2
      rw [rounds_succ]
      go_wp2
      rw [rounds_succ]
      go_wp2
      go_ret
      exact ⟨rfl, rfl⟩
    · go_enter Tryz.func48, Tryz.ntmps48
      go_wp2
      refine wp_loop_rounds 4 ?_
      rw [rounds_succ]
      go_wp2
      rw [rounds_succ]
      go_wp2
      rw [rounds_succ]
      go_wp2
      rw [rounds_succ]
      go_wp2
      go_ret
      exact ⟨rfl, rfl⟩
    · go_enter Tryz.func48, Tryz.ntmps48
      go_wp2
      refine wp_loop_rounds 5 ?_
      rw [rounds_succ]
      go_wp2
      rw [rounds_succ]
      go_wp2
      rw [rounds_succ]
      go_wp2
      rw [rounds_succ]
      go_wp2
      rw [rounds_succ]
      go_wp2
      go_ret
      exact ⟨rfl, rfl⟩
    · go_enter Tryz.func48, Tryz.ntmps48
      go_wp2
      refine wp_loop_rounds 5 ?_
      rw [rounds_succ]
      go_wp2
      rw [rounds_succ]
      go_wp2
      rw [rounds_succ]
      go_wp2
      rw [rounds_succ]
      go_wp2
      rw [rounds_succ]
      go_wp2
      go_ret
      exact ⟨rfl, rfl⟩
    · go_enter Tryz.func48, Tryz.ntmps48
      go_wp2
      refine wp_loop_rounds 6 ?_
      rw [rounds_succ]
      go_wp2
      rw [rounds_succ]
      go_wp2
      rw [rounds_succ]
      go_wp2
      rw [rounds_succ]
      go_wp2
      rw [rounds_succ]
      go_wp2
      rw [rounds_succ]
      go_wp2
      go_ret
      exact ⟨rfl, rfl⟩
    · go_enter Tryz.func48, Tryz.ntmps48
      go_wp2
      refine wp_loop_rounds 6 ?_
      rw [rounds_succ]
      go_wp2
      rw [rounds_succ]
      go_wp2
      rw [rounds_succ]
      go_wp2
      rw [rounds_succ]
      go_wp2
      rw [rounds_succ]
      go_wp2
      rw [rounds_succ]
      go_wp2
      go_ret
      exact ⟨rfl, rfl⟩
  · rw [q]; clear q
    rcases h with h | h
    · go_enter Tryz.func48, Tryz.ntmps48
      go_wp2
      refine wp_loop_rounds 6 ?_
      rw [rounds_succ]
      go_wp2
      rw [rounds_succ]
      go_wp2
      rw [rounds_succ]
      go_wp2
      rw [rounds_succ]
      go_wp2
      rw [rounds_succ]
      go_wp2
      rw [rounds_succ]
      go_wp2
      go_ret
      exact ⟨rfl, rfl⟩
    · go_enter Tryz.func48, Tryz.ntmps48
      go_wp2
      refine wp_loop_rounds 6 ?_
      rw [rounds_succ]
      go_wp2
      rw [rounds_succ]
      go_wp2
      rw [rounds_succ]
      go_wp2
      rw [rounds_succ]
      go_wp2
      rw [rounds_succ]
      go_wp2
      rw [rounds_succ]
      go_wp2
      go_ret
      exact ⟨rfl, rfl⟩
  · rw [q]; clear q
    go_enter Tryz.func48, Tryz.ntmps48
    go_wp2
    refine wp_loop_rounds 6 ?_
    rw [rounds_succ]
    go_wp2
    rw [rounds_succ]
    go_wp2
    rw [rounds_succ]
    go_wp2
    rw [rounds_succ]
    go_wp2
    rw [rounds_succ]
    go_wp2
    rw [rounds_succ]
    go_wp2
    go_ret
    exact ⟨rfl, rfl⟩
end Wd
end Go.Proofs.YteiejjmhmmkdhaaGreat

/- The landed memory, as it lies; what a call of one of its parts leaves. -/
namespace Go.Proofs.YteiejjmhmmkdhaaGreat
open Go.RowKit Go.Maps
set_option linter.unusedVariables false
set_option maxRecDepth 20000
namespace Wd
/-- words of a cell -/
def wN (s : Nat) : Nat := 4 * 2 ^ s
theorem wd_wN {s : Nat} (hs : s < 5) : wd (s : Int) = (wN s : Nat) := by
  rcases (show s = 0 ∨ s = 1 ∨ s = 2 ∨ s = 3 ∨ s = 4 by omega) with rfl | rfl | rfl | rfl | rfl <;> rfl
theorem wN_bd {s : Nat} (hs : s < 5) : 4 ≤ wN s ∧ wN s ≤ 64 := by
  rcases (show s = 0 ∨ s = 1 ∨ s = 2 ∨ s = 3 ∨ s = 4 by omega) with rfl | rfl | rfl | rfl | rfl <;> decide
/-- a meter -/
structure Mt (w : World) (m : Nat) : Prop where
  ex : ∃ a b : Int, w.cell? ⟨m, 0, none⟩ = some (.int .i64 a) ∧ w.cell? ⟨m, 1, none⟩ = some (.int .i64 b) ∧ (0 ≤ a ∧ a ≤ 1152921504606846976) ∧ (0 ≤ b ∧ b ≤ 1152921504606846976)
  z : ∀ k, w.frozen? ⟨m, k, none⟩ = false
theorem Mt.same {w w' : World} {m : Nat} (h : Mt w m) (hb : w'.heap[m]? = w.heap[m]?) : Mt w' m := by
  obtain ⟨⟨a, b, h1, h2, h3⟩, z⟩ := h
  exact ⟨⟨a, b, (World.cell?_of_block (a := ⟨m, 0, none⟩) hb).trans h1, (World.cell?_of_block (a := ⟨m, 1, none⟩) hb).trans h2, h3⟩, fun k => (World.frozen?_of_block (a := ⟨m, k, none⟩) hb).trans (z k)⟩
/-- the blocks of a part are others from now on -/
def upB (B : Nat → Nat → Prop) (i : Nat) (F : Nat → Prop) : Nat → Nat → Prop := fun j => if j = i then F else B j
/-- all blocks -/
def un (B : Nat → Nat → Prop) : Nat → Prop := fun k => ∃ i, B i k
def upX (X : Nat → Nat → Int) (s k : Nat) (v : Int) : Nat → Nat → Int := fun t j => if t = s ∧ j = k then v else X t j
theorem upX_same {X : Nat → Nat → Int} {s k : Nat} {v : Int} : upX X s k v s k = v := by unfold upX; rw [if_pos ⟨rfl, rfl⟩]
theorem upX_ne {X : Nat → Nat → Int} {s k t j : Nat} {v : Int} (h : ¬ (t = s ∧ j = k)) : upX X s k v t j = X t j := by unfold upX; rw [if_neg h]
theorem upB_ap {B : Nat → Nat → Prop} {N i0 : Nat} {F' : Nat → Prop} (ap : ∀ i j k, B i k → B j k → i = j) (lt : ∀ i k, B i k → k < N) (hn : Newer9 (B i0) F' N) : ∀ i j k, upB B i0 F' i k → upB B i0 F' j k → i = j := by
  intro i j k h1 h2
  unfold upB at h1 h2
  split at h1
  · rename_i e
    split at h2
    · rename_i e2; omega
    · rcases hn k h1 with h3 | h3
      · rw [e]; exact ap _ _ k h3 h2
      · have := lt _ _ h2; omega
  · split at h2
    · rename_i e2
      rcases hn k h2 with h3 | h3
      · rw [e2]; exact ap _ _ k h1 h3
      · have := lt _ _ h1; omega
    · exact ap _ _ k h1 h2
theorem upB_lt {B : Nat → Nat → Prop} {N N' i0 : Nat} {F' : Nat → Prop} (lt : ∀ i k, B i k → k < N) (hN : N ≤ N') (hF : ∀ k, F' k → k < N') : ∀ i k, upB B i0 F' i k → k < N' := by
  intro i k h
  unfold upB at h
  split at h
  · exact hF k h
  · exact Nat.lt_of_lt_of_le (lt i k h) hN
theorem upB_newer {B : Nat → Nat → Prop} {N i0 : Nat} {F' : Nat → Prop} (hn : Newer9 (B i0) F' N) : Newer9 (un B) (un (upB B i0 F')) N := by
  rintro k ⟨i, h⟩
  unfold upB at h
  split at h
  · rcases hn k h with h3 | h3
    · exact Or.inl ⟨_, h3⟩
    · exact Or.inr h3
  · exact Or.inl ⟨_, h⟩
/-- the landed memory at block p: its parts lie in the blocks B i (0 itself, 1 its meter, 2 its table, 3 and on its mills, 8 and on its rows of words); the words are X -/
structure HP (w : World) (p : Nat) (n : Nat → Nat) (B : Nat → Nat → Prop) (mp gw : Nat → Nat) (tb mt : Nat) (T : Tst) (M : Nat → Mst) (X : Nat → Nat → Int) : Prop where
  cm : ∀ s, s < 5 → w.cell? ⟨p, s, none⟩ = some (.pointer (if n s = 0 then none else some ⟨mp s, 0, none⟩))
  cw : ∀ s, s < 5 → 1 ≤ n s → w.cell? ⟨p, 5 + s, none⟩ = some (.slice (some ⟨gw s, 0, none⟩) (n s * wN s) (n s * wN s))
  ct : w.cell? ⟨p, 10, none⟩ = some (.pointer (some ⟨tb, 0, none⟩))
  cc : w.cell? ⟨p, 11, none⟩ = some (.pointer (some ⟨mt, 0, none⟩))
  bp : B 0 p
  bm : B 1 mt
  bg : ∀ s, s < 5 → 1 ≤ n s → B (8 + s) (gw s)
  mill : ∀ s, s < 5 → 1 ≤ n s → MA w (mp s) (n s) (M s) (B (3 + s))
  tbl : TA w tb T (B 2)
  met : Mt w mt
  row : ∀ s, s < 5 → ∀ k, k < n s * wN s → w.cell? ⟨gw s, k, none⟩ = some (.int .u32 (X s k))
  zg : ∀ s, s < 5 → 1 ≤ n s → ∀ k, w.frozen? ⟨gw s, k, none⟩ = false
  xb : ∀ s k, 0 ≤ X s k ∧ X s k ≤ 4294967295
  ap : ∀ i j k, B i k → B j k → i = j
  lt : ∀ i k, B i k → k < w.heap.size
section
variable {w w' : World} {p : Nat} {n : Nat → Nat} {B : Nat → Nat → Prop} {mp gw : Nat → Nat} {tb mt : Nat} {T : Tst} {M : Nat → Mst} {X : Nat → Nat → Int}
theorem n_pos {a k b : Nat} (h : k < a * b) : 1 ≤ a := by
  rcases Nat.eq_zero_or_pos a with h0 | h0
  · subst h0; simp at h
  · exact h0
theorem HP.same (h : HP w p n B mp gw tb mt T M X) (hs : w.heap.size ≤ w'.heap.size) (hk : ∀ k, un B k → w'.heap[k]? = w.heap[k]?) : HP w' p n B mp gw tb mt T M X := by
  have e0 := hk p ⟨_, h.bp⟩
  refine ⟨fun s h1 => (World.cell?_of_block (a := ⟨p, s, none⟩) e0).trans (h.cm s h1), fun s h1 h2 => (World.cell?_of_block (a := ⟨p, 5 + s, none⟩) e0).trans (h.cw s h1 h2), (World.cell?_of_block (a := ⟨p, 10, none⟩) e0).trans h.ct, (World.cell?_of_block (a := ⟨p, 11, none⟩) e0).trans h.cc, h.bp, h.bm, h.bg,
    fun s h1 h2 => KM.keep (h.mill s h1 h2) (fun k hb => hk k ⟨_, hb⟩), KT.keep h.tbl (fun k hb => hk k ⟨_, hb⟩), h.met.same (hk mt ⟨_, h.bm⟩), fun s h1 k h2 => ?_, fun s h1 h2 k => ?_, h.xb, h.ap, fun i k hb => Nat.lt_of_lt_of_le (h.lt i k hb) hs⟩
  · exact (World.cell?_of_block (a := ⟨gw s, k, none⟩) (hk (gw s) ⟨_, h.bg s h1 (n_pos h2)⟩)).trans (h.row s h1 k h2)
  · exact (World.frozen?_of_block (a := ⟨gw s, k, none⟩) (hk (gw s) ⟨_, h.bg s h1 h2⟩)).trans (h.zg s h1 h2 k)
theorem HP.ltu (h : HP w p n B mp gw tb mt T M X) : ∀ k, un B k → k < w.heap.size := fun k ⟨i, hb⟩ => h.lt i k hb
theorem HP.keep (h : HP w p n B mp gw tb mt T M X) (g : Below w.heap.size w w') : HP w' p n B mp gw tb mt T M X := h.same g.size (fun k hk => g.block k (h.ltu k hk))
/-- the others lie as they lay -/
theorem HP.oth (h : HP w p n B mp gw tb mt T M X) {i : Nat} {G : Nat → Prop} (hc : Ch9 G w w') (hG : ∀ k, G k → B i k) {j k : Nat} (hb : B j k) (hne : j ≠ i) : w'.heap[k]? = w.heap[k]? :=
  hc.block k (h.lt _ _ hb) (fun hg => hne (h.ap _ _ k hb (hG k hg)))
theorem HP.mstep (h : HP w p n B mp gw tb mt T M X) {s : Nat} (hs : s < 5) (hn : 1 ≤ n s) {A' : Mst} {F' : Nat → Prop} (hm : MA w' (mp s) (n s) A' F') (hc : Ch9 (B (3 + s)) w w') (hN : Newer9 (B (3 + s)) F' w.heap.size) :
    HP w' p n (upB B (3 + s) F') mp gw tb mt T (upM M s A') X ∧ Ch9 (un B) w w' ∧ Newer9 (un B) (un (upB B (3 + s) F')) w.heap.size := by
  have o := fun {j k : Nat} (hb : B j k) (hne : j ≠ 3 + s) => h.oth hc (i := 3 + s) (fun k hk => hk) hb hne
  have e0 := o h.bp (by omega)
  have ne : ∀ {j : Nat}, j ≠ 3 + s → upB B (3 + s) F' j = B j := fun hne => by unfold upB; rw [if_neg hne]
  refine ⟨⟨fun s h1 => (World.cell?_of_block (a := ⟨p, s, none⟩) e0).trans (h.cm s h1), fun s h1 h2 => (World.cell?_of_block (a := ⟨p, 5 + s, none⟩) e0).trans (h.cw s h1 h2), (World.cell?_of_block (a := ⟨p, 10, none⟩) e0).trans h.ct, (World.cell?_of_block (a := ⟨p, 11, none⟩) e0).trans h.cc, ?_, ?_, fun t h1 h2 => ?_,
    fun t h1 h2 => ?_, ?_, h.met.same (o h.bm (by omega)), fun t h1 k h2 => ?_, fun t h1 h2 k => ?_, h.xb, upB_ap h.ap h.lt hN, upB_lt h.lt hc.size (KM.lt hm)⟩, hc.mono (fun k hk => ⟨_, hk⟩), upB_newer hN⟩
  · rw [ne (by omega)]; exact h.bp
  · rw [ne (by omega)]; exact h.bm
  · rw [ne (by omega)]; exact h.bg t h1 h2
  · unfold upM
    by_cases e : t = s
    · subst e; rw [if_pos rfl]; unfold upB; rw [if_pos rfl]; exact hm
    · rw [if_neg e, ne (by omega)]
      exact KM.keep (h.mill t h1 h2) (fun k hb => o hb (by omega))
  · rw [ne (by omega)]
    exact KT.keep h.tbl (fun k hb => o hb (by omega))
  · exact (World.cell?_of_block (a := ⟨gw t, k, none⟩) (o (h.bg t h1 (n_pos h2)) (by omega))).trans (h.row t h1 k h2)
  · exact (World.frozen?_of_block (a := ⟨gw t, k, none⟩) (o (h.bg t h1 h2) (by omega))).trans (h.zg t h1 h2 k)
theorem HP.tstep (h : HP w p n B mp gw tb mt T M X) {T' : Tst} {F' : Nat → Prop} (hm : TA w' tb T' F') (hc : Ch9 (B 2) w w') (hN : Newer9 (B 2) F' w.heap.size) :
    HP w' p n (upB B 2 F') mp gw tb mt T' M X ∧ Ch9 (un B) w w' ∧ Newer9 (un B) (un (upB B 2 F')) w.heap.size := by
  have o := fun {j k : Nat} (hb : B j k) (hne : j ≠ 2) => h.oth hc (i := 2) (fun k hk => hk) hb hne
  have e0 := o h.bp (by omega)
  have ne : ∀ {j : Nat}, j ≠ 2 → upB B 2 F' j = B j := fun hne => by unfold upB; rw [if_neg hne]
  refine ⟨⟨fun s h1 => (World.cell?_of_block (a := ⟨p, s, none⟩) e0).trans (h.cm s h1), fun s h1 h2 => (World.cell?_of_block (a := ⟨p, 5 + s, none⟩) e0).trans (h.cw s h1 h2), (World.cell?_of_block (a := ⟨p, 10, none⟩) e0).trans h.ct, (World.cell?_of_block (a := ⟨p, 11, none⟩) e0).trans h.cc, ?_, ?_, fun t h1 h2 => ?_,
    fun t h1 h2 => ?_, ?_, h.met.same (o h.bm (by omega)), fun t h1 k h2 => ?_, fun t h1 h2 k => ?_, h.xb, upB_ap h.ap h.lt hN, upB_lt h.lt hc.size (KT.lt hm)⟩, hc.mono (fun k hk => ⟨_, hk⟩), upB_newer hN⟩
  · rw [ne (by omega)]; exact h.bp
  · rw [ne (by omega)]; exact h.bm
  · rw [ne (by omega)]; exact h.bg t h1 h2
  · rw [ne (by omega)]
    exact KM.keep (h.mill t h1 h2) (fun k hb => o hb (by omega))
  · unfold upB; rw [if_pos rfl]; exact hm
  · exact (World.cell?_of_block (a := ⟨gw t, k, none⟩) (o (h.bg t h1 (n_pos h2)) (by omega))).trans (h.row t h1 k h2)
  · exact (World.frozen?_of_block (a := ⟨gw t, k, none⟩) (o (h.bg t h1 h2) (by omega))).trans (h.zg t h1 h2 k)
/-- the meter counts -/
theorem HP.cstep (h : HP w p n B mp gw tb mt T M X) (hm : Mt w' mt) (hc : Ch9 (fun k => k = mt) w w') : HP w' p n B mp gw tb mt T M X ∧ Ch9 (un B) w w' := by
  have o := fun {j k : Nat} (hb : B j k) (hne : j ≠ 1) => h.oth hc (i := 1) (fun k hk => by subst hk; exact h.bm) hb hne
  have e0 := o h.bp (by omega)
  exact ⟨⟨fun s h1 => (World.cell?_of_block (a := ⟨p, s, none⟩) e0).trans (h.cm s h1), fun s h1 h2 => (World.cell?_of_block (a := ⟨p, 5 + s, none⟩) e0).trans (h.cw s h1 h2), (World.cell?_of_block (a := ⟨p, 10, none⟩) e0).trans h.ct, (World.cell?_of_block (a := ⟨p, 11, none⟩) e0).trans h.cc, h.bp, h.bm, h.bg,
    fun t h1 h2 => KM.keep (h.mill t h1 h2) (fun k hb => o hb (by omega)), KT.keep h.tbl (fun k hb => o hb (by omega)), hm,
    fun t h1 k h2 => (World.cell?_of_block (a := ⟨gw t, k, none⟩) (o (h.bg t h1 (n_pos h2)) (by omega))).trans (h.row t h1 k h2),
    fun t h1 h2 k => (World.frozen?_of_block (a := ⟨gw t, k, none⟩) (o (h.bg t h1 h2) (by omega))).trans (h.zg t h1 h2 k), h.xb, h.ap, fun i k hb => Nat.lt_of_lt_of_le (h.lt i k hb) hc.size⟩, hc.mono (fun k hk => ⟨1, by subst hk; exact h.bm⟩)⟩
/-- a word is written -/
theorem HP.wstep (h : HP w p n B mp gw tb mt T M X) {s k : Nat} (hs : s < 5) (hk : k < n s * wN s) {v : Int} (v0 : 0 ≤ v) (v1 : v ≤ 4294967295) :
    HP (w.setCell ⟨gw s, k, none⟩ (.int .u32 v)) p n B mp gw tb mt T M (upX X s k v) ∧ Ch9 (un B) w (w.setCell ⟨gw s, k, none⟩ (.int .u32 v)) := by
  have hB := h.bg s hs (n_pos hk)
  have hc : Ch9 (fun k => k = gw s) w (w.setCell ⟨gw s, k, none⟩ (.int .u32 v)) := (Ch9.refl (fun b => b = gw s) w).set ⟨gw s, k, none⟩ rfl _
  have o := fun {j k : Nat} (hb : B j k) (hne : j ≠ 8 + s) => h.oth hc (i := 8 + s) (fun k hk => by subst hk; exact hB) hb hne
  have e0 := o h.bp (by omega)
  refine ⟨⟨fun s h1 => (World.cell?_of_block (a := ⟨p, s, none⟩) e0).trans (h.cm s h1), fun s h1 h2 => (World.cell?_of_block (a := ⟨p, 5 + s, none⟩) e0).trans (h.cw s h1 h2), (World.cell?_of_block (a := ⟨p, 10, none⟩) e0).trans h.ct, (World.cell?_of_block (a := ⟨p, 11, none⟩) e0).trans h.cc, h.bp, h.bm, h.bg,
    fun t h1 h2 => KM.keep (h.mill t h1 h2) (fun k hb => o hb (by omega)), KT.keep h.tbl (fun k hb => o hb (by omega)), h.met.same (o h.bm (by omega)), fun t h1 j h2 => ?_, fun t h1 h2 j => ?_, fun t j => ?_, h.ap, fun i k hb => Nat.lt_of_lt_of_le (h.lt i k hb) hc.size⟩, hc.mono (fun k hk => ⟨_, by subst hk; exact hB⟩)⟩
  · by_cases e : t = s
    · subst e
      by_cases e2 : j = k
      · subst e2
        rw [upX_same]
        exact World.cell?_setCell_same _ _ _ (h.row t h1 j h2)
      · rw [upX_ne (fun c => e2 c.2), World.cell?_setCell_other _ _ _ _ (by intro e; injection e with _ h3; exact e2 h3.symm)]
        exact h.row t h1 j h2
    · rw [upX_ne (fun c => e c.1)]
      exact (World.cell?_of_block (a := ⟨gw t, j, none⟩) (o (h.bg t h1 (n_pos h2)) (by omega))).trans (h.row t h1 j h2)
  · rw [World.frozen?_setCell]; exact h.zg t h1 h2 j
  · unfold upX
    split
    · exact ⟨v0, v1⟩
    · exact h.xb t j
end
/-- what the words of the cells tell -/
def WR (n : Nat → Nat) (T : Tst) (C : Pl → Int × List Int) (X : Nat → Nat → Int) : Prop :=
  ∀ k (s c : Nat), T k = some ((s : Int), (c : Int)) → s < 5 → c < n s → hc (X s (c * wN s)) = (C ((s : Int), (c : Int))).1 ∧ hs (X s (c * wN s)) = (C ((s : Int), (c : Int))).2.length ∧ ∀ j v, (C ((s : Int), (c : Int))).2[j]? = some v → X s (c * wN s + 2 + j) = v
/-- the memory at block p, its parts in B, and what holds at any time -/
structure HQ (w : World) (p : Nat) (n : Nat → Nat) (H : Hst) (B : Nat → Nat → Prop) (mp gw : Nat → Nat) (tb mt : Nat) (X : Nat → Nat → Int) : Prop where
  hp : HP w p n B mp gw tb mt H.T H.M X
  wr : WR n H.T H.C X
  inv : HInv n H
/-- the landed memory -/
def HA (w : World) (p : Nat) (n : Nat → Nat) (H : Hst) (F : Nat → Prop) : Prop := ∃ B mp gw tb mt X, F = un B ∧ HQ w p n H B mp gw tb mt X
section
variable {w w' : World} {p : Nat} {n : Nat → Nat} {H : Hst} {F : Nat → Prop} {B : Nat → Nat → Prop} {mp gw : Nat → Nat} {tb mt : Nat} {X : Nat → Nat → Int}
theorem HQ.keep (h : HQ w p n H B mp gw tb mt X) (g : Below w.heap.size w w') : HQ w' p n H B mp gw tb mt X := ⟨h.hp.keep g, h.wr, h.inv⟩
theorem HA.lt (h : HA w p n H F) : ∀ k, F k → k < w.heap.size := by
  obtain ⟨B, mp, gw, tb, mt, X, rfl, h⟩ := h
  exact h.hp.ltu
theorem HA.same (h : HA w p n H F) (hs : w.heap.size ≤ w'.heap.size) (hk : ∀ k, F k → w'.heap[k]? = w.heap[k]?) : HA w' p n H F := by
  obtain ⟨B, mp, gw, tb, mt, X, rfl, h⟩ := h
  exact ⟨B, mp, gw, tb, mt, X, rfl, h.hp.same hs hk, h.wr, h.inv⟩
theorem HA.keep (h : HA w p n H F) (g : Below w.heap.size w w') : HA w' p n H F := h.same g.size (fun k hk => g.block k (h.lt k hk))
theorem HA.inv (h : HA w p n H F) : HInv n H := by
  obtain ⟨B, mp, gw, tb, mt, X, rfl, h⟩ := h
  exact h.inv
end
end Wd
end Go.Proofs.YteiejjmhmmkdhaaGreat

/- The landed memory: what its small ones answer: the meter, a word's identity. -/
namespace Go.Proofs.YteiejjmhmmkdhaaGreat
open Go.RowKit Go.Maps
set_option linter.unusedVariables false
set_option maxRecDepth 20000
namespace Wd
/-- n, or the end of 0 to m that it lies beyond -/
def hld (n m : Int) : Int := if n < 0 then 0 else if m < n then m else n
theorem hld_c (n m : Int) (w : World) :
    Calls Tryz.prog 75 #[.int .i64 n, .int .i64 m] w fun e w' => e = .returned (.int .i64 (hld n m)) ∧ w' = w := by
  by_cases h1 : n < 0
  · have e : hld n m = 0 := by unfold hld; rw [if_pos h1]
    rw [e]
    have d1 : decide (n < 0) = true := by simpa using h1
    go_enter Tryz.func75, Tryz.ntmps75
    go_wp2
    go_ret
    exact ⟨rfl, rfl⟩
  · have d1 : decide (n < 0) = false := by simpa using h1
    by_cases h2 : m < n
    · have e : hld n m = m := by unfold hld; rw [if_neg h1, if_pos h2]
      rw [e]
      have d2 : decide (m < n) = true := by simpa using h2
      have d3 : decide (n > m) = true := by simpa using h2
      go_enter Tryz.func75, Tryz.ntmps75
      go_wp2
      go_ret
      exact ⟨rfl, rfl⟩
    · have e : hld n m = n := by unfold hld; rw [if_neg h1, if_neg h2]
      rw [e]
      have d2 : decide (m < n) = false := by simpa using h2
      have d3 : decide (n > m) = false := by simpa using h2
      go_enter Tryz.func75, Tryz.ntmps75
      go_wp2
      go_ret
      exact ⟨rfl, rfl⟩
theorem Mt.set2 {w : World} {m : Nat} {a b x y : Int} (c0 : w.cell? ⟨m, 0, none⟩ = some (.int .i64 a)) (c1 : w.cell? ⟨m, 1, none⟩ = some (.int .i64 b)) (z : ∀ k, w.frozen? ⟨m, k, none⟩ = false)
    (hx : 0 ≤ x ∧ x ≤ 1152921504606846976) (hy : 0 ≤ y ∧ y ≤ 1152921504606846976) : Mt ((w.setCell ⟨m, 0, none⟩ (.int .i64 x)).setCell ⟨m, 1, none⟩ (.int .i64 y)) m :=
  ⟨⟨x, y, (World.cell?_setCell_other _ _ _ _ (by intro e; injection e with _ h2; cases h2)).trans (World.cell?_setCell_same _ _ _ c0), World.cell?_setCell_same _ _ _ ((World.cell?_setCell_other _ _ _ _ (by intro e; injection e with _ h2; cases h2)).trans c1), hx, hy⟩, fun k => by rw [World.frozen?_setCell, World.frozen?_setCell]; exact z k⟩
set_option maxHeartbeats 4000000 in
theorem add_c {w : World} {m : Nat} (h : Mt w m) (x : Int) (x0 : 0 ≤ x) (x1 : x ≤ 1048576) :
    Calls Tryz.prog 54 #[.pointer (some ⟨m, 0, none⟩), .int .i64 x] w fun e w' => e = .returned (.tuple #[]) ∧ Mt w' m ∧ Ch9 (fun k => k = m) w w' := by
  obtain ⟨⟨t, s, c0, c1, ⟨t0, t1⟩, ⟨s0, s1⟩⟩, z⟩ := h
  have e : hld x 1048576 = x := by unfold hld; split <;> (try split) <;> omega
  have P := Lib.hid (hld_c x 1048576)
  rw [e] at P
  obtain ⟨y, hy⟩ : ∃ y, y = hld (t + x) 1152921504606846976 := ⟨_, rfl⟩
  obtain ⟨u, hu⟩ : ∃ u, u = hld (s + x) 1152921504606846976 := ⟨_, rfl⟩
  have yb : 0 ≤ y ∧ y ≤ 1152921504606846976 := by rw [hy]; unfold hld; split <;> (try split) <;> omega
  have ub : 0 ≤ u ∧ u ≤ 1152921504606846976 := by rw [hu]; unfold hld; split <;> (try split) <;> omega
  have P2 := Lib.hid (hld_c (t + x) 1152921504606846976)
  have P3 := Lib.hid (hld_c (s + x) 1152921504606846976)
  rw [← hy] at P2
  rw [← hu] at P3
  have hw2 : IntKind.i64.wrap (t + x) = t + x := by rw [IntKind.wrap_i64]; omega
  have hw3 : IntKind.i64.wrap (s + x) = s + x := by rw [IntKind.wrap_i64]; omega
  have z0 := z 0
  have z1 := z 1
  have fin := Lib.hid (Mt.set2 c0 c1 z yb ub)
  have cc : (w.setCell ⟨m, 0, none⟩ (.int .i64 y)).cell? ⟨m, 1, none⟩ = some (.int .i64 s) := (World.cell?_setCell_other _ _ _ _ (by intro e; injection e with _ h2; cases h2)).trans c1
  have zz : (w.setCell ⟨m, 0, none⟩ (.int .i64 y)).frozen? ⟨m, 1, none⟩ = false := by rw [World.frozen?_setCell]; exact z1
  clear e z hy hu yb ub
  go_enter Tryz.func54, Tryz.ntmps54
  go_wp2_with (first | (go_at_call 75; ((with_reducible refine (P.out _).mono ?_); rintro e w' ⟨rfl, hw'⟩; subst w')) | (go_at_call 75; ((with_reducible refine (P2.out _).mono ?_); rintro e w' ⟨rfl, hw'⟩; subst w')) | (go_at_call 75; ((with_reducible refine (P3.out _).mono ?_); rintro e w' ⟨rfl, hw'⟩; subst w')))
  go_end0
  exact ⟨rfl, fin.out, ((Ch9.refl (fun b => b = m) w).set ⟨m, 0, none⟩ rfl _).set ⟨m, 1, none⟩ rfl _⟩
theorem isnum_c (a : Int) (h0 : 0 ≤ a) (h1 : a ≤ 4294967295) (w : World) :
    Calls Tryz.prog 162 #[.int .u32 a] w fun e w' => e = .returned (.bool (decide (a % 2 = 1))) ∧ w' = w := by
  have k : bits .and .u32 a 1 = a % 2 := and_mod a 1 1 rfl h0 h1 (by omega)
  have e : (bits .and .u32 a 1 == 1) = decide (a % 2 = 1) := by rw [k]; rfl
  rw [← e]
  clear e k
  go_enter Tryz.func162, Tryz.ntmps162
  go_wp2
  go_ret
  exact ⟨rfl, rfl⟩
theorem id9_c (a : Int) (h0 : 0 ≤ a) (h1 : a ≤ 4294967295) (w : World) :
    Calls Tryz.prog 159 #[.int .u32 a] w fun e w' => e = .returned (.tuple #[.int .i64 (idW a), .bool (isOp a)]) ∧ w' = w := by
  have P := Lib.hid (isnum_c a h0 h1)
  by_cases ha : a % 2 = 1
  · have e1 : isOp a = false := by unfold isOp; simp; omega
    have e2 : idW a = 0 := by unfold idW; rw [e1]; rfl
    have d : decide (a % 2 = 1) = true := by simpa using ha
    rw [d] at P
    rw [e1, e2]
    clear e1 e2 ha d
    go_enter Tryz.func159, Tryz.ntmps159
    go_wp2_with (first | (go_at_call 162; ((with_reducible refine (P.out _).mono ?_); rintro e w' ⟨rfl, hw'⟩; subst w')))
    go_returns
    exact ⟨rfl, rfl⟩
  · have d : decide (a % 2 = 1) = false := by simpa using ha
    rw [d] at P
    by_cases hz : a = 0
    · subst hz
      clear d ha
      go_enter Tryz.func159, Tryz.ntmps159
      go_wp2_with (first | (go_at_call 162; ((with_reducible refine (P.out _).mono ?_); rintro e w' ⟨rfl, hw'⟩; subst w')))
      go_returns
      exact ⟨rfl, rfl⟩
    · have e1 : isOp a = true := by unfold isOp; simp; omega
      have e2 : idW a = a / 2 := by unfold idW; rw [e1]; rfl
      have dz : (a == 0) = false := by simpa using hz
      rw [e1, e2]
      clear e1 e2 d ha hz
      go_enter Tryz.func159, Tryz.ntmps159
      go_wp2_with (first | (go_at_call 162; ((with_reducible refine (P.out _).mono ?_); rintro e w' ⟨rfl, hw'⟩; subst w')))
      go_returns
      exact ⟨by first | rfl | (rw [IntWalk.wrap64_in _ (by omega)]), rfl⟩
set_option maxHeartbeats 4000000 in
theorem cnew_c (w : World) : Calls Tryz.prog 50 #[] w fun e w' => ∃ m, e = .returned (.pointer (some ⟨m, 0, none⟩)) ∧ Mt w' m ∧ m = w.heap.size ∧ Below w.heap.size w w' := by
  go_enter Tryz.func50, Tryz.ntmps50
  go_wp2
  go_ret
  refine ⟨_, rfl, ⟨⟨0, 0, by simp, by simp, by omega, by omega⟩, fun k => by simp⟩, rfl, ?_⟩
  exact (Below.refl _ _).alloc (Nat.le_refl _) _
end Wd
end Go.Proofs.YteiejjmhmmkdhaaGreat

/- The landed memory: a cell's words, an object's, a field. -/
namespace Go.Proofs.YteiejjmhmmkdhaaGreat
open Go.RowKit Go.Maps
set_option linter.unusedVariables false
set_option maxRecDepth 20000
namespace Wd
section
variable {w w' : World} {p : Nat} {n : Nat → Nat} {B : Nat → Nat → Prop} {mp gw : Nat → Nat} {tb mt : Nat} {T : Tst} {M : Nat → Mst} {X : Nat → Nat → Int} {H : Hst}
/-- a cell lies within its row -/
theorem cell_in9 {s c : Nat} (hs : s < 5) (hc : c < n s) (few : n s ≤ 512) : c * wN s + wN s ≤ n s * wN s ∧ n s * wN s ≤ 32768 := by
  have h1 := Nat.mul_le_mul_right (wN s) (show c + 1 ≤ n s by omega)
  rw [Nat.add_mul, Nat.one_mul] at h1
  have h2 := Nat.mul_le_mul few (wN_bd hs).2
  omega
/-- the value of a cell's words -/
def cellV (n gw : Nat → Nat) (s c : Nat) : Value := .slice (some ⟨gw s, c * wN s, none⟩) (wN s) (n s * wN s - c * wN s)
set_option maxHeartbeats 4000000 in
theorem cell_c (h : HP w p n B mp gw tb mt T M X) {s c : Nat} (hs : s < 5) (hc : c < n s) (few : n s ≤ 512) :
    Calls Tryz.prog 74 #[.pointer (some ⟨p, 0, none⟩), plV ((s : Int), (c : Int))] w fun e w' => e = .returned (cellV n gw s c) ∧ Below w.heap.size w w' := by
  have cw := h.cw s hs (by omega)
  have PW := Lib.hid (words_c (s : Int) (by omega) (by omega))
  rw [wd_wN hs] at PW
  have hps : p < w.heap.size := h.lt _ _ h.bp
  obtain ⟨l1, l2⟩ := cell_in9 hs hc few
  have hWb := wN_bd hs
  have ns : n s ≤ 512 := few
  obtain ⟨a, ha⟩ : ∃ a, a = c * wN s := ⟨_, rfl⟩
  have m1 : IntKind.i64.wrap ((c : Int) * (wN s : Int)) = (a : Int) := by
    rw [show ((c : Int) * (wN s : Int)) = (a : Int) by rw [ha, Int.natCast_mul], IntKind.wrap_i64]; omega
  have m2 : IntKind.i64.wrap ((c : Int) + 1) = (c : Int) + 1 := by rw [IntKind.wrap_i64]; omega
  have m3 : IntKind.i64.wrap (((c : Int) + 1) * (wN s : Int)) = ((a + wN s : Nat) : Int) := by
    rw [show (((c : Int) + 1) * (wN s : Int)) = ((a + wN s : Nat) : Int) by rw [Int.natCast_add, ha, Int.natCast_mul, Int.add_mul, Int.one_mul], IntKind.wrap_i64]; omega
  unfold cellV plV
  simp only
  rw [← ha] at l1 ⊢
  clear h ha
  have hs' : (s : Int) < 5 := by omega
  generalize n s * wN s = N at *
  generalize wN s = W at *
  generalize gw s = g at *
  have hB : Below w.heap.size w (w.alloc (.cells #[.int .i64 s, .int .i64 c] 124)) := (Below.refl _ _).alloc (Nat.le_refl _) _
  obtain ⟨w2, hw2⟩ : ∃ w2, w2 = w.alloc (.cells #[.int .i64 s, .int .i64 c] 124) := ⟨_, rfl⟩
  rw [← hw2] at hB
  have q0 : w2.cell? ⟨w.heap.size, 0, none⟩ = some (.int .i64 s) := by rw [hw2]; simp
  have q1 : w2.cell? ⟨w.heap.size, 1, none⟩ = some (.int .i64 c) := by rw [hw2]; simp
  have cw2 : w2.cell? ⟨p, 5 + s, none⟩ = some (.slice (some ⟨g, 0, none⟩) N N) := (hB.cell hps).trans cw
  have e1 : ((a + W : Nat) : Int) ≤ (N : Int) := by omega
  have e2 : (a : Int) ≤ ((a + W : Nat) : Int) := by omega
  clear cw
  go_enter Tryz.func74, Tryz.ntmps74
  go_wp2_with fail
  rw [← hw2]
  clear hw2
  go_wp2_with (first | (go_at_call 52; ((with_reducible refine (PW.out _).mono ?_); rintro e w' ⟨rfl, hw'⟩; subst w')))
  go_big_quiet (fail)
  go_wp2
  go_ret
  refine ⟨?_, hB.trans ((drewN_bel w2 nq).mono hB.size)⟩
  show Ending.returned (Value.slice (some ⟨g, a, none⟩) (a + W - a) (N - a)) = _
  rw [Nat.add_sub_cancel_left]
/-- where an identity lies -/
theorem HInv.lies (h : HInv n H) {i : Int} (hh : hasT H.T i = true) : ∃ (k s c : Nat), i = k ∧ 4 ≤ k ∧ k < 1024 ∧ H.T k = some ((s : Int), (c : Int)) ∧ atP H.T i = ((s : Int), (c : Int)) ∧ s < 5 ∧ c < n s ∧ n s ≤ 512 := by
  obtain ⟨k, p, rfl, h4, hk, hp, e⟩ := h.has hh
  obtain ⟨s, h1, h2, h3, h5, _⟩ := h.pl k p hp
  have hf := h.few s h1
  obtain ⟨pa, pc⟩ := p
  simp only at h2 h3 h5
  subst h2
  obtain ⟨c, rfl⟩ : ∃ c : Nat, pc = c := ⟨pc.toNat, by omega⟩
  exact ⟨k, s, c, rfl, h4, hk, hp, e, h1, by omega, hf⟩
set_option maxHeartbeats 4000000 in
theorem object_no (h : HQ w p n H B mp gw tb mt X) (i : Int) (i0 : -9223372036854775808 ≤ i) (i1 : i ≤ 9223372036854775807) (hh : hasT H.T i = false) :
    Calls Tryz.prog 53 #[.pointer (some ⟨p, 0, none⟩), .int .i64 i] w fun e w' => e = .returned (.slice none 0 0) ∧ Below w.heap.size w w' := by
  have ct := h.hp.ct
  have P := Lib.hid (KT.at' i h.hp.tbl i0 i1)
  rw [hh, atP_no hh] at P
  unfold plV at P
  simp only at P
  clear h hh
  go_enter Tryz.func53, Tryz.ntmps53
  go_wp2_with (first | (go_at_call 73; ((with_reducible refine (P.out).mono ?_); rintro e w1 ⟨rfl, hb⟩; replace hb := Lib.hid hb)))
  go_ret
  exact ⟨rfl, hb.out.trans (((Below.refl _ _).alloc (Nat.le_refl _) _).mono hb.out.size)⟩
set_option maxHeartbeats 4000000 in
theorem object_yes (h : HQ w p n H B mp gw tb mt X) {i : Int} {s c : Nat} (i0 : -9223372036854775808 ≤ i) (i1 : i ≤ 9223372036854775807) (hh : hasT H.T i = true) (ha : atP H.T i = ((s : Int), (c : Int))) (hs : s < 5) (hc : c < n s) :
    Calls Tryz.prog 53 #[.pointer (some ⟨p, 0, none⟩), .int .i64 i] w fun e w' => e = .returned (cellV n gw s c) ∧ Below w.heap.size w w' := by
  have ct := h.hp.ct
  have P := Lib.hid (KT.at' i h.hp.tbl i0 i1)
  rw [hh, ha] at P
  have PC := Lib.hid (fun (w1 : World) (hb : Below w.heap.size w w1) => cell_c (h.hp.keep hb) hs hc (h.inv.few s hs))
  unfold plV at P PC
  simp only at P PC
  clear h hh
  unfold cellV at *
  go_enter Tryz.func53, Tryz.ntmps53
  go_wp2_with (first | (go_at_call 73; ((with_reducible refine (P.out).mono ?_); rintro e w1 ⟨rfl, hb⟩; replace hb := Lib.hid hb)) | (go_at_call 74; ((with_reducible refine (PC.out _ (hb.out.trans (((Below.refl _ _).alloc (Nat.le_refl _) _).mono hb.out.size))).mono ?_); rintro e w2 ⟨rfl, hb2⟩; replace hb2 := Lib.hid hb2)))
  go_ret
  have hb3 := hb.out.trans (((Below.refl _ _).alloc (Nat.le_refl _) (.cells #[.int .i64 s, .int .i64 c] 124)).mono hb.out.size)
  exact ⟨rfl, hb3.trans (hb2.out.mono hb3.size)⟩
end
end Wd
end Go.Proofs.YteiejjmhmmkdhaaGreat

/- The landed memory: where a field stands. -/
namespace Go.Proofs.YteiejjmhmmkdhaaGreat
open Go.RowKit Go.Maps
set_option linter.unusedVariables false
set_option maxRecDepth 20000
namespace Wd
theorem len_fits {s : Nat} (hs : s < 5) {l : Nat} (h : fo (l : Int) = (s : Int)) : l + 2 ≤ wN s ∧ l ≤ 62 := by
  have e : wN 0 = 4 ∧ wN 1 = 8 ∧ wN 2 = 16 ∧ wN 3 = 32 ∧ wN 4 = 64 := by decide
  rcases fo_cases (l : Int) with ⟨h1, h2⟩ | ⟨h0, h1, h2⟩ | ⟨h0, h1, h2⟩ | ⟨h0, h1, h2⟩ | ⟨h0, h1, h2⟩ | ⟨h0, h1, h2⟩ <;> rw [h2] at h <;> (first | (exfalso; omega) | skip)
  · obtain rfl : s = 0 := by omega
    omega
  · obtain rfl : s = 1 := by omega
    omega
  · obtain rfl : s = 2 := by omega
    omega
  · obtain rfl : s = 3 := by omega
    omega
  · obtain rfl : s = 4 := by omega
    omega
theorem nil_is (w : World) : Sem.run Tryz.prog (binOp .eql 87 (.slice none 0 0) (.slice none 0 0)) w = .ok (.bool true) w := by kernel_rfl
theorem nil_not (g a m c : Nat) (w : World) : Sem.run Tryz.prog (binOp .eql 87 (.slice (some ⟨g, a, none⟩) m c) (.slice none 0 0)) w = .ok (.bool false) w := by kernel_rfl
/-- an object that is there: its cell, its class, its fields -/
structure Ob (n : Nat → Nat) (H : Hst) (X : Nat → Nat → Int) (i : Int) (s c : Nat) (cl : Int) (L : List Int) : Prop where
  hh : hasT H.T i = true
  ha : atP H.T i = ((s : Int), (c : Int))
  s5 : s < 5
  cn : c < n s
  few : n s ≤ 512
  hC : H.C ((s : Int), (c : Int)) = (cl, L)
  e1 : hc (X s (c * wN s)) = cl
  e2 : hs (X s (c * wN s)) = L.length
  fit : L.length + 2 ≤ wN s
  l62 : L.length ≤ 62
  fs : ∀ j v, L[j]? = some v → X s (c * wN s + 2 + j) = v
  cb : 0 ≤ cl ∧ cl ≤ 4095
  lb : ∀ x ∈ L, 0 < x ∧ x ≤ 4294967295
section
variable {w w' : World} {p : Nat} {n : Nat → Nat} {B : Nat → Nat → Prop} {mp gw : Nat → Nat} {tb mt : Nat} {T : Tst} {M : Nat → Mst} {X : Nat → Nat → Int} {H : Hst} {i : Int} {s c : Nat} {cl : Int} {L : List Int}
theorem HQ.ob (h : HQ w p n H B mp gw tb mt X) {i : Int} (hh : hasT H.T i = true) : ∃ s c cl L, Ob n H X i s c cl L := by
  obtain ⟨k, s, c, rfl, h4, hk, hT, ha, s5, cn, few⟩ := h.inv.lies hh
  obtain ⟨w1, w2, w3⟩ := h.wr k s c hT s5 cn
  obtain ⟨c1, c2, c3⟩ := h.inv.cel k _ hT
  obtain ⟨f1, f2⟩ := len_fits s5 c1
  exact ⟨s, c, _, _, hh, ha, s5, cn, few, rfl, w1, w2, f1, f2, w3, c2, c3⟩
theorem Ob.cls (o : Ob n H X i s c cl L) : clsI H i = cl := by unfold clsI; rw [if_pos o.hh, o.ha, o.hC]
theorem Ob.fld (o : Ob n H X i s c cl L) : fldI H i = L.length := by unfold fldI; rw [if_pos o.hh, o.ha, o.hC]
theorem Ob.fsi (o : Ob n H X i s c cl L) : fsI H i = L := by unfold fsI; rw [if_pos o.hh, o.ha, o.hC]
theorem Ob.col (o : Ob n H X i s c cl L) : colI H i = colorR (H.M s) c := by unfold colI colP szP; rw [if_pos o.hh, o.ha]; simp
theorem HP.word (h : HP w p n B mp gw tb mt T M X) {s c k : Nat} (hs : s < 5) (hc : c < n s) (few : n s ≤ 512) (hk : k < wN s) : w.cell? ⟨gw s, c * wN s + k, none⟩ = some (.int .u32 (X s (c * wN s + k))) :=
  h.row s hs _ (by have := (cell_in9 hs hc few).1; omega)
set_option maxHeartbeats 4000000 in
theorem field_none (h : HQ w p n H B mp gw tb mt X) (i j : Int) (i0 : -9223372036854775808 ≤ i) (i1 : i ≤ 9223372036854775807) (j0 : -9223372036854775808 ≤ j) (j1 : j ≤ 9223372036854775807) (hh : hasT H.T i = false) :
    Calls Tryz.prog 57 #[.pointer (some ⟨p, 0, none⟩), .int .i64 i, .int .i64 j] w fun e w' => e = .returned (.pointer none) ∧ Below w.heap.size w w' := by
  have P := Lib.hid (object_no h i i0 i1 hh)
  clear h hh
  have hnil := nil_is
  go_enter Tryz.func57, Tryz.ntmps57
  go_wp2_with (first | (go_at_call 53; ((with_reducible refine (P.out).mono ?_); rintro e w1 ⟨rfl, hb⟩; replace hb := Lib.hid hb)))
  go_ret
  exact ⟨rfl, hb.out⟩
set_option maxHeartbeats 4000000 in
theorem field_out (h : HQ w p n H B mp gw tb mt X) (i j : Int) (i0 : -9223372036854775808 ≤ i) (i1 : i ≤ 9223372036854775807) (j0 : -9223372036854775808 ≤ j) (j1 : j ≤ 9223372036854775807) (o : Ob n H X i s c cl L) (hj : j < 0 ∨ (L.length : Int) ≤ j) :
    Calls Tryz.prog 57 #[.pointer (some ⟨p, 0, none⟩), .int .i64 i, .int .i64 j] w fun e w' => e = .returned (.pointer none) ∧ Below w.heap.size w w' := by
  have P := Lib.hid (object_yes h i0 i1 o.hh o.ha o.s5 o.cn)
  have c0 := h.hp.word o.s5 o.cn o.few (k := 0) (by have := o.fit; omega)
  have hx := h.hp.xb s (c * wN s)
  have hgs : gw s < w.heap.size := h.hp.lt _ _ (h.hp.bg s o.s5 (by have := o.cn; omega))
  rw [Nat.add_zero] at c0
  have PS := Lib.hid (Size_c (X s (c * wN s)) hx.1 hx.2)
  rw [o.e2] at PS
  have hW : 0 < wN s := by have := o.fit; omega
  have hl := o.l62
  clear h o
  unfold cellV at P
  generalize X s (c * wN s) = x at *
  generalize n s * wN s - c * wN s = cap at *
  generalize c * wN s = a at *
  generalize wN s = W at *
  generalize gw s = g at *
  generalize L.length = l at *
  have hnil := nil_not g a W cap
  rcases hj with hj | hj
  · have d1 : decide (j < 0) = true := by simpa using hj
    go_enter Tryz.func57, Tryz.ntmps57
    go_wp2_with (first | (go_at_call 53; ((with_reducible refine (P.out).mono ?_); rintro e w1 ⟨rfl, hb⟩; replace hb := Lib.hid hb)))
    go_ret
    exact ⟨rfl, hb.out⟩
  · have d1 : decide (j < 0) = false := by simp; omega
    have d2 : decide ((l : Int) ≤ j) = true := by simpa using hj
    have d3 : decide (j ≥ (l : Int)) = true := by simpa using hj
    go_enter Tryz.func57, Tryz.ntmps57
    go_wp2_with (first | (go_at_call 53; ((with_reducible refine (P.out).mono ?_); rintro e w1 ⟨rfl, hb⟩; have c1 := (hb.cell hgs).trans c0; replace hb := Lib.hid hb)) | (go_at_call 56; ((with_reducible refine (PS.out _).mono ?_); rintro e w2 ⟨rfl, hw2⟩; subst w2)))
    go_ret
    exact ⟨rfl, hb.out.drew⟩
set_option maxHeartbeats 4000000 in
theorem field_in (h : HQ w p n H B mp gw tb mt X) (i : Int) (j : Nat) (i0 : -9223372036854775808 ≤ i) (i1 : i ≤ 9223372036854775807) (o : Ob n H X i s c cl L) (hj : j < L.length) :
    Calls Tryz.prog 57 #[.pointer (some ⟨p, 0, none⟩), .int .i64 i, .int .i64 j] w fun e w' => e = .returned (.pointer (some ⟨gw s, c * wN s + (2 + j), none⟩)) ∧ Below w.heap.size w w' := by
  have P := Lib.hid (object_yes h i0 i1 o.hh o.ha o.s5 o.cn)
  have c0 := h.hp.word o.s5 o.cn o.few (k := 0) (by have := o.fit; omega)
  have hx := h.hp.xb s (c * wN s)
  have hgs : gw s < w.heap.size := h.hp.lt _ _ (h.hp.bg s o.s5 (by have := o.cn; omega))
  rw [Nat.add_zero] at c0
  have PS := Lib.hid (Size_c (X s (c * wN s)) hx.1 hx.2)
  rw [o.e2] at PS
  have hW : L.length + 2 ≤ wN s := o.fit
  have hl := o.l62
  clear h o
  unfold cellV at P
  generalize X s (c * wN s) = x at *
  generalize n s * wN s - c * wN s = cap at *
  generalize c * wN s = a at *
  generalize wN s = W at *
  generalize gw s = g at *
  generalize L.length = l at *
  have hnil := nil_not g a W cap
  have d1 : decide ((j : Int) < 0) = false := by simp
  have d2 : decide ((l : Int) ≤ (j : Int)) = false := by simp; omega
  have d3 : decide ((j : Int) ≥ (l : Int)) = false := by simp; omega
  have hw : IntKind.i64.wrap (2 + (j : Int)) = ((2 + j : Nat) : Int) := by rw [IntKind.wrap_i64]; omega
  have hW0 : 0 < W := by omega
  have hi : ((2 + j : Nat) : Int) < (W : Int) := by omega
  have hi2 : 2 + j < W := by omega
  go_enter Tryz.func57, Tryz.ntmps57
  go_wp2_with (first | (go_at_call 53; ((with_reducible refine (P.out).mono ?_); rintro e w1 ⟨rfl, hb⟩; have c1 := (hb.cell hgs).trans c0; replace hb := Lib.hid hb)) | (go_at_call 56; ((with_reducible refine (PS.out _).mono ?_); rintro e w2 ⟨rfl, hw2⟩; subst w2)))
  go_ret
  exact ⟨rfl, hb.out.drew⟩
end
end Wd
end Go.Proofs.YteiejjmhmmkdhaaGreat

/- The landed memory: Get, Class, Fields, Color, IDs, Cost. -/
namespace Go.Proofs.YteiejjmhmmkdhaaGreat
open Go.RowKit Go.Maps
set_option linter.unusedVariables false
set_option maxRecDepth 20000
namespace Wd
section
variable {w w' : World} {p : Nat} {n : Nat → Nat} {B : Nat → Nat → Prop} {mp gw : Nat → Nat} {tb mt : Nat} {T : Tst} {M : Nat → Mst} {X : Nat → Nat → Int} {H : Hst} {i : Int} {s c : Nat} {cl : Int} {L : List Int}
theorem HQ.count (h : HQ w p n H B mp gw tb mt X) (hm : Mt w' mt) (hc : Ch9 (fun k => k = mt) w w') : HQ w' p n H B mp gw tb mt X ∧ Ch9 (un B) w w' :=
  ⟨⟨(h.hp.cstep hm hc).1, h.wr, h.inv⟩, (h.hp.cstep hm hc).2⟩
theorem below_un {F : Nat → Prop} {w w' : World} (b : Below w.heap.size w w') : Ch9 F w w' := below_toCh F b
theorem fsI_no {H : Hst} {i : Int} (h : hasT H.T i = false) : fsI H i = [] := by unfold fsI; rw [h]; rfl
/-- what a call leaves that turns nothing but the meter -/
abbrev Kept (w w' : World) (p : Nat) (n : Nat → Nat) (H : Hst) (B : Nat → Nat → Prop) (mp gw : Nat → Nat) (tb mt : Nat) (X : Nat → Nat → Int) : Prop := HQ w' p n H B mp gw tb mt X ∧ Ch9 (un B) w w'
set_option maxHeartbeats 4000000 in
theorem vget_no (h : HQ w p n H B mp gw tb mt X) (i j : Int) (hF : Calls Tryz.prog 57 #[.pointer (some ⟨p, 0, none⟩), .int .i64 i, .int .i64 j] w fun e w' => e = .returned (.pointer none) ∧ Below w.heap.size w w') :
    Calls Tryz.prog 27 #[.pointer (some ⟨p, 0, none⟩), .int .i64 i, .int .i64 j] w fun e w' => e = .returned (.tuple #[.int .u32 0, .bool false]) ∧ Kept w w' p n H B mp gw tb mt X := by
  have P := Lib.hid hF
  replace h := Lib.hid h
  clear hF
  go_enter Tryz.func27, Tryz.ntmps27
  go_wp2_with (first | (go_at_call 57; ((with_reducible refine (P.out).mono ?_); rintro e w1 ⟨rfl, hb⟩; replace hb := Lib.hid hb)))
  go_returns
  exact ⟨rfl, h.out.keep hb.out, below_un hb.out⟩
set_option maxHeartbeats 4000000 in
theorem vget_c (h : HQ w p n H B mp gw tb mt X) (i j : Int) (i0 : -9223372036854775808 ≤ i) (i1 : i ≤ 9223372036854775807) (j0 : -9223372036854775808 ≤ j) (j1 : j ≤ 9223372036854775807) :
    Calls Tryz.prog 27 #[.pointer (some ⟨p, 0, none⟩), .int .i64 i, .int .i64 j] w fun e w' => e = .returned (.tuple #[.int .u32 (getV H i j), .bool (getB H i j)]) ∧ Kept w w' p n H B mp gw tb mt X := by
  cases hh : hasT H.T i with
  | false =>
    have e1 : getV H i j = 0 := by unfold getV; rw [fsI_no hh, if_neg (by simp <;> omega)]
    have e2 : getB H i j = false := by unfold getB; rw [fsI_no hh]; simp <;> omega
    rw [e1, e2]
    exact vget_no h i j (field_none h i j i0 i1 j0 j1 hh)
  | true =>
    obtain ⟨s, c, cl, L, o⟩ := h.ob hh
    by_cases hj : 0 ≤ j ∧ j < L.length
    · obtain ⟨k, rfl⟩ : ∃ k : Nat, j = k := ⟨j.toNat, by omega⟩
      have hk : k < L.length := by omega
      have e1 : getV H i k = X s (c * wN s + (2 + k)) := by
        unfold getV
        rw [o.fsi, if_pos (by simp; omega)]
        rw [← Nat.add_assoc, o.fs k L[k] (by simp [hk])]
        simp [List.getD, hk]
      have e2 : getB H i k = true := by unfold getB; rw [o.fsi]; simp; omega
      rw [e1, e2]
      have P := Lib.hid (field_in h i k i0 i1 o hk)
      have PA := Lib.hid (fun (w1 : World) (hb : Below w.heap.size w w1) => add_c (h.keep hb).hp.met 2 (by omega) (by omega))
      have hcc := Lib.hid (fun (w1 : World) (hb : Below w.heap.size w w1) => (h.keep hb).hp.cc)
      have hwd := Lib.hid (fun (w2 : World) (h2 : HQ w2 p n H B mp gw tb mt X) => h2.hp.word o.s5 o.cn o.few (k := 2 + k) (by have := o.fit; omega))
      replace h := Lib.hid h
      clear o e1 e2 hh hj
      generalize X s (c * wN s + (2 + k)) = x at *
      generalize c * wN s + (2 + k) = off at *
      generalize hg : gw s = g at *
      replace hg := Lib.hid hg
      go_enter Tryz.func27, Tryz.ntmps27
      go_wp2_with (first | (go_at_call 57; ((with_reducible refine (P.out).mono ?_); rintro e w1 ⟨rfl, hb⟩; have cc := hcc.out _ hb; have P2 := Lib.hid (PA.out _ hb); replace hb := Lib.hid hb)) | (go_at_call 54; ((with_reducible refine (P2.out).mono ?_); rintro e w2 ⟨rfl, d1, d2⟩; have h2 := (h.out.keep hb.out).count d1 d2; have cf := hwd.out _ h2.1; replace h2 := Lib.hid h2; clear d1 d2)))
      go_returns
      exact ⟨rfl, h2.out.1, (below_un hb.out).trans h2.out.2⟩
    · have e1 : getV H i j = 0 := by unfold getV; rw [o.fsi, if_neg hj]
      have e2 : getB H i j = false := by unfold getB; rw [o.fsi]; simp; omega
      rw [e1, e2]
      exact vget_no h i j (field_out h i j i0 i1 j0 j1 o (by omega))
set_option maxHeartbeats 4000000 in
theorem vclass_c (h : HQ w p n H B mp gw tb mt X) (i : Int) (i0 : -9223372036854775808 ≤ i) (i1 : i ≤ 9223372036854775807) :
    Calls Tryz.prog 25 #[.pointer (some ⟨p, 0, none⟩), .int .i64 i] w fun e w' => e = .returned (.int .i64 (clsI H i)) ∧ Kept w w' p n H B mp gw tb mt X := by
  cases hh : hasT H.T i with
  | false =>
    have e1 : clsI H i = -1 := by unfold clsI; rw [hh]; rfl
    rw [e1]
    have P := Lib.hid (object_no h i i0 i1 hh)
    have hnil := nil_is
    replace h := Lib.hid h
    clear e1 hh
    go_enter Tryz.func25, Tryz.ntmps25
    go_wp2_with (first | (go_at_call 53; ((with_reducible refine (P.out).mono ?_); rintro e w1 ⟨rfl, hb⟩; replace hb := Lib.hid hb)))
    go_ret
    exact ⟨rfl, h.out.keep hb.out, below_un hb.out⟩
  | true =>
    obtain ⟨s, c, cl, L, o⟩ := h.ob hh
    rw [o.cls]
    have P := Lib.hid (object_yes h i0 i1 o.hh o.ha o.s5 o.cn)
    have hx := h.hp.xb s (c * wN s)
    have PS := Lib.hid (Class_c (X s (c * wN s)) hx.1 hx.2)
    rw [o.e1] at PS
    have hW : 0 < wN s := by have := o.fit; omega
    have PA := Lib.hid (fun (w1 : World) (hb : Below w.heap.size w w1) => add_c (h.keep hb).hp.met 1 (by omega) (by omega))
    have hcc := Lib.hid (fun (w1 : World) (hb : Below w.heap.size w w1) => (h.keep hb).hp.cc)
    have hwd := Lib.hid (fun (w2 : World) (h2 : HQ w2 p n H B mp gw tb mt X) => h2.hp.word o.s5 o.cn o.few (k := 0) (by have := o.fit; omega))
    simp only [Nat.add_zero] at hwd
    replace h := Lib.hid h
    clear o hh
    unfold cellV at P
    generalize X s (c * wN s) = x at *
    generalize n s * wN s - c * wN s = cap at *
    generalize c * wN s = a at *
    generalize wN s = W at *
    generalize hg : gw s = g at *
    replace hg := Lib.hid hg
    have hnil := nil_not g a W cap
    go_enter Tryz.func25, Tryz.ntmps25
    go_wp2_with (first | (go_at_call 53; ((with_reducible refine (P.out).mono ?_); rintro e w1 ⟨rfl, hb⟩; have cc := hcc.out _ hb; have P2 := Lib.hid (PA.out _ hb); replace hb := Lib.hid hb)) | (go_at_call 54; ((with_reducible refine (P2.out).mono ?_); rintro e w2 ⟨rfl, d1, d2⟩; have h2 := (h.out.keep hb.out).count d1 d2; have cf := hwd.out _ h2.1; replace h2 := Lib.hid h2; clear d1 d2)) | (go_at_call 55; ((with_reducible refine (PS.out _).mono ?_); rintro e w3 ⟨rfl, hw3⟩; subst w3)))
    go_ret
    exact ⟨rfl, h2.out.1.keep (Below.refl _ _).drew, ((below_un hb.out).trans h2.out.2).trans (below_un (Below.refl _ _).drew)⟩
set_option maxHeartbeats 4000000 in
theorem vfields_c (h : HQ w p n H B mp gw tb mt X) (i : Int) (i0 : -9223372036854775808 ≤ i) (i1 : i ≤ 9223372036854775807) :
    Calls Tryz.prog 26 #[.pointer (some ⟨p, 0, none⟩), .int .i64 i] w fun e w' => e = .returned (.int .i64 (fldI H i)) ∧ Kept w w' p n H B mp gw tb mt X := by
  cases hh : hasT H.T i with
  | false =>
    have e1 : fldI H i = -1 := by unfold fldI; rw [hh]; rfl
    rw [e1]
    have P := Lib.hid (object_no h i i0 i1 hh)
    have hnil := nil_is
    replace h := Lib.hid h
    clear e1 hh
    go_enter Tryz.func26, Tryz.ntmps26
    go_wp2_with (first | (go_at_call 53; ((with_reducible refine (P.out).mono ?_); rintro e w1 ⟨rfl, hb⟩; replace hb := Lib.hid hb)))
    go_ret
    exact ⟨rfl, h.out.keep hb.out, below_un hb.out⟩
  | true =>
    obtain ⟨s, c, cl, L, o⟩ := h.ob hh
    rw [o.fld]
    have P := Lib.hid (object_yes h i0 i1 o.hh o.ha o.s5 o.cn)
    have hx := h.hp.xb s (c * wN s)
    have PS := Lib.hid (Size_c (X s (c * wN s)) hx.1 hx.2)
    rw [o.e2] at PS
    have hW : 0 < wN s := by have := o.fit; omega
    have PA := Lib.hid (fun (w1 : World) (hb : Below w.heap.size w w1) => add_c (h.keep hb).hp.met 1 (by omega) (by omega))
    have hcc := Lib.hid (fun (w1 : World) (hb : Below w.heap.size w w1) => (h.keep hb).hp.cc)
    have hwd := Lib.hid (fun (w2 : World) (h2 : HQ w2 p n H B mp gw tb mt X) => h2.hp.word o.s5 o.cn o.few (k := 0) (by have := o.fit; omega))
    simp only [Nat.add_zero] at hwd
    replace h := Lib.hid h
    clear o hh
    unfold cellV at P
    generalize X s (c * wN s) = x at *
    generalize n s * wN s - c * wN s = cap at *
    generalize c * wN s = a at *
    generalize wN s = W at *
    generalize hg : gw s = g at *
    generalize L.length = l at *
    replace hg := Lib.hid hg
    have hnil := nil_not g a W cap
    go_enter Tryz.func26, Tryz.ntmps26
    go_wp2_with (first | (go_at_call 53; ((with_reducible refine (P.out).mono ?_); rintro e w1 ⟨rfl, hb⟩; have cc := hcc.out _ hb; have P2 := Lib.hid (PA.out _ hb); replace hb := Lib.hid hb)) | (go_at_call 54; ((with_reducible refine (P2.out).mono ?_); rintro e w2 ⟨rfl, d1, d2⟩; have h2 := (h.out.keep hb.out).count d1 d2; have cf := hwd.out _ h2.1; replace h2 := Lib.hid h2; clear d1 d2)) | (go_at_call 56; ((with_reducible refine (PS.out _).mono ?_); rintro e w3 ⟨rfl, hw3⟩; subst w3)))
    go_ret
    exact ⟨rfl, h2.out.1.keep (Below.refl _ _).drew, ((below_un hb.out).trans h2.out.2).trans (below_un (Below.refl _ _).drew)⟩
set_option maxHeartbeats 4000000 in
theorem vcolor_c (h : HQ w p n H B mp gw tb mt X) (i : Int) (i0 : -9223372036854775808 ≤ i) (i1 : i ≤ 9223372036854775807) :
    Calls Tryz.prog 153 #[.pointer (some ⟨p, 0, none⟩), .int .i64 i] w fun e w' => e = .returned (.int .i64 (colI H i)) ∧ Below w.heap.size w w' := by
  have ct := h.hp.ct
  have P := Lib.hid (KT.at' i h.hp.tbl i0 i1)
  cases hh : hasT H.T i with
  | false =>
    have e1 : colI H i = -1 := by unfold colI; rw [hh]; rfl
    rw [e1]
    rw [hh, atP_no hh] at P
    unfold plV at P
    simp only at P
    clear h hh e1
    go_enter Tryz.func153, Tryz.ntmps153
    go_wp2_with (first | (go_at_call 73; ((with_reducible refine (P.out).mono ?_); rintro e w1 ⟨rfl, hb⟩; replace hb := Lib.hid hb)))
    go_ret
    exact ⟨rfl, hb.out.trans (((Below.refl _ _).alloc (Nat.le_refl _) _).mono hb.out.size)⟩
  | true =>
    obtain ⟨s, c, cl, L, o⟩ := h.ob hh
    rw [o.col]
    rw [hh, o.ha] at P
    have hs5 : (s : Int) < 5 := by have := o.s5; omega
    have cn := o.cn
    have few := o.few
    have hn0 : ¬ (n s = 0) := by omega
    have cm := Lib.hid (fun (w1 : World) (hb : Below w.heap.size w w1) => (h.hp.keep hb).cm s o.s5)
    simp only [if_neg hn0] at cm
    have PM := Lib.hid (fun (w1 : World) (hb : Below w.heap.size w w1) => KM.color (c : Int) ((h.hp.keep hb).mill s o.s5 (by omega)) (by omega) (by omega))
    have hss : s < 5 := o.s5
    unfold plV at P
    simp only at P
    clear h hh o hn0
    generalize colorR (H.M s) c = col at *
    go_enter Tryz.func153, Tryz.ntmps153
    go_wp2_with (first | (go_at_call 73; ((with_reducible refine (P.out).mono ?_); rintro e w1 ⟨rfl, hb⟩; replace hb := Lib.hid hb)))
    have hb3 := hb.out.trans (((Below.refl _ _).alloc (Nat.le_refl _) (.cells #[.int .i64 s, .int .i64 c] 124)).mono hb.out.size)
    have q0 : (w1.alloc (.cells #[.int .i64 s, .int .i64 c] 124)).cell? ⟨w1.heap.size, 0, none⟩ = some (.int .i64 s) := by simp
    have q1 : (w1.alloc (.cells #[.int .i64 s, .int .i64 c] 124)).cell? ⟨w1.heap.size, 1, none⟩ = some (.int .i64 c) := by simp
    have cm1 := cm.out _ hb3
    generalize (w1.alloc (.cells #[.int .i64 s, .int .i64 c] 124)) = w2 at *
    replace hb3 := Lib.hid hb3
    go_still_tail 9, (by kernel_rfl)
    go_wp2_with (first | (go_at_call 158; ((with_reducible refine (PM.out _ hb3.out.drew).mono ?_); rintro e w4 ⟨rfl, hb4⟩; replace hb4 := Lib.hid hb4)))
    go_ret
    exact ⟨rfl, hb3.out.drew.trans (hb4.out.mono hb3.out.drew.size)⟩
end
end Wd
end Go.Proofs.YteiejjmhmmkdhaaGreat

/- What the laws ask of a memory, whoever keeps it: same. -/
namespace Go.Proofs.YteiejjmhmmkdhaaGreat
open Go.RowKit Go.Maps
set_option linter.unusedVariables false
namespace Wd
section
variable {HA : HAt} {w0 wr w1 : World} {p b : Nat} {n : Nat → Nat} {H H' G G' : Hst} {F F' D D' : Nat → Prop} {wE wB : World} {E E2 : Nat → Prop}
end
end Wd
end Go.Proofs.YteiejjmhmmkdhaaGreat

/- What the laws ask of a memory, whoever keeps it: play. -/
namespace Go.Proofs.YteiejjmhmmkdhaaGreat
open Go.RowKit Go.Maps
set_option linter.unusedVariables false
namespace Wd
def Box4 (w : World) (B : Nat) (x y z v : Int) : Prop := w.cell? ⟨B, 0, none⟩ = some (.int .i64 x) ∧ w.cell? ⟨B, 1, none⟩ = some (.int .i64 y) ∧ w.cell? ⟨B, 2, none⟩ = some (.int .i64 z) ∧ w.cell? ⟨B, 3, none⟩ = some (.int .i64 v)
theorem Box4.of {wA w1 : World} {B : Nat} {x y z v : Int} (h : Box4 wA B x y z v) (hk : w1.heap[B]? = wA.heap[B]?) : Box4 w1 B x y z v :=
  ⟨(World.cell?_of_block (a := ⟨B, 0, none⟩) hk).trans h.1, (World.cell?_of_block (a := ⟨B, 1, none⟩) hk).trans h.2.1, (World.cell?_of_block (a := ⟨B, 2, none⟩) hk).trans h.2.2.1, (World.cell?_of_block (a := ⟨B, 3, none⟩) hk).trans h.2.2.2⟩
theorem Box4.drew {wA : World} {B : Nat} {x y z v : Int} (h : Box4 wA B x y z v) : Box4 wA.drew B x y z v := h
end Wd
end Go.Proofs.YteiejjmhmmkdhaaGreat

/- What chapter 9's runs come to, plainly. -/
namespace Go.Proofs.YteiejjmhmmkdhaaGreat
open Go.RowKit Go.Maps
set_option linter.unusedVariables false
namespace Wd
theorem HInv.alc_at {n : Nat → Nat} {H : Hst} (h : HInv n H) {cl f : Int} {s k : Nat} {i : Int} {Rw : List Int} (c0 : 0 ≤ cl) (c1 : cl ≤ 4095) (hf : fo f = s) (hR : H.M s 0 = i :: Rw) (hk : freeR H.T = some k) (hs : s < 5) :
    alcI H cl f = k ∧ alcH H cl f = { T := updT H.T k (some ((s : Int), i)), M := upM H.M s (firstA (H.M s) 0 1), C := upC H.C ((s : Int), i) (cl, List.replicate f.toNat 2) } := by
  have hs' : (fo f).toNat = s := by omega
  have hb : alcB H cl f = true := by
    unfold alcB
    rw [hs', hR, decide_eq_true ⟨c0, c1⟩, decide_eq_true (show 0 ≤ fo f by omega)]
    rfl
  have ep : alcP H f = ((s : Int), i) := by unfold alcP firstR; rw [hs', hR, hf]
  have ho := h.miss hs (show i ∈ H.M s 0 by rw [hR]; simp)
  refine ⟨?_, ?_⟩
  · unfold alcI
    rw [if_pos hb, ep]
    unfold takeI
    rw [ho, hk]; rfl
  · unfold alcH
    rw [if_pos hb, ep, hs']
    unfold takeT
    rw [ho, hk]; rfl
def nK : Nat → Nat := fun s => if s = 0 then 2 else if s = 1 then 1 else 0
def K0 : Hst := newH nK
def K1 : Hst := { T := updT K0.T 4 (some (0, 0)), M := upM K0.M 0 (firstA (K0.M 0) 0 1), C := upC K0.C (0, 0) (3, List.replicate 2 2) }
def K2 : Hst := { T := updT K1.T 5 (some (0, 1)), M := upM K1.M 0 (firstA (K1.M 0) 0 1), C := upC K1.C (0, 1) (4, List.replicate 1 2) }
def K3 : Hst := { T := updT K2.T 6 (some (1, 0)), M := upM K2.M 1 (firstA (K2.M 1) 0 1), C := upC K2.C (1, 0) (2, List.replicate 6 2) }
def K4 : Hst := putH K3 4 1 12
def K5 : Hst := flpH K4
def K6 : Hst := holdH K5 [8]
def K8 : Hst := (scanR K6 1).2
def K9 : Hst := (scanR K8 99).2
def K10 : Hst := flpH K9
theorem i0 : HInv nK K0 := HInv.new nK (fun s hs => by unfold nK; split <;> (try split) <;> omega) (by decide)
theorem k1 : alcI K0 3 2 = 4 ∧ alcH K0 3 2 = K1 := i0.alc_at (s := 0) (k := 4) (i := 0) (Rw := [1]) (by omega) (by omega) (by decide) (by kernel_rfl) (by kernel_rfl) (by omega)
theorem i1 : HInv nK K1 := by rw [← k1.2]; exact i0.alc _ _
theorem k2 : alcI K1 4 1 = 5 ∧ alcH K1 4 1 = K2 := i1.alc_at (s := 0) (k := 5) (i := 1) (Rw := []) (by omega) (by omega) (by decide) (by kernel_rfl) (by kernel_rfl) (by omega)
theorem i2 : HInv nK K2 := by rw [← k2.2]; exact i1.alc _ _
theorem k3 : alcI K2 5 0 = -1 ∧ alcH K2 5 0 = K2 := by
  have hb : alcB K2 5 0 = false := by kernel_rfl
  exact ⟨by unfold alcI; rw [hb]; rfl, by unfold alcH; rw [hb]; rfl⟩
theorem k4 : alcI K2 2 6 = 6 ∧ alcH K2 2 6 = K3 := i2.alc_at (s := 1) (k := 6) (i := 0) (Rw := []) (by omega) (by omega) (by decide) (by kernel_rfl) (by kernel_rfl) (by omega)
theorem i3 : HInv nK K3 := by rw [← k4.2]; exact i2.alc _ _
theorem k5 : putB9 K3 4 1 12 = true := by kernel_rfl
theorem k8 : (scanR K6 1).1 = 4 := by kernel_rfl
theorem k12 : clsI K10 4 = 3 := by kernel_rfl
end Wd
end Go.Proofs.YteiejjmhmmkdhaaGreat

/- What the laws ask of a memory, whoever keeps it: the chapter's runs. -/
namespace Go.Proofs.YteiejjmhmmkdhaaGreat
open Go.RowKit Go.Maps
set_option linter.unusedVariables false
namespace Wd
/-- the package's memory, of the call's own -/
structure PH (HA : HAt) (w0 wr : World) (p : Nat) (n : Nat → Nat) (H : Hst) (F : Nat → Prop) : Prop where
  ha : HA wr p n H F
  bel : Below w0.heap.size w0 wr
  fF : ∀ k, F k → w0.heap.size ≤ k
section
variable {HA : HAt} {w0 wr w1 : World} {p : Nat} {n : Nat → Nat} {H H' : Hst} {F F' : Nat → Prop}
theorem PH.keep (K : HeapK HA) (h : PH HA w0 wr p n H F) (g : Below wr.heap.size wr w1) : PH HA w0 w1 p n H F :=
  ⟨K.keep h.ha g.size (fun k hk => g.block k (K.lt h.ha k hk)), h.bel.trans (g.mono h.bel.size), h.fF⟩
theorem PH.step (h : PH HA w0 wr p n H F) (l : Left HA wr w1 p n H' F F') : PH HA w0 w1 p n H' F' := by
  obtain ⟨l1, l2, l3⟩ := l
  refine ⟨l1, below_ch9 h.bel l2 h.fF, fun k hk => ?_⟩
  rcases l3 k hk with h1 | h1
  · exact h.fF k h1
  · exact Nat.le_trans h.bel.size h1
end
end Wd
end Go.Proofs.YteiejjmhmmkdhaaGreat

/- What two identities lead to, plainly: put, swapped. -/
namespace Go.Proofs.YteiejjmhmmkdhaaGreat
open Go.RowKit Go.Maps
set_option linter.unusedVariables false
namespace Wd
section
variable {n : Nat → Nat} {H : Hst}
theorem upC_same {C : Pl → Int × List Int} {p : Pl} {x : Int × List Int} : upC C p x p = x := by unfold upC; rw [if_pos rfl]
theorem upC_ne {C : Pl → Int × List Int} {p q : Pl} {x : Int × List Int} (h : q ≠ p) : upC C p x q = C q := by unfold upC; rw [if_neg h]
theorem shI_T {i : Int} : (shI H i).T = H.T := by unfold shI sh; split <;> rfl
theorem shW_T {x : Int} : (shW H x).T = H.T := by unfold shW; split; exact shI_T; rfl
theorem holdH_T {l : List Int} : ∀ {H : Hst}, (holdH H l).T = H.T := by
  unfold holdH
  induction l with
  | nil => intro H; rfl
  | cons x l ih => intro H; rw [List.foldl_cons, ih, shW_T]
theorem odd_no {x : Int} (h : x % 2 = 1) : isOp x = false := by unfold isOp; simp; omega
theorem shW_odd {x : Int} (h : x % 2 = 1) : shW H x = H := by unfold shW; rw [odd_no h]; rfl
/-- an identity that leads to a cell -/
theorem at_id {k : Nat} {P : Pl} (hk : k < 1024) (h : H.T k = some P) : hasT H.T (k : Int) = true ∧ atP H.T (k : Int) = P ∧ clsI H k = (H.C P).1 ∧ fldI H k = (H.C P).2.length ∧ fsI H k = (H.C P).2 := by
  obtain ⟨h1, h2⟩ := atP_at h hk
  refine ⟨h2, h1, ?_, ?_, ?_⟩
  · unfold clsI; rw [if_pos h2, h1]
  · unfold fldI; rw [if_pos h2, h1]
  · unfold fsI; rw [if_pos h2, h1]
theorem put_odd {k : Nat} {P : Pl} {j : Nat} {x : Int} (hk : k < 1024) (h : H.T k = some P) (hj : j < (H.C P).2.length) (h0 : 0 < x) (hx : x % 2 = 1) :
    putB9 H k j x = true ∧ putH H k j x = { H with C := upC H.C P ((H.C P).1, (H.C P).2.set j x) } := by
  obtain ⟨a1, a2, a3, a4, a5⟩ := at_id hk h
  have hb : putB9 H k j x = true := by
    unfold putB9
    rw [a5, decide_eq_true ⟨by omega, by omega⟩, decide_eq_true (by omega)]; rfl
  have e : putC H k j x = { H with C := upC H.C P ((H.C P).1, (H.C P).2.set j x) } := by unfold putC; rw [a2, a5]; simp
  refine ⟨hb, ?_⟩
  unfold putH
  rw [if_pos hb, shW_odd hx, e]
  split <;> rfl
/-- the identities 4 and 5 and what they lead to -/
structure TC2 (H : Hst) (P Q : Pl) (a b : Int × List Int) : Prop where
  t4 : H.T 4 = some P
  t5 : H.T 5 = some Q
  ne : P ≠ Q
  cp : H.C P = a
  cq : H.C Q = b
  t9 : H.T 99 = none
variable {P Q : Pl} {a b : Int × List Int}
theorem TC2.v4 (h : TC2 H P Q a b) : clsI H 4 = a.1 ∧ fldI H 4 = a.2.length ∧ fsI H 4 = a.2 := by
  obtain ⟨_, _, e3, e4, e5⟩ := at_id (k := 4) (by omega) h.t4
  rw [h.cp] at e3 e4 e5
  exact ⟨e3, e4, e5⟩
theorem TC2.v5 (h : TC2 H P Q a b) : clsI H 5 = b.1 ∧ fldI H 5 = b.2.length ∧ fsI H 5 = b.2 := by
  obtain ⟨_, _, e3, e4, e5⟩ := at_id (k := 5) (by omega) h.t5
  rw [h.cq] at e3 e4 e5
  exact ⟨e3, e4, e5⟩
end
end Wd
end Go.Proofs.YteiejjmhmmkdhaaGreat

/- What is forgotten, plainly. -/
namespace Go.Proofs.YteiejjmhmmkdhaaGreat
open Go.RowKit Go.Maps
set_option linter.unusedVariables false
namespace Wd
/-- j cells of size s are Black, all others Free -/
structure FS (n : Nat → Nat) (H : Hst) (s j : Nat) : Prop where
  inv : HInv n H
  b1 : (H.M s 1).length = j
  o1 : ∀ t, t < 5 → t ≠ s → H.M t 1 = []
  e2 : ∀ t, t < 5 → H.M t 2 = []
  e3 : ∀ t, t < 5 → H.M t 3 = []
/-- j cells of size s are Ecru, all others Free -/
structure FS3 (n : Nat → Nat) (H : Hst) (s j : Nat) : Prop where
  inv : HInv n H
  b3 : (H.M s 3).length = j
  o3 : ∀ t, t < 5 → t ≠ s → H.M t 3 = []
  e1 : ∀ t, t < 5 → H.M t 1 = []
  e2 : ∀ t, t < 5 → H.M t 2 = []
section
variable {n : Nat → Nat} {H : Hst} {s j : Nat}
theorem FS.done (h : FS n H s j) : doneB H = true := by
  unfold doneB
  rw [all_step]
  intro t ht
  rw [h.e2 t ht]; rfl
theorem FS3.done (h : FS3 n H s j) : doneB H = true := by
  unfold doneB
  rw [all_step]
  intro t ht
  rw [h.e2 t ht]; rfl
theorem FS.alloc (h : FS n H s j) (hs : s < 5) (hn : n s = 16) (hj : j < 16) {cl f : Int} (c0 : 0 ≤ cl) (c1 : cl ≤ 4095) (hf : fo f = s) : 0 ≤ alcI H cl f ∧ FS n (alcH H cl f) s (j + 1) := by
  have hl := good_len (h.inv.good s hs)
  rw [h.b1, h.e2 s hs, h.e3 s hs, hn] at hl
  simp only [List.length_nil] at hl
  cases hR : H.M s 0 with
  | nil => rw [hR] at hl; simp at hl; omega
  | cons i R =>
    have hs' : (fo f).toNat = s := by omega
    have hb : alcB H cl f = true := by
      unfold alcB
      rw [hs', hR, decide_eq_true ⟨c0, c1⟩, decide_eq_true (show 0 ≤ fo f by omega)]
      rfl
    obtain ⟨s2, k, i2, R2, a1, a2, a3, a4, a5, a6, a7, a8, a9, a10, a11, a12⟩ := h.inv.alc_of hb
    have es : s2 = s := by omega
    subst es
    refine ⟨by omega, h.inv.alc cl f, ?_, fun t ht hts => ?_, fun t ht => ?_, fun t ht => ?_⟩ <;> rw [a12]
    · show (upM H.M s2 _ s2 1).length = _
      unfold upM
      rw [if_pos rfl]
      unfold firstA
      rw [a6]
      simp [upA, h.b1]
    · show upM H.M s2 _ t 1 = _
      unfold upM
      rw [if_neg hts]
      exact h.o1 t ht hts
    · show upM H.M s2 _ t 2 = _
      unfold upM
      split
      · rename_i e; subst e
        unfold firstA
        rw [a6]
        simp [upA, h.e2 t ht]
      · exact h.e2 t ht
    · show upM H.M s2 _ t 3 = _
      unfold upM
      split
      · rename_i e; subst e
        unfold firstA
        rw [a6]
        simp [upA, h.e3 t ht]
      · exact h.e3 t ht
end
end Wd
end Go.Proofs.YteiejjmhmmkdhaaGreat

/- One object that is held, plainly: what is put is there, whatever is made, put, swapped back, scanned, given back. -/
namespace Go.Proofs.YteiejjmhmmkdhaaGreat
open Go.RowKit Go.Maps
set_option linter.unusedVariables false
namespace Wd
/-- the identity 4 leads to P, of the class 5, its fields are L -/
structure Q4h (n : Nat → Nat) (H : Hst) (P : Pl) (L : List Int) : Prop where
  inv : HInv n H
  t : H.T 4 = some P
  c : H.C P = (5, L)
section
variable {n : Nat → Nat} {H : Hst} {P : Pl} {L : List Int}
theorem Q4h.put (h : Q4h n H P L) {j : Nat} {x : Int} (hj : j < L.length) (h0 : 0 < x) (h1 : x ≤ 4294967295) (hx : x % 2 = 1) : putB9 H 4 j x = true ∧ Q4h n (putH H 4 j x) P (L.set j x) := by
  obtain ⟨e1, e2⟩ := put_odd (k := 4) (j := j) (x := x) (by omega) h.t (by rw [h.c]; exact hj) h0 hx
  have e2' : putH H 4 j x = { H with C := upC H.C P ((H.C P).1, (H.C P).2.set j x) } := e2
  refine ⟨e1, h.inv.put 4 j x (by omega), ?_, ?_⟩
  · rw [e2']; exact h.t
  · rw [e2']
    show upC H.C P _ P = _
    rw [upC_same, h.c]
theorem Q4h.alloc (h : Q4h n H P L) (cl f : Int) : Q4h n (alcH H cl f) P L ∧ (alcI H cl f = -1 ∨ ∃ k : Nat, alcI H cl f = k ∧ 4 ≤ k ∧ k < 1024 ∧ k ≠ 4 ∧ ∃ Q, (alcH H cl f).T k = some Q) := by
  cases hb : alcB H cl f with
  | false =>
    have e1 : alcI H cl f = -1 := by unfold alcI; rw [hb]; rfl
    have e2 : alcH H cl f = H := by unfold alcH; rw [hb]; rfl
    rw [e1, e2]
    exact ⟨h, Or.inl rfl⟩
  | true =>
    obtain ⟨s, k, i, R, a1, a2, a3, a4, a5, a6, a7, a8, a9, a10, a11, a12⟩ := h.inv.alc_of hb
    have hk4 : k ≠ 4 := fun e => by subst e; rw [h.t] at a9; cases a9
    have hP : P ≠ ((s : Int), i) := fun e => by
      have hm := h.inv.miss (s := s) (i := i) a1 (by rw [a6]; simp)
      have := ofR_none h.inv.inv hm 4
      rw [h.t, e] at this
      exact this rfl
    refine ⟨⟨h.inv.alc cl f, ?_, ?_⟩, Or.inr ⟨k, a11, a7, a8, hk4, ((s : Int), i), ?_⟩⟩ <;> rw [a12]
    · show updT H.T k _ 4 = _
      unfold updT
      rw [if_neg (fun e => hk4 e.symm)]
      exact h.t
    · show upC H.C _ _ P = _
      rw [upC_ne hP]
      exact h.c
    · show updT H.T k _ k = _
      exact updT_self _
theorem Q4h.hold (h : Q4h n H P L) (l : List Int) : Q4h n (holdH H l) P L := ⟨h.inv.hold l, by rw [holdH_T]; exact h.t, by rw [holdH_C]; exact h.c⟩
theorem HInv.scanR (h : HInv n H) (x : Int) : HInv n (scanR H x).2 := HInv.scanN _ _ _ h
theorem Q4h.cf (h : Q4h n H P L) : clsI H 4 = 5 ∧ fldI H 4 = L.length := by
  obtain ⟨_, _, e3, e4, _⟩ := at_id (k := 4) (by omega) h.t
  rw [h.c] at e3 e4
  exact ⟨e3, e4⟩
end
end Wd
end Go.Proofs.YteiejjmhmmkdhaaGreat

/- The colours of cells: what is shaded, what stays. -/
namespace Go.Proofs.YteiejjmhmmkdhaaGreat
open Go.RowKit Go.Maps
set_option linter.unusedVariables false
namespace Wd
theorem color_shade (A : Mst) (i j : Int) : colorR (shadeA A i) j = if j = i ∧ colorR A i = 3 then 2 else colorR A j := by
  unfold shadeA
  by_cases h : colorR A i = 3
  · rw [if_pos h]
    have n0 : i ∉ A 0 := fun m => by unfold colorR at h; rw [if_pos m] at h; omega
    have n1 : i ∉ A 1 := fun m => by unfold colorR at h; rw [if_neg n0, if_pos m] at h; omega
    by_cases c : j = i
    · subst c
      rw [if_pos ⟨rfl, h⟩]
      unfold colorR
      rw [if_neg (by simpa [upA] using n0), if_neg (by simpa [upA] using n1), if_pos (by simp [upA])]
    · rw [if_neg (fun e => c e.1)]
      unfold colorR
      simp [upA, c]
  · rw [if_neg h, if_neg (fun e => h e.2)]
/-- a place that is one: its row is its size -/
def okP (p : Pl) : Prop := ∃ s : Nat, s < 5 ∧ p.1 = s
theorem okP.eq {p q : Pl} (hp : okP p) (hq : okP q) (h1 : szP p = szP q) (h2 : p.2 = q.2) : p = q := by
  obtain ⟨s, _, e⟩ := hp
  obtain ⟨t, _, f⟩ := hq
  unfold szP at h1
  rw [e, f] at h1
  have : s = t := by simpa using h1
  subst this
  exact Prod.ext (by rw [e, f]) h2
theorem colP_sh (H : Hst) {p q : Pl} (hp : okP p) (hq : okP q) : colP (sh H p) q = if q = p ∧ colP H p = 3 then 2 else colP H q := by
  unfold colP
  show colorR (upM H.M (szP p) (shadeA (H.M (szP p)) p.2) (szP q)) q.2 = _
  unfold upM
  by_cases c : szP q = szP p
  · rw [if_pos c, color_shade]
    by_cases d : q.2 = p.2 ∧ colorR (H.M (szP p)) p.2 = 3
    · rw [if_pos d, if_pos ⟨hq.eq hp c d.1, d.2⟩]
    · rw [if_neg d, if_neg (fun e => d ⟨by rw [e.1], e.2⟩), c]
  · rw [if_neg c, if_neg (fun e => c (by rw [e.1]))]
/-- the same memory, a little darker -/
structure Dk (H H' : Hst) : Prop where
  t : H'.T = H.T
  c : H'.C = H.C
  col : ∀ q, okP q → colP H' q = colP H q ∨ (colP H q = 3 ∧ colP H' q = 2)
theorem Dk.refl (H : Hst) : Dk H H := ⟨rfl, rfl, fun _ _ => .inl rfl⟩
theorem Dk.trans {H H1 H2 : Hst} (a : Dk H H1) (b : Dk H1 H2) : Dk H H2 :=
  ⟨b.t.trans a.t, b.c.trans a.c, fun q hq => by rcases a.col q hq with h | h <;> rcases b.col q hq with g | g <;> omega⟩
theorem Dk.sh (H : Hst) {p : Pl} (hp : okP p) : Dk H (Wd.sh H p) := ⟨rfl, rfl, fun q hq => by
  rw [colP_sh H hp hq]
  split
  · rename_i e; rw [e.1]; exact .inr ⟨e.2, rfl⟩
  · exact .inl rfl⟩
theorem HInv.okP {n : Nat → Nat} {H : Hst} (h : HInv n H) {k : Nat} {p : Pl} (ht : H.T k = some p) : Wd.okP p := by
  obtain ⟨s, hs, e, _⟩ := h.pl k p ht
  exact ⟨s, hs, e⟩
theorem Dk.shI {n : Nat → Nat} {H : Hst} (h : HInv n H) (i : Int) : Dk H (Wd.shI H i) := by
  unfold Wd.shI
  split
  · rename_i hh
    obtain ⟨k, p, rfl, _, _, hp, e⟩ := h.has hh
    rw [e]
    exact Dk.sh H (h.okP hp)
  · exact Dk.refl H
theorem Dk.shW {n : Nat → Nat} {H : Hst} (h : HInv n H) (x : Int) : Dk H (Wd.shW H x) := by
  unfold Wd.shW
  split
  · exact Dk.shI h _
  · exact Dk.refl H
theorem Dk.hold {n : Nat → Nat} {H : Hst} (h : HInv n H) : ∀ l : List Int, Dk H (holdH H l) := by
  intro l
  unfold holdH
  induction l generalizing H with
  | nil => exact Dk.refl H
  | cons x l ih => exact (Dk.shW h x).trans (ih (h.shW x))
/-- no Ecru one is what the word names -/
def okW (H : Hst) (x : Int) : Prop := isOp x = true → ∀ k q, x / 2 = ((k : Nat) : Int) → H.T k = some q → colP H q ≠ 3
theorem okW.dark {H H' : Hst} {n : Nat → Nat} {x : Int} (hi : HInv n H) (h : okW H x) (d : Dk H H') : okW H' x := fun ho k q e ht => by
  rw [d.t] at ht
  have := h ho k q e ht
  rcases d.col q (hi.okP ht) with g | g <;> omega
theorem okW.shW {H : Hst} {n : Nat → Nat} (h : HInv n H) (x : Int) : okW (Wd.shW H x) x := fun ho k q e ht => by
  have hT : (Wd.shW H x).T = H.T := (Dk.shW h x).t
  rw [hT] at ht
  have bk := h.inv.bd k q ht
  unfold Wd.shW
  rw [if_pos ho, e]
  obtain ⟨h1, h2⟩ := atP_at ht (by omega : k < 1024)
  have e2 : Wd.shI H (k : Nat) = Wd.sh H q := by unfold Wd.shI; rw [if_pos h2, h1]
  rw [e2, colP_sh H (h.okP ht) (h.okP ht)]
  by_cases c : colP H q = 3
  · rw [if_pos ⟨rfl, c⟩]; omega
  · rw [if_neg (fun e => c e.2)]; exact c
theorem okW.hold {n : Nat → Nat} : ∀ (l : List Int) {H : Hst}, HInv n H → ∀ x, x ∈ l → okW (holdH H l) x
  | [], _, _, _, hx => by cases hx
  | y :: l, H, h, x, hx => by
    rcases List.mem_cons.1 hx with rfl | hx
    · exact (okW.shW h x).dark (h.shW x) (Dk.hold (h.shW x) l)
    · exact okW.hold l (h.shW y) x hx
/-- no Black cell names an Ecru one -/
def Tri (H : Hst) : Prop := ∀ p, okP p → colP H p = 1 → ∀ x, x ∈ (H.C p).2 → okW H x
theorem Tri.dark {n : Nat → Nat} {H H' : Hst} (h : Tri H) (hi : HInv n H) (d : Dk H H') : Tri H' := fun p hp hc x hx => by
  rw [d.c] at hx
  have : colP H p = 1 := by rcases d.col p hp with g | g <;> omega
  exact (h p hp this x hx).dark hi d
theorem Tri.hold {n : Nat → Nat} {H : Hst} (h : Tri H) (hi : HInv n H) (l : List Int) : Tri (holdH H l) := h.dark hi (Dk.hold hi l)
end Wd
end Go.Proofs.YteiejjmhmmkdhaaGreat

/- The landed memory: what makes cells Grey: shade, shadeWord, Hold, Swap. -/
namespace Go.Proofs.YteiejjmhmmkdhaaGreat
open Go.RowKit Go.Maps
set_option linter.unusedVariables false
set_option maxRecDepth 20000
namespace Wd
/-- what a call leaves: the memory H', the same words -/
def Tn (w w' : World) (p : Nat) (n : Nat → Nat) (H' : Hst) (B : Nat → Nat → Prop) (mp gw : Nat → Nat) (tb mt : Nat) (X : Nat → Nat → Int) : Prop :=
  ∃ B', HQ w' p n H' B' mp gw tb mt X ∧ Ch9 (un B) w w' ∧ Newer9 (un B) (un B') w.heap.size
section
variable {w w' w1 w2 : World} {p : Nat} {n : Nat → Nat} {B B1 : Nat → Nat → Prop} {mp gw : Nat → Nat} {tb mt : Nat} {T T' : Tst} {M : Nat → Mst} {X : Nat → Nat → Int} {H H1 H2 : Hst} {i : Int} {s c : Nat} {cl : Int} {L : List Int}
theorem Tn.refl (h : HQ w p n H B mp gw tb mt X) : Tn w w p n H B mp gw tb mt X := ⟨B, h, Ch9.refl _ _, newer_refl9 _ _⟩
theorem Tn.keep (h : Tn w w1 p n H B mp gw tb mt X) (g : Below w1.heap.size w1 w2) : Tn w w2 p n H B mp gw tb mt X := by
  obtain ⟨B', h1, h2, h3⟩ := h
  exact ⟨B', h1.keep g, h2.trans (below_un g), h3⟩
theorem Tn.pre (hb : Below w.heap.size w w1) (h : Tn w1 w2 p n H B mp gw tb mt X) : Tn w w2 p n H B mp gw tb mt X := by
  obtain ⟨B', h1, h2, h3⟩ := h
  exact ⟨B', h1, (below_un hb).trans h2, fun k hk => by
    rcases h3 k hk with h | h
    · exact Or.inl h
    · exact Or.inr (Nat.le_trans hb.size h)⟩
theorem tn_then (c1 : Ch9 (un B) w w1) (n1 : Newer9 (un B) (un B1) w.heap.size) (h : Tn w1 w2 p n H B1 mp gw tb mt X) : Tn w w2 p n H B mp gw tb mt X := by
  obtain ⟨B', h1, h2, h3⟩ := h
  exact ⟨B', h1, c1.then_ h2 n1, Newer9.trans n1 h3 c1.size⟩
theorem HQ.mstep (h : HQ w p n H B mp gw tb mt X) (s5 : s < 5) (hn : 1 ≤ n s) {A' : Mst} {F' : Nat → Prop} (hm : MA w' (mp s) (n s) A' F') (hc : Ch9 (B (3 + s)) w w') (hN : Newer9 (B (3 + s)) F' w.heap.size) (hi : HInv n { H with M := upM H.M s A' }) :
    Tn w w' p n { H with M := upM H.M s A' } B mp gw tb mt X := by
  obtain ⟨a1, a2, a3⟩ := h.hp.mstep s5 hn hm hc hN
  exact ⟨_, ⟨a1, h.wr, hi⟩, a2, a3⟩
theorem WR.ids {C : Pl → Int × List Int} (h : WR n T C X) (hT : ∀ k q, T' k = some q → ∃ j, T j = some q) : WR n T' C X := fun k s c hk => by
  obtain ⟨j, hj⟩ := hT k _ hk
  exact h j s c hj
set_option maxHeartbeats 4000000 in
theorem vshade_c (h : HQ w p n H B mp gw tb mt X) (i : Int) (i0 : -9223372036854775808 ≤ i) (i1 : i ≤ 9223372036854775807) :
    Calls Tryz.prog 160 #[.pointer (some ⟨p, 0, none⟩), .int .i64 i] w fun e w' => e = .returned (.tuple #[]) ∧ Tn w w' p n (shI H i) B mp gw tb mt X := by
  have ct := h.hp.ct
  have P := Lib.hid (KT.at' i h.hp.tbl i0 i1)
  cases hh : hasT H.T i with
  | false =>
    have e1 : shI H i = H := by unfold shI; rw [hh]; rfl
    rw [e1]
    rw [hh, atP_no hh] at P
    unfold plV at P
    simp only at P
    replace h := Lib.hid h
    clear hh e1
    go_enter Tryz.func160, Tryz.ntmps160
    go_wp2_with (first | (go_at_call 73; ((with_reducible refine (P.out).mono ?_); rintro e w1 ⟨rfl, hb⟩; replace hb := Lib.hid hb)))
    go_end0
    exact ⟨rfl, (Tn.refl h.out).keep (hb.out.trans (((Below.refl _ _).alloc (Nat.le_refl _) _).mono hb.out.size))⟩
  | true =>
    obtain ⟨s, c, cl, L, o⟩ := h.ob hh
    have e1 : shI H i = { H with M := upM H.M s (shadeA (H.M s) c) } := by
      unfold shI sh szP
      rw [if_pos hh, o.ha]
      simp
    have hi : HInv n { H with M := upM H.M s (shadeA (H.M s) c) } := by rw [← e1]; exact h.inv.shI i
    rw [e1]
    rw [hh, o.ha] at P
    have hs5 : (s : Int) < 5 := by have := o.s5; omega
    have cn := o.cn
    have few := o.few
    have hn0 : ¬ (n s = 0) := by omega
    have cm := Lib.hid (fun (w1 : World) (hb : Below w.heap.size w w1) => (h.hp.keep hb).cm s o.s5)
    simp only [if_neg hn0] at cm
    have PM := Lib.hid (fun (w1 : World) (hb : Below w.heap.size w w1) => KM.shade (c : Int) ((h.hp.keep hb).mill s o.s5 (by omega)) (by omega) (by omega))
    have hss : s < 5 := o.s5
    unfold plV at P
    simp only at P
    replace h := Lib.hid h
    replace hi := Lib.hid hi
    clear hh o hn0 e1
    go_enter Tryz.func160, Tryz.ntmps160
    go_wp2_with (first | (go_at_call 73; ((with_reducible refine (P.out).mono ?_); rintro e w1 ⟨rfl, hb⟩; replace hb := Lib.hid hb)))
    have hb3 := hb.out.trans (((Below.refl _ _).alloc (Nat.le_refl _) (.cells #[.int .i64 s, .int .i64 c] 124)).mono hb.out.size)
    have q0 : (w1.alloc (.cells #[.int .i64 s, .int .i64 c] 124)).cell? ⟨w1.heap.size, 0, none⟩ = some (.int .i64 s) := by simp
    have q1 : (w1.alloc (.cells #[.int .i64 s, .int .i64 c] 124)).cell? ⟨w1.heap.size, 1, none⟩ = some (.int .i64 c) := by simp
    have cm1 := cm.out _ hb3
    generalize (w1.alloc (.cells #[.int .i64 s, .int .i64 c] 124)) = w2 at *
    replace hb3 := Lib.hid hb3
    go_still_tail 9, (by kernel_rfl)
    go_wp2_with (first | (go_at_call 163; ((with_reducible refine (PM.out _ hb3.out.drew).mono ?_); rintro e w4 ⟨F', he, d1, d2, d3⟩; subst he)))
    go_end0
    exact ⟨rfl, Tn.pre hb3.out.drew ((h.out.keep hb3.out.drew).mstep hss (by omega) d1 d2 d3 hi.out)⟩
set_option maxHeartbeats 4000000 in
theorem vshw_c (h : HQ w p n H B mp gw tb mt X) (x : Int) (x0 : 0 ≤ x) (x1 : x ≤ 4294967295) :
    Calls Tryz.prog 154 #[.pointer (some ⟨p, 0, none⟩), .int .u32 x] w fun e w' => e = .returned (.tuple #[]) ∧ Tn w w' p n (shW H x) B mp gw tb mt X := by
  have P := Lib.hid (id9_c x x0 x1)
  cases hx : isOp x with
  | false =>
    have e : shW H x = H := by unfold shW; rw [hx]; rfl
    have e2 : idW x = 0 := by unfold idW; rw [hx]; rfl
    rw [e]
    rw [hx, e2] at P
    replace h := Lib.hid h
    clear e e2
    go_enter Tryz.func154, Tryz.ntmps154
    go_wp2_with (first | (go_at_call 159; ((with_reducible refine (P.out _).mono ?_); rintro e w1 ⟨rfl, hw1⟩; subst w1)))
    go_end0
    exact ⟨rfl, Tn.refl h.out⟩
  | true =>
    have e : shW H x = shI H (x / 2) := by unfold shW; rw [hx]; rfl
    have e2 : idW x = x / 2 := by unfold idW; rw [hx]; rfl
    rw [e]
    rw [hx, e2] at P
    have P2 := Lib.hid (vshade_c h (x / 2) (by omega) (by omega))
    clear e e2 h
    generalize x / 2 = y at *
    go_enter Tryz.func154, Tryz.ntmps154
    go_wp2_with (first | (go_at_call 159; ((with_reducible refine (P.out _).mono ?_); rintro e w1 ⟨rfl, hw1⟩; subst w1)) | (go_at_call 160; ((with_reducible refine (P2.out).mono ?_); rintro e w1 ⟨rfl, hd⟩; replace hd := Lib.hid hd)))
    go_end0
    exact ⟨rfl, hd.out⟩
end
end Wd
end Go.Proofs.YteiejjmhmmkdhaaGreat

/- The landed memory: the least size that has a Grey cell; Done. -/
namespace Go.Proofs.YteiejjmhmmkdhaaGreat
open Go.RowKit Go.Maps
set_option linter.unusedVariables false
set_option maxRecDepth 20000
namespace Wd
/-- a mill's pointer -/
def mv (n mp : Nat → Nat) (s : Nat) : Option Addr := if n s = 0 then none else some ⟨mp s, 0, none⟩
theorem good_nil {A : Mst} (h : Good 0 A) : A 0 = [] ∧ A 1 = [] ∧ A 2 = [] ∧ A 3 = [] := by
  have := good_len h
  refine ⟨?_, ?_, ?_, ?_⟩ <;> exact List.length_eq_zero_iff.1 (by omega)
section
variable {w w' w1 w2 : World} {p : Nat} {n : Nat → Nat} {B B1 : Nat → Nat → Prop} {mp gw : Nat → Nat} {tb mt : Nat} {T T' : Tst} {M : Nat → Mst} {X : Nat → Nat → Int} {H H1 H2 : Hst} {i : Int} {s c : Nat} {cl : Int} {L : List Int}
end
end Wd
end Go.Proofs.YteiejjmhmmkdhaaGreat

/- The landed memory: Swap. -/
namespace Go.Proofs.YteiejjmhmmkdhaaGreat
open Go.RowKit Go.Maps
set_option linter.unusedVariables false
set_option maxRecDepth 20000
namespace Wd
theorem upM_self {M : Nat → Mst} {s : Nat} : upM M s (M s) = M := by
  funext t
  unfold upM
  split
  · rename_i e; rw [e]
  · rfl
section
variable {w w' w1 w2 : World} {p : Nat} {n : Nat → Nat} {B B1 : Nat → Nat → Prop} {mp gw : Nat → Nat} {tb mt : Nat} {T T' : Tst} {M : Nat → Mst} {X : Nat → Nat → Int} {H H1 H2 : Hst} {i : Int} {s c : Nat} {cl : Int} {L : List Int}
theorem Tn.shade (t : Tn w w1 p n H1 B mp gw tb mt X) (i : Int) (i0 : -9223372036854775808 ≤ i) (i1 : i ≤ 9223372036854775807) :
    Calls Tryz.prog 160 #[.pointer (some ⟨p, 0, none⟩), .int .i64 i] w1 fun e w' => e = .returned (.tuple #[]) ∧ Tn w w' p n (shI H1 i) B mp gw tb mt X := by
  obtain ⟨B', h1, h2, h3⟩ := t
  refine (vshade_c h1 i i0 i1).mono ?_
  rintro e w' ⟨rfl, t2⟩
  exact ⟨rfl, tn_then h2 h3 t2⟩
theorem Tn.shw (t : Tn w w1 p n H1 B mp gw tb mt X) (x : Int) (x0 : 0 ≤ x) (x1 : x ≤ 4294967295) :
    Calls Tryz.prog 154 #[.pointer (some ⟨p, 0, none⟩), .int .u32 x] w1 fun e w' => e = .returned (.tuple #[]) ∧ Tn w w' p n (shW H1 x) B mp gw tb mt X := by
  obtain ⟨B', h1, h2, h3⟩ := t
  refine (vshw_c h1 x x0 x1).mono ?_
  rintro e w' ⟨rfl, t2⟩
  exact ⟨rfl, tn_then h2 h3 t2⟩
end
end Wd
end Go.Proofs.YteiejjmhmmkdhaaGreat

/- The landed memory: look, Scan. -/
namespace Go.Proofs.YteiejjmhmmkdhaaGreat
open Go.RowKit Go.Maps
set_option linter.unusedVariables false
set_option maxRecDepth 20000
namespace Wd
section
variable {w w' w1 w2 : World} {p : Nat} {n : Nat → Nat} {B B1 : Nat → Nat → Prop} {mp gw : Nat → Nat} {tb mt : Nat} {T T' : Tst} {M : Nat → Mst} {X : Nat → Nat → Int} {H H1 H2 : Hst} {i : Int} {s c : Nat} {cl : Int} {L : List Int}
theorem first_row {A : Mst} {x : Nat} (h : A x ≠ []) : firstR A x ∈ A x := by
  unfold firstR
  cases hA : A x with
  | nil => exact absurd hA h
  | cons y t => simp
theorem Tn.pos (t : Tn w w1 p n H1 B mp gw tb mt X) {s : Nat} (s5 : s < 5) {x : Nat} (hx : x < 4) (hne : H1.M s x ≠ []) : 1 ≤ n s := by
  obtain ⟨B', h1, h2, h3⟩ := t
  rcases Nat.eq_zero_or_pos (n s) with h0 | h0
  · exfalso
    have hg := h1.inv.good s s5
    rw [h0] at hg
    obtain ⟨e0, e1, e2, e3⟩ := good_nil hg
    rcases (show x = 0 ∨ x = 1 ∨ x = 2 ∨ x = 3 by omega) with rfl | rfl | rfl | rfl
    · exact hne e0
    · exact hne e1
    · exact hne e2
    · exact hne e3
  · exact h0
/-- whose cell the first Grey one is -/
theorem Tn.whose (t : Tn w w1 p n H1 B mp gw tb mt X) {s : Nat} (s5 : s < 5) (hne : H1.M s 2 ≠ []) : ∃ k c : Nat, firstR (H1.M s) 2 = (c : Int) ∧ H1.T k = some ((s : Int), (c : Int)) := by
  obtain ⟨B', h1, h2, h3⟩ := t
  have hm := first_row hne
  have hib := (good_mem (h1.inv.good s s5)).1 (show firstR (H1.M s) 2 ∈ LL (H1.M s) by unfold LL; simp [hm])
  obtain ⟨k, hk⟩ := h1.inv.full s _ s5 hib.1 hib.2 (fun h0 => by have := good_apart (h1.inv.good s s5) (x := 0) (y := 2) (by omega) (by omega) h0 hm; omega)
  refine ⟨k, (firstR (H1.M s) 2).toNat, by omega, ?_⟩
  rw [show (((firstR (H1.M s) 2).toNat : Nat) : Int) = firstR (H1.M s) 2 by omega]
  exact hk
end
end Wd
end Go.Proofs.YteiejjmhmmkdhaaGreat

/- The landed memory: Flip. -/
namespace Go.Proofs.YteiejjmhmmkdhaaGreat
open Go.RowKit Go.Maps
set_option linter.unusedVariables false
set_option maxRecDepth 20000
namespace Wd
section
variable {w w' w1 w2 : World} {p : Nat} {n : Nat → Nat} {B B1 : Nat → Nat → Prop} {mp gw : Nat → Nat} {tb mt : Nat} {T T' : Tst} {M M' : Nat → Mst} {X : Nat → Nat → Int} {H H1 H2 : Hst} {i : Int} {s c : Nat} {cl : Int} {L : List Int}
/-- the memory as it lies, in the midst of a call -/
def FV (w w' : World) (p : Nat) (n : Nat → Nat) (T : Tst) (M : Nat → Mst) (B : Nat → Nat → Prop) (mp gw : Nat → Nat) (tb mt : Nat) (X : Nat → Nat → Int) : Prop :=
  ∃ B', HP w' p n B' mp gw tb mt T M X ∧ Ch9 (un B) w w' ∧ Newer9 (un B) (un B') w.heap.size
theorem FV.keep (h : FV w w1 p n T M B mp gw tb mt X) (g : Below w1.heap.size w1 w2) : FV w w2 p n T M B mp gw tb mt X := by
  obtain ⟨B', h1, h2, h3⟩ := h
  exact ⟨B', h1.keep g, h2.trans (below_un g), h3⟩
theorem FV.ct (h : FV w w1 p n T M B mp gw tb mt X) : w1.cell? ⟨p, 10, none⟩ = some (.pointer (some ⟨tb, 0, none⟩)) := by
  obtain ⟨B', h1, h2, h3⟩ := h
  exact h1.ct
end
end Wd
end Go.Proofs.YteiejjmhmmkdhaaGreat
