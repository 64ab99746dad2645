/- The ring of the package: it is made. -/
import Derived.Test.YtjobeomadkaeoaaNRun
import Derived.BigRegion
namespace Go.Proofs.Ytjobeomadkaeoaa
open Go.RowKit
set_option linter.unusedVariables false
namespace Wd
theorem new_none {w : World} (n : Int) (hn : n < 1 ∨ 4096 < n) :
    Calls Try.prog 26 #[.int .i64 n] w fun e w' => e = .returned (.pointer .none) ∧ w' = w := by
  by_cases h1 : n < 1
  · have d1 : decide (n < 1) = true := by simpa using h1
    go_enter Try.func26, Try.ntmps26
    go_wp2
    go_ret
    exact ⟨rfl, rfl⟩
  · have d1 : decide (n < 1) = false := by simpa using h1
    have d2 : decide (4096 < n) = true := by simp; omega
    have d3 : decide (n > 4096) = true := by simp; omega
    go_enter Try.func26, Try.ntmps26
    go_wp2
    go_ret
    exact ⟨rfl, rfl⟩
/-- three blocks that are made: two rows of noughts and what points at them -/
theorem made_rb {w : World} {n s ga gb : Nat} {Z : Array Value} (hn : 1 ≤ n) (hZ : Z = madeCells #[.int .i64 0] n) (hs : s = w.heap.size) (hg : (ga = s ∧ gb = s + 1) ∨ (ga = s + 1 ∧ gb = s)) :
    RB (((w.alloc (.cells Z 3)).alloc (.cells Z 3)).alloc (.cells #[.slice (some ⟨ga, 0, none⟩) n n, .slice (some ⟨gb, 0, none⟩) n n, .int .i64 n] 55)).drew (s + 1 + 1) ga gb n (fun _ => 0) (fun _ => 0) n
    ∧ Below w.heap.size w (((w.alloc (.cells Z 3)).alloc (.cells Z 3)).alloc (.cells #[.slice (some ⟨ga, 0, none⟩) n n, .slice (some ⟨gb, 0, none⟩) n n, .int .i64 n] 55)).drew := by
  have hz : ∀ k, k < n → Z[k]? = some (.int .i64 0) := by
    intro k hk
    have : (madeCells #[Value.int .i64 0] n).toList[k]? = some (.int .i64 0) := by rw [toList_madeCells_one]; simp [hk]
    rw [hZ, ← Array.getElem?_toList]
    exact this
  have hb : ∀ (k : Nat) (W : World), W.heap[ga]? = some (.cells Z 3 (0, 0)) → k < n → W.cell? ⟨ga, k, none⟩ = some (.int .i64 0) := by
    intro k W h hk
    simp [World.cell?, h, hz k hk]
  have hb' : ∀ (k : Nat) (W : World), W.heap[gb]? = some (.cells Z 3 (0, 0)) → k < n → W.cell? ⟨gb, k, none⟩ = some (.int .i64 0) := by
    intro k W h hk
    simp [World.cell?, h, hz k hk]
  have s1 : (w.alloc (.cells Z 3)).heap.size = s + 1 := by rw [hs]; simp
  have s2 : ((w.alloc (.cells Z 3)).alloc (.cells Z 3)).heap.size = s + 1 + 1 := by rw [hs]; simp
  have hh1 : (((w.alloc (.cells Z 3)).alloc (.cells Z 3)).alloc (.cells #[.slice (some ⟨ga, 0, none⟩) n n, .slice (some ⟨gb, 0, none⟩) n n, .int .i64 n] 55)).drew.heap[s]? = some (.cells Z 3 (0, 0)) := by
    show (((w.alloc (.cells Z 3)).alloc (.cells Z 3)).alloc (.cells #[.slice (some ⟨ga, 0, none⟩) n n, .slice (some ⟨gb, 0, none⟩) n n, .int .i64 n] 55)).heap[s]? = _
    rw [Below.heap_alloc _ _ _ (by omega), Below.heap_alloc _ _ _ (by omega), hs]
    exact heap_alloc_new _ _
  have hh2 : (((w.alloc (.cells Z 3)).alloc (.cells Z 3)).alloc (.cells #[.slice (some ⟨ga, 0, none⟩) n n, .slice (some ⟨gb, 0, none⟩) n n, .int .i64 n] 55)).drew.heap[s + 1]? = some (.cells Z 3 (0, 0)) := by
    show (((w.alloc (.cells Z 3)).alloc (.cells Z 3)).alloc (.cells #[.slice (some ⟨ga, 0, none⟩) n n, .slice (some ⟨gb, 0, none⟩) n n, .int .i64 n] 55)).heap[s + 1]? = _
    rw [Below.heap_alloc _ _ _ (by omega), ← s1]
    exact heap_alloc_new _ _
  have hh3 : (((w.alloc (.cells Z 3)).alloc (.cells Z 3)).alloc (.cells #[.slice (some ⟨ga, 0, none⟩) n n, .slice (some ⟨gb, 0, none⟩) n n, .int .i64 n] 55)).drew.heap[s + 1 + 1]? = some (.cells #[.slice (some ⟨ga, 0, none⟩) n n, .slice (some ⟨gb, 0, none⟩) n n, .int .i64 n] 55 (0, 0)) := by
    show (((w.alloc (.cells Z 3)).alloc (.cells Z 3)).alloc (.cells #[.slice (some ⟨ga, 0, none⟩) n n, .slice (some ⟨gb, 0, none⟩) n n, .int .i64 n] 55)).heap[s + 1 + 1]? = _
    rw [← s2]
    exact heap_alloc_new _ _
  have hB : Below w.heap.size w (((w.alloc (.cells Z 3)).alloc (.cells Z 3)).alloc (.cells #[.slice (some ⟨ga, 0, none⟩) n n, .slice (some ⟨gb, 0, none⟩) n n, .int .i64 n] 55)).drew :=
    (((((Below.refl _ _).alloc (Nat.le_refl _) _).alloc (by simp) _).alloc (by simp; omega) _).drew)
  refine ⟨?_, hB⟩
  generalize (((w.alloc (.cells Z 3)).alloc (.cells Z 3)).alloc (.cells #[.slice (some ⟨ga, 0, none⟩) n n, .slice (some ⟨gb, 0, none⟩) n n, .int .i64 n] 55)).drew = W at hh1 hh2 hh3
  have h1 : W.heap[ga]? = some (.cells Z 3 (0, 0)) := by rcases hg with ⟨rfl, rfl⟩ | ⟨rfl, rfl⟩ <;> assumption
  have h2 : W.heap[gb]? = some (.cells Z 3 (0, 0)) := by rcases hg with ⟨rfl, rfl⟩ | ⟨rfl, rfl⟩ <;> assumption
  exact ⟨by simp [World.cell?, hh3], by simp [World.cell?, hh3], by simp [World.cell?, hh3], by simp [World.frozen?, hh3], fun k hk => hb k W h1 hk, fun k hk => hb' k W h2 hk, fun k => by simp [World.frozen?, h1], fun k => by simp [World.frozen?, h2], by omega, by omega, by omega⟩
theorem Below.ch {w wr w1 : World} {p g1 g2 : Nat} (h : Below w.heap.size w wr) (c : Ch (FF p g1 g2) wr w1) (hF : ∀ k, FF p g1 g2 k → w.heap.size ≤ k) : Below w.heap.size w w1 :=
  ⟨c.os.trans h.os, c.tape.trans h.tape, c.output.trans h.output, Nat.le_trans h.size c.size, fun k hk => (c.block k (Nat.lt_of_lt_of_le hk h.size) (fun e => by have := hF k e; omega)).trans (h.block k hk)⟩
/-- the rows while they are filled -/
structure NSt (w : World) (p g1 g2 n k : Nat) (wr : World) : Prop where
  rb : ∃ f h, RB wr p g1 g2 n f h n ∧ ∀ j, j < k → f j = (((j + 1) % n : Nat) : Int) ∧ h ((j + 1) % n) = (j : Int)
  bel : Below w.heap.size w wr
  far : ∀ k, FF p g1 g2 k → w.heap.size ≤ k
theorem mod_apart {j k n : Nat} (hj : j < k) (hk : k < n) : (j + 1) % n ≠ (k + 1) % n := by
  rw [Nat.mod_eq_of_lt (by omega : j + 1 < n)]
  by_cases h : k + 1 = n
  · rw [h, Nat.mod_self]; omega
  · rw [Nat.mod_eq_of_lt (by omega : k + 1 < n)]; omega
/-- one round -/
theorem NSt.step {w wr : World} {p g1 g2 n k : Nat} (h : NSt w p g1 g2 n k wr) (hk : k < n) :
    Calls Try.prog 32 #[.pointer (some ⟨p, 0, none⟩), .int .i64 (k : Int), .int .i64 (((k + 1) % n : Nat) : Int)] wr fun e w' => e = .returned (.tuple #[]) ∧ NSt w p g1 g2 n (k + 1) w' := by
  obtain ⟨f, g, hB, hf⟩ := h.rb
  refine (link_c k ((k + 1) % n) p g1 g2 n f g n wr hB hk (Nat.mod_lt _ (by omega))).mono ?_
  rintro e w' ⟨rfl, d1, d2⟩
  refine ⟨rfl, ⟨_, _, d1, fun j hj => ?_⟩, Below.ch h.bel d2 h.far, h.far⟩
  by_cases c : j = k
  · subst c; exact ⟨upd_same _ _ _, upd_same _ _ _⟩
  · have hjk : j < k := by omega
    rw [upd_ne _ _ c, upd_ne _ _ (mod_apart hjk hk)]
    exact hf j hjk
set_option maxHeartbeats 4000000 in
theorem new_k {w : World} (n : Nat) (h1 : 1 ≤ n) (h2 : n ≤ 4096) :
    Calls Try.prog 26 #[.int .i64 n] w fun e w' => ∃ p F, e = .returned (.pointer (some ⟨p, 0, none⟩)) ∧ RA w' p n (rng n) F ∧ (∀ k, F k → w.heap.size ≤ k) ∧ Below w.heap.size w w' := by
  have d1 : decide ((n : Int) < 1) = false := by simp; omega
  have d2 : decide (4096 < (n : Int)) = false := by simp; omega
  have d3 : decide ((n : Int) > 4096) = false := by simp; omega
  obtain ⟨i0, hi0, hz0, hz1, hz2⟩ := info_parts info3
  obtain ⟨Z, hZ, hmk⟩ : ∃ Z : Array Value, Z = madeCells #[.int .i64 0] n ∧ ∀ w, (Instr.makeSlice 33 (.int .i64 (n : Int)) (.int .i64 (n : Int))).run Try.prog w = .ok (.slice (some ⟨w.heap.size, 0, none⟩) n n) (w.alloc (.cells Z 3)) := by
    refine ⟨_, rfl, fun w => ?_⟩
    have := run_make (P := Try.prog) w 33 3 i0 (.int .i64 0) Try.underlying33 hi0 hz0 .i64 .i64 n n (by omega) (by omega) (by rw [hz2]; omega) (by omega)
    rw [hz1] at this
    simpa [Value.cells] using this
  replace hZ := Lib.hid hZ
  go_enter Try.func26, Try.ntmps26
  go_wp2
  go_region
  · have R0 := made_rb (w := w) (n := n) (s := w.heap.size) (ga := w.heap.size) (gb := w.heap.size + 1) h1 hZ.out rfl (Or.inl ⟨rfl, rfl⟩)
    have S0 : NSt w (w.heap.size + 1 + 1) (w.heap.size) (w.heap.size + 1) n 0 _ := ⟨⟨_, _, R0.1, fun j hj => by omega⟩, R0.2, by rintro k (rfl | rfl | rfl) <;> omega⟩
    clear R0 hZ hmk hi0 hz0 hz1 hz2
    generalize (((w.alloc (.cells Z 3)).alloc (.cells Z 3)).alloc (.cells #[.slice (some ⟨w.heap.size, 0, none⟩) n n, .slice (some ⟨w.heap.size + 1, 0, none⟩) n n, .int .i64 n] 55)).drew = W at *
    obtain ⟨p, hp⟩ : ∃ p, p = w.heap.size + 1 + 1 := ⟨_, rfl⟩
    obtain ⟨ga, hga⟩ : ∃ ga, ga = w.heap.size := ⟨_, rfl⟩
    obtain ⟨gb, hgb⟩ : ∃ gb, gb = w.heap.size + 1 := ⟨_, rfl⟩
    rw [← hp, ← hgb, ← hga] at S0
    replace S0 := Lib.hid S0
    simp only [← hp]
    simp only [← hgb]
    simp only [← hga]
    have hn0 : ((n : Int) == 0) = false := by simp; omega
    clear hp hga hgb
    go_wp2
    go_loopw [19] (fun i wr => ∃ k : Nat, k ≤ n ∧ i = .int .i64 k ∧ NSt w p ga gb n k wr) (fun i _ => n - (intOf i).toNat)
    case atStart => exact ⟨0, by omega, rfl, S0.out⟩
    case round =>
      obtain ⟨k, hk, rfl, hR⟩ := hrel
      by_cases hlt : k < n
      · have hlt' : decide ((k : Int) < (n : Int)) = true := by simp; omega
        have hw : IntKind.i64.wrap ((k : Int) + 1) = (k : Int) + 1 := by rw [IntKind.wrap_i64]; omega
        have hq : Int.tmod ((k : Int) + 1) (n : Int) = (((k + 1) % n : Nat) : Int) := by rw [show ((k : Int) + 1) = ((k + 1 : Nat) : Int) by omega, ← Int.ofNat_tmod]
        have hL := Lib.hid (hR.step hlt)
        replace hR := Lib.hid hR
        have hq0 : (0 : Int) ≤ (((k + 1) % n : Nat) : Int) := by omega
        have hq1 : (((k + 1) % n : Nat) : Int) ≤ 4096 := by have := Nat.mod_lt (k + 1) (show n > 0 by omega); omega
        generalize (k + 1) % n = q at *
        go_wp2_with (first | (go_at_call 32; ((with_reducible refine hL.out.mono ?_); rintro e w1 ⟨rfl, hR1⟩; replace hR1 := Lib.hid hR1)))
        go_roundw
        case rel => exact ⟨k + 1, by omega, by go_num, hR1.out⟩
        case measure => simp [intOf]; omega
      · have e : k = n := by omega
        subst e
        replace hR := Lib.hid hR
        go_wp2
        go_ret
        obtain ⟨f, g, d1, d2⟩ := hR.out.rb
        exact ⟨p, _, rfl, ⟨ga, gb, f, g, rfl, by rw [rng_len]; exact d1, RL.made h1 h2 d2⟩, hR.out.far, hR.out.bel⟩

  · have R0 := made_rb (w := w) (n := n) (s := w.heap.size) (ga := w.heap.size + 1) (gb := w.heap.size) h1 hZ.out rfl (Or.inr ⟨rfl, rfl⟩)
    have S0 : NSt w (w.heap.size + 1 + 1) (w.heap.size + 1) (w.heap.size) n 0 _ := ⟨⟨_, _, R0.1, fun j hj => by omega⟩, R0.2, by rintro k (rfl | rfl | rfl) <;> omega⟩
    clear R0 hZ hmk hi0 hz0 hz1 hz2
    generalize (((w.alloc (.cells Z 3)).alloc (.cells Z 3)).alloc (.cells #[.slice (some ⟨w.heap.size + 1, 0, none⟩) n n, .slice (some ⟨w.heap.size, 0, none⟩) n n, .int .i64 n] 55)).drew = W at *
    obtain ⟨p, hp⟩ : ∃ p, p = w.heap.size + 1 + 1 := ⟨_, rfl⟩
    obtain ⟨ga, hga⟩ : ∃ ga, ga = w.heap.size + 1 := ⟨_, rfl⟩
    obtain ⟨gb, hgb⟩ : ∃ gb, gb = w.heap.size := ⟨_, rfl⟩
    rw [← hp, ← hga, ← hgb] at S0
    replace S0 := Lib.hid S0
    simp only [← hp]
    simp only [← hga]
    simp only [← hgb]
    have hn0 : ((n : Int) == 0) = false := by simp; omega
    clear hp hga hgb
    go_wp2
    go_loopw [19] (fun i wr => ∃ k : Nat, k ≤ n ∧ i = .int .i64 k ∧ NSt w p ga gb n k wr) (fun i _ => n - (intOf i).toNat)
    case atStart => exact ⟨0, by omega, rfl, S0.out⟩
    case round =>
      obtain ⟨k, hk, rfl, hR⟩ := hrel
      by_cases hlt : k < n
      · have hlt' : decide ((k : Int) < (n : Int)) = true := by simp; omega
        have hw : IntKind.i64.wrap ((k : Int) + 1) = (k : Int) + 1 := by rw [IntKind.wrap_i64]; omega
        have hq : Int.tmod ((k : Int) + 1) (n : Int) = (((k + 1) % n : Nat) : Int) := by rw [show ((k : Int) + 1) = ((k + 1 : Nat) : Int) by omega, ← Int.ofNat_tmod]
        have hL := Lib.hid (hR.step hlt)
        replace hR := Lib.hid hR
        have hq0 : (0 : Int) ≤ (((k + 1) % n : Nat) : Int) := by omega
        have hq1 : (((k + 1) % n : Nat) : Int) ≤ 4096 := by have := Nat.mod_lt (k + 1) (show n > 0 by omega); omega
        generalize (k + 1) % n = q at *
        go_wp2_with (first | (go_at_call 32; ((with_reducible refine hL.out.mono ?_); rintro e w1 ⟨rfl, hR1⟩; replace hR1 := Lib.hid hR1)))
        go_roundw
        case rel => exact ⟨k + 1, by omega, by go_num, hR1.out⟩
        case measure => simp [intOf]; omega
      · have e : k = n := by omega
        subst e
        replace hR := Lib.hid hR
        go_wp2
        go_ret
        obtain ⟨f, g, d1, d2⟩ := hR.out.rb
        exact ⟨p, _, rfl, ⟨ga, gb, f, g, rfl, by rw [rng_len]; exact d1, RL.made h1 h2 d2⟩, hR.out.far, hR.out.bel⟩
end Wd
end Go.Proofs.Ytjobeomadkaeoaa
