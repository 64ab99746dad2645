/- Texts joined: NNew, NMath, GBase, GOps, GList, GMath, GMove, GTurn, GNew, GKK, TLaw, TInv, TMap. -/
import Derived.Test.YtdaojohdmidemaaJ3
import Derived.BigRegion
import Derived.Maps.AppendAt
import Derived.Deep.AppendLies
import Derived.StillTailTactics
import Derived.OpenShut
import Derived.Deep.RegionHeld3
import Derived.Laws.Bits128
import Derived.Maps.Own
import Derived.Maps.OwnOps
import Derived.Maps.OwnSet
import Derived.DeepKeys4
/- The ring of the package: it is made. -/
namespace Go.Proofs.Ytdaojohdmidemaa
set_option maxRecDepth 20000
open Go.RowKit
set_option linter.unusedVariables false
namespace Wd
theorem new_none {w : World} (n : Int) (hn : n < 1 ∨ 4096 < n) :
    Calls Try.prog 48 #[.int .i64 n] w fun e w' => e = .returned (.pointer .none) ∧ w' = w := by
  by_cases h1 : n < 1
  · have d1 : decide (n < 1) = true := by simpa using h1
    go_enter Try.func48, Try.ntmps48
    go_wp2
    go_ret
    exact ⟨rfl, rfl⟩
  · have d1 : decide (n < 1) = false := by simpa using h1
    have d2 : decide (4096 < n) = true := by simp; omega
    have d3 : decide (n > 4096) = true := by simp; omega
    go_enter Try.func48, Try.ntmps48
    go_wp2
    go_ret
    exact ⟨rfl, rfl⟩
/-- three blocks that are made: two rows of noughts and what points at them -/
theorem made_rb {w : World} {n s ga gb : Nat} {Z : Array Value} (hn : 1 ≤ n) (hZ : Z = madeCells #[.int .i64 0] n) (hs : s = w.heap.size) (hg : (ga = s ∧ gb = s + 1) ∨ (ga = s + 1 ∧ gb = s)) :
    RB (((w.alloc (.cells Z 3)).alloc (.cells Z 3)).alloc (.cells #[.slice (some ⟨ga, 0, none⟩) n n, .slice (some ⟨gb, 0, none⟩) n n, .int .i64 n] 99)).drew (s + 1 + 1) ga gb n (fun _ => 0) (fun _ => 0) n
    ∧ Below w.heap.size w (((w.alloc (.cells Z 3)).alloc (.cells Z 3)).alloc (.cells #[.slice (some ⟨ga, 0, none⟩) n n, .slice (some ⟨gb, 0, none⟩) n n, .int .i64 n] 99)).drew := by
  have hz : ∀ k, k < n → Z[k]? = some (.int .i64 0) := by
    intro k hk
    have : (madeCells #[Value.int .i64 0] n).toList[k]? = some (.int .i64 0) := by rw [toList_madeCells_one]; simp [hk]
    rw [hZ, ← Array.getElem?_toList]
    exact this
  have hb : ∀ (k : Nat) (W : World), W.heap[ga]? = some (.cells Z 3 (0, 0)) → k < n → W.cell? ⟨ga, k, none⟩ = some (.int .i64 0) := by
    intro k W h hk
    simp [World.cell?, h, hz k hk]
  have hb' : ∀ (k : Nat) (W : World), W.heap[gb]? = some (.cells Z 3 (0, 0)) → k < n → W.cell? ⟨gb, k, none⟩ = some (.int .i64 0) := by
    intro k W h hk
    simp [World.cell?, h, hz k hk]
  have s1 : (w.alloc (.cells Z 3)).heap.size = s + 1 := by rw [hs]; simp
  have s2 : ((w.alloc (.cells Z 3)).alloc (.cells Z 3)).heap.size = s + 1 + 1 := by rw [hs]; simp
  have hh1 : (((w.alloc (.cells Z 3)).alloc (.cells Z 3)).alloc (.cells #[.slice (some ⟨ga, 0, none⟩) n n, .slice (some ⟨gb, 0, none⟩) n n, .int .i64 n] 99)).drew.heap[s]? = some (.cells Z 3 (0, 0)) := by
    show (((w.alloc (.cells Z 3)).alloc (.cells Z 3)).alloc (.cells #[.slice (some ⟨ga, 0, none⟩) n n, .slice (some ⟨gb, 0, none⟩) n n, .int .i64 n] 99)).heap[s]? = _
    rw [Below.heap_alloc _ _ _ (by omega), Below.heap_alloc _ _ _ (by omega), hs]
    exact heap_alloc_new _ _
  have hh2 : (((w.alloc (.cells Z 3)).alloc (.cells Z 3)).alloc (.cells #[.slice (some ⟨ga, 0, none⟩) n n, .slice (some ⟨gb, 0, none⟩) n n, .int .i64 n] 99)).drew.heap[s + 1]? = some (.cells Z 3 (0, 0)) := by
    show (((w.alloc (.cells Z 3)).alloc (.cells Z 3)).alloc (.cells #[.slice (some ⟨ga, 0, none⟩) n n, .slice (some ⟨gb, 0, none⟩) n n, .int .i64 n] 99)).heap[s + 1]? = _
    rw [Below.heap_alloc _ _ _ (by omega), ← s1]
    exact heap_alloc_new _ _
  have hh3 : (((w.alloc (.cells Z 3)).alloc (.cells Z 3)).alloc (.cells #[.slice (some ⟨ga, 0, none⟩) n n, .slice (some ⟨gb, 0, none⟩) n n, .int .i64 n] 99)).drew.heap[s + 1 + 1]? = some (.cells #[.slice (some ⟨ga, 0, none⟩) n n, .slice (some ⟨gb, 0, none⟩) n n, .int .i64 n] 99 (0, 0)) := by
    show (((w.alloc (.cells Z 3)).alloc (.cells Z 3)).alloc (.cells #[.slice (some ⟨ga, 0, none⟩) n n, .slice (some ⟨gb, 0, none⟩) n n, .int .i64 n] 99)).heap[s + 1 + 1]? = _
    rw [← s2]
    exact heap_alloc_new _ _
  have hB : Below w.heap.size w (((w.alloc (.cells Z 3)).alloc (.cells Z 3)).alloc (.cells #[.slice (some ⟨ga, 0, none⟩) n n, .slice (some ⟨gb, 0, none⟩) n n, .int .i64 n] 99)).drew :=
    (((((Below.refl _ _).alloc (Nat.le_refl _) _).alloc (by simp) _).alloc (by simp; omega) _).drew)
  refine ⟨?_, hB⟩
  generalize (((w.alloc (.cells Z 3)).alloc (.cells Z 3)).alloc (.cells #[.slice (some ⟨ga, 0, none⟩) n n, .slice (some ⟨gb, 0, none⟩) n n, .int .i64 n] 99)).drew = W at hh1 hh2 hh3
  have h1 : W.heap[ga]? = some (.cells Z 3 (0, 0)) := by rcases hg with ⟨rfl, rfl⟩ | ⟨rfl, rfl⟩ <;> assumption
  have h2 : W.heap[gb]? = some (.cells Z 3 (0, 0)) := by rcases hg with ⟨rfl, rfl⟩ | ⟨rfl, rfl⟩ <;> assumption
  exact ⟨by simp [World.cell?, hh3], by simp [World.cell?, hh3], by simp [World.cell?, hh3], by simp [World.frozen?, hh3], fun k hk => hb k W h1 hk, fun k hk => hb' k W h2 hk, fun k => by simp [World.frozen?, h1], fun k => by simp [World.frozen?, h2], by omega, by omega, by omega⟩
theorem Below.ch {w wr w1 : World} {p g1 g2 : Nat} (h : Below w.heap.size w wr) (c : Ch (FF p g1 g2) wr w1) (hF : ∀ k, FF p g1 g2 k → w.heap.size ≤ k) : Below w.heap.size w w1 :=
  ⟨c.os.trans h.os, c.tape.trans h.tape, c.output.trans h.output, Nat.le_trans h.size c.size, fun k hk => (c.block k (Nat.lt_of_lt_of_le hk h.size) (fun e => by have := hF k e; omega)).trans (h.block k hk)⟩
/-- the rows while they are filled -/
structure NSt (w : World) (p g1 g2 n k : Nat) (wr : World) : Prop where
  rb : ∃ f h, RB wr p g1 g2 n f h n ∧ ∀ j, j < k → f j = (((j + 1) % n : Nat) : Int) ∧ h ((j + 1) % n) = (j : Int)
  bel : Below w.heap.size w wr
  far : ∀ k, FF p g1 g2 k → w.heap.size ≤ k
theorem mod_apart {j k n : Nat} (hj : j < k) (hk : k < n) : (j + 1) % n ≠ (k + 1) % n := by
  rw [Nat.mod_eq_of_lt (by omega : j + 1 < n)]
  by_cases h : k + 1 = n
  · rw [h, Nat.mod_self]; omega
  · rw [Nat.mod_eq_of_lt (by omega : k + 1 < n)]; omega
/-- one round -/
theorem NSt.step {w wr : World} {p g1 g2 n k : Nat} (h : NSt w p g1 g2 n k wr) (hk : k < n) :
    Calls Try.prog 63 #[.pointer (some ⟨p, 0, none⟩), .int .i64 (k : Int), .int .i64 (((k + 1) % n : Nat) : Int)] wr fun e w' => e = .returned (.tuple #[]) ∧ NSt w p g1 g2 n (k + 1) w' := by
  obtain ⟨f, g, hB, hf⟩ := h.rb
  refine (link_c k ((k + 1) % n) p g1 g2 n f g n wr hB hk (Nat.mod_lt _ (by omega))).mono ?_
  rintro e w' ⟨rfl, d1, d2⟩
  refine ⟨rfl, ⟨_, _, d1, fun j hj => ?_⟩, Below.ch h.bel d2 h.far, h.far⟩
  by_cases c : j = k
  · subst c; exact ⟨upd_same _ _ _, upd_same _ _ _⟩
  · have hjk : j < k := by omega
    rw [upd_ne _ _ c, upd_ne _ _ (mod_apart hjk hk)]
    exact hf j hjk
set_option maxHeartbeats 4000000 in
theorem new_k {w : World} (n : Nat) (h1 : 1 ≤ n) (h2 : n ≤ 4096) :
    Calls Try.prog 48 #[.int .i64 n] w fun e w' => ∃ p F, e = .returned (.pointer (some ⟨p, 0, none⟩)) ∧ RA w' p n (rng n) F ∧ (∀ k, F k → w.heap.size ≤ k) ∧ Below w.heap.size w w' := by
  have d1 : decide ((n : Int) < 1) = false := by simp; omega
  have d2 : decide (4096 < (n : Int)) = false := by simp; omega
  have d3 : decide ((n : Int) > 4096) = false := by simp; omega
  obtain ⟨i0, hi0, hz0, hz1, hz2⟩ := info_parts info3
  obtain ⟨Z, hZ, hmk⟩ : ∃ Z : Array Value, Z = madeCells #[.int .i64 0] n ∧ ∀ w, (Instr.makeSlice 44 (.int .i64 (n : Int)) (.int .i64 (n : Int))).run Try.prog w = .ok (.slice (some ⟨w.heap.size, 0, none⟩) n n) (w.alloc (.cells Z 3)) := by
    refine ⟨_, rfl, fun w => ?_⟩
    have := run_make (P := Try.prog) w 44 3 i0 (.int .i64 0) Try.underlying44 hi0 hz0 .i64 .i64 n n (by omega) (by omega) (by rw [hz2]; omega) (by omega)
    rw [hz1] at this
    simpa [Value.cells] using this
  replace hZ := Lib.hid hZ
  go_enter Try.func48, Try.ntmps48
  go_wp2
  go_region
  · have R0 := made_rb (w := w) (n := n) (s := w.heap.size) (ga := w.heap.size) (gb := w.heap.size + 1) h1 hZ.out rfl (Or.inl ⟨rfl, rfl⟩)
    have S0 : NSt w (w.heap.size + 1 + 1) (w.heap.size) (w.heap.size + 1) n 0 _ := ⟨⟨_, _, R0.1, fun j hj => by omega⟩, R0.2, by rintro k (rfl | rfl | rfl) <;> omega⟩
    clear R0 hZ hmk hi0 hz0 hz1 hz2
    generalize (((w.alloc (.cells Z 3)).alloc (.cells Z 3)).alloc (.cells #[.slice (some ⟨w.heap.size, 0, none⟩) n n, .slice (some ⟨w.heap.size + 1, 0, none⟩) n n, .int .i64 n] 99)).drew = W at *
    obtain ⟨p, hp⟩ : ∃ p, p = w.heap.size + 1 + 1 := ⟨_, rfl⟩
    obtain ⟨ga, hga⟩ : ∃ ga, ga = w.heap.size := ⟨_, rfl⟩
    obtain ⟨gb, hgb⟩ : ∃ gb, gb = w.heap.size + 1 := ⟨_, rfl⟩
    rw [← hp, ← hgb, ← hga] at S0
    replace S0 := Lib.hid S0
    simp only [← hp]
    simp only [← hgb]
    simp only [← hga]
    have hn0 : ((n : Int) == 0) = false := by simp; omega
    clear hp hga hgb
    go_wp2
    go_loopw [19] (fun i wr => ∃ k : Nat, k ≤ n ∧ i = .int .i64 k ∧ NSt w p ga gb n k wr) (fun i _ => n - (intOf i).toNat)
    case atStart => exact ⟨0, by omega, rfl, S0.out⟩
    case round =>
      obtain ⟨k, hk, rfl, hR⟩ := hrel
      by_cases hlt : k < n
      · have hlt' : decide ((k : Int) < (n : Int)) = true := by simp; omega
        have hw : IntKind.i64.wrap ((k : Int) + 1) = (k : Int) + 1 := by rw [IntKind.wrap_i64]; omega
        have hq : Int.tmod ((k : Int) + 1) (n : Int) = (((k + 1) % n : Nat) : Int) := by rw [show ((k : Int) + 1) = ((k + 1 : Nat) : Int) by omega, ← Int.ofNat_tmod]
        have hL := Lib.hid (hR.step hlt)
        replace hR := Lib.hid hR
        have hq0 : (0 : Int) ≤ (((k + 1) % n : Nat) : Int) := by omega
        have hq1 : (((k + 1) % n : Nat) : Int) ≤ 4096 := by have := Nat.mod_lt (k + 1) (show n > 0 by omega); omega
        generalize (k + 1) % n = q at *
        go_wp2_with (first | (go_at_call 63; ((with_reducible refine hL.out.mono ?_); rintro e w1 ⟨rfl, hR1⟩; replace hR1 := Lib.hid hR1)))
        go_roundw
        case rel => exact ⟨k + 1, by omega, by go_num, hR1.out⟩
        case measure => simp [intOf]; omega
      · have e : k = n := by omega
        subst e
        replace hR := Lib.hid hR
        go_wp2
        go_ret
        obtain ⟨f, g, d1, d2⟩ := hR.out.rb
        exact ⟨p, _, rfl, ⟨ga, gb, f, g, rfl, by rw [rng_len]; exact d1, RL.made h1 h2 d2⟩, hR.out.far, hR.out.bel⟩

  · have R0 := made_rb (w := w) (n := n) (s := w.heap.size) (ga := w.heap.size + 1) (gb := w.heap.size) h1 hZ.out rfl (Or.inr ⟨rfl, rfl⟩)
    have S0 : NSt w (w.heap.size + 1 + 1) (w.heap.size + 1) (w.heap.size) n 0 _ := ⟨⟨_, _, R0.1, fun j hj => by omega⟩, R0.2, by rintro k (rfl | rfl | rfl) <;> omega⟩
    clear R0 hZ hmk hi0 hz0 hz1 hz2
    generalize (((w.alloc (.cells Z 3)).alloc (.cells Z 3)).alloc (.cells #[.slice (some ⟨w.heap.size + 1, 0, none⟩) n n, .slice (some ⟨w.heap.size, 0, none⟩) n n, .int .i64 n] 99)).drew = W at *
    obtain ⟨p, hp⟩ : ∃ p, p = w.heap.size + 1 + 1 := ⟨_, rfl⟩
    obtain ⟨ga, hga⟩ : ∃ ga, ga = w.heap.size + 1 := ⟨_, rfl⟩
    obtain ⟨gb, hgb⟩ : ∃ gb, gb = w.heap.size := ⟨_, rfl⟩
    rw [← hp, ← hga, ← hgb] at S0
    replace S0 := Lib.hid S0
    simp only [← hp]
    simp only [← hga]
    simp only [← hgb]
    have hn0 : ((n : Int) == 0) = false := by simp; omega
    clear hp hga hgb
    go_wp2
    go_loopw [19] (fun i wr => ∃ k : Nat, k ≤ n ∧ i = .int .i64 k ∧ NSt w p ga gb n k wr) (fun i _ => n - (intOf i).toNat)
    case atStart => exact ⟨0, by omega, rfl, S0.out⟩
    case round =>
      obtain ⟨k, hk, rfl, hR⟩ := hrel
      by_cases hlt : k < n
      · have hlt' : decide ((k : Int) < (n : Int)) = true := by simp; omega
        have hw : IntKind.i64.wrap ((k : Int) + 1) = (k : Int) + 1 := by rw [IntKind.wrap_i64]; omega
        have hq : Int.tmod ((k : Int) + 1) (n : Int) = (((k + 1) % n : Nat) : Int) := by rw [show ((k : Int) + 1) = ((k + 1 : Nat) : Int) by omega, ← Int.ofNat_tmod]
        have hL := Lib.hid (hR.step hlt)
        replace hR := Lib.hid hR
        have hq0 : (0 : Int) ≤ (((k + 1) % n : Nat) : Int) := by omega
        have hq1 : (((k + 1) % n : Nat) : Int) ≤ 4096 := by have := Nat.mod_lt (k + 1) (show n > 0 by omega); omega
        generalize (k + 1) % n = q at *
        go_wp2_with (first | (go_at_call 63; ((with_reducible refine hL.out.mono ?_); rintro e w1 ⟨rfl, hR1⟩; replace hR1 := Lib.hid hR1)))
        go_roundw
        case rel => exact ⟨k + 1, by omega, by go_num, hR1.out⟩
        case measure => simp [intOf]; omega
      · have e : k = n := by omega
        subst e
        replace hR := Lib.hid hR
        go_wp2
        go_ret
        obtain ⟨f, g, d1, d2⟩ := hR.out.rb
        exact ⟨p, _, rfl, ⟨ga, gb, f, g, rfl, by rw [rng_len]; exact d1, RL.made h1 h2 d2⟩, hR.out.far, hR.out.bel⟩
end Wd
end Go.Proofs.Ytdaojohdmidemaa

/- The package's ring: it may be told from anywhere on; one is taken out of the middle, and put in there. -/
namespace Go.Proofs.Ytdaojohdmidemaa
set_option maxRecDepth 20000
open Go.RowKit
set_option linter.unusedVariables false
namespace Wd
theorem RL.rot {n : Nat} {X Y : List Int} {f h : Nat → Int} (r : RL n (X ++ Y) f h) : RL n (Y ++ X) f h :=
  ⟨r.n1, r.n2, nd_rot r.nd, fun x hx => r.bd x (by simpa [or_comm] using hx), fun k hk => (r.ef k hk).trans (nxt_rot X Y r.nd k).symm, fun k hk => (r.eh k hk).trans (prv_rot X Y r.nd k).symm⟩
/-- a ring may be told from anywhere on -/
theorem RA.rot {w : World} {p n : Nat} {X Y : List Int} {F : Nat → Prop} (h : RA w p n (X ++ Y) F) : RA w p n (Y ++ X) F := by
  obtain ⟨g1, g2, f, g, hF, hB, hL⟩ := h
  refine ⟨g1, g2, f, g, hF, ?_, hL.rot⟩
  rw [show (Y ++ X).length = (X ++ Y).length by simp [Nat.add_comm]]
  exact hB
theorem RA.nd {w : World} {p n : Nat} {L : List Int} {F : Nat → Prop} (h : RA w p n L F) : L.Nodup := by
  obtain ⟨_, _, _, _, _, _, hL⟩ := h
  exact hL.nd
theorem RA.mem {w : World} {p n : Nat} {L : List Int} {F : Nat → Prop} (h : RA w p n L F) {i : Int} (hi : i ∈ L) : 0 ≤ i ∧ i < n := by
  obtain ⟨_, _, _, _, _, _, hL⟩ := h
  exact hL.bd i hi
theorem idxOf_mid {X Y : List Int} {i : Int} (h : i ∉ X) : (X ++ i :: Y).idxOf i = X.length := by
  rw [List.idxOf_append, if_neg h]
  simp
theorem outL_mid {X Y : List Int} {i : Int} (h : i ∉ X) : outL (X ++ i :: Y) i = X ++ Y := by
  unfold outL
  rw [if_pos (by simp), idxOf_mid h]
  simp
theorem inL_mid {X Y : List Int} {i a : Int} (h : a ∉ X) : inL (X ++ a :: Y) i a = X ++ [i] ++ a :: Y := by
  unfold inL
  rw [if_pos (by simp), idxOf_mid h]
  simp
theorem frm_mid {X Y : List Int} {i : Int} (h : i ∉ X) : frm (X ++ i :: Y) i = i :: Y ++ X := by
  unfold frm
  rw [if_pos (by simp), idxOf_mid h]
  simp
theorem nxt_mid {X Y : List Int} {i j : Int} (h : (X ++ i :: j :: Y).Nodup) : nxt (X ++ i :: j :: Y) i = j := by
  have hn : i ∉ X := fun hi => (List.nodup_append.1 h).2.2 i hi i (by simp) rfl
  unfold nxt
  rw [if_pos (by simp), idxOf_mid hn]
  have : (X.length + 1) % (X ++ i :: j :: Y).length = X.length + 1 := Nat.mod_eq_of_lt (by simp)
  rw [this]
  simp
theorem nxt_last {X : List Int} {i j : Int} (h : (j :: X ++ [i]).Nodup) : nxt (j :: X ++ [i]) i = j := by
  have hn : i ∉ j :: X := fun hi => (List.nodup_append.1 h).2.2 i hi i (by simp) rfl
  unfold nxt
  rw [if_pos (by simp), idxOf_mid hn]
  have : ((j :: X).length + 1) % (j :: X ++ [i]).length = 0 := by simp
  rw [this]
  simp
theorem prv_mid {X Y : List Int} {i j : Int} (h : (X ++ i :: j :: Y).Nodup) : prv (X ++ i :: j :: Y) j = i := by
  have e := nxt_mid h
  have := prv_nxt h (j := i) (by simp)
  rwa [e] at this
theorem prv_first {X : List Int} {i j : Int} (h : (j :: X ++ [i]).Nodup) : prv (j :: X ++ [i]) j = i := by
  have e := nxt_last h
  have := prv_nxt h (j := i) (by simp)
  rwa [e] at this
theorem mid_out {n : Nat} {A : Mst} (h : Good n A) {x : Nat} (hx : x < 4) {P Q : List Int} {i : Int} (hA : A x = P ++ i :: Q) : outL (LL A) i = LL (upA A x (P ++ Q)) := by
  have hn := good_nd h
  have key : ∀ X Y : List Int, LL A = X ++ (P ++ i :: Q) ++ Y → LL (upA A x (P ++ Q)) = X ++ (P ++ Q) ++ Y → outL (LL A) i = LL (upA A x (P ++ Q)) := by
    intro X Y e1 e2
    have hnd : (X ++ (P ++ i :: Q) ++ Y).Nodup := by rw [← e1]; exact hn
    have hni : i ∉ X ++ P := by
      intro hi
      have e3 : X ++ (P ++ i :: Q) ++ Y = (X ++ P) ++ i :: (Q ++ Y) := by simp
      rw [e3] at hnd
      exact (List.nodup_append.1 hnd).2.2 i hi i (by simp) rfl
    rw [e1, e2, show X ++ (P ++ i :: Q) ++ Y = (X ++ P) ++ i :: (Q ++ Y) by simp, outL_mid hni]
    simp
  rcases (show x = 0 ∨ x = 1 ∨ x = 2 ∨ x = 3 by omega) with rfl | rfl | rfl | rfl
  · exact key [] (A 1 ++ (A 2 ++ A 3)) (by simp [LL, hA]) (by simp [LL, upA])
  · exact key (A 0) (A 2 ++ A 3) (by simp [LL, hA]) (by simp [LL, upA])
  · exact key (A 0 ++ A 1) (A 3) (by simp [LL, hA]) (by simp [LL, upA])
  · exact key (A 0 ++ (A 1 ++ A 2)) [] (by simp [LL, hA]) (by simp [LL, upA])
/-- one is laid behind U, ahead of the first of T: or of the first of U, if T is nothing -/
theorem lay_tail {U T : List Int} {i a : Int} (h : a ∉ U) : inL (U ++ a :: T) i a = (U ++ [i]) ++ a :: T := inL_mid h
theorem lay_head {U : List Int} {i a : Int} : inL (a :: U) i a = [i] ++ a :: U := inL_mid (X := []) (by simp)
end Wd
end Go.Proofs.Ytdaojohdmidemaa

/- The package's mill: how it lies in memory, and what its rows are. -/
namespace Go.Proofs.Ytdaojohdmidemaa
set_option maxRecDepth 20000
open Go.RowKit
set_option linter.unusedVariables false
namespace Wd
theorem RA.lt {w : World} {p n : Nat} {L : List Int} {F : Nat → Prop} (h : RA w p n L F) : ∀ k, F k → k < w.heap.size := by
  obtain ⟨g1, g2, f, h, rfl, hB, hL⟩ := h
  exact hB.lt (by have := hL.n1; omega)
theorem RA.same {w w' : World} {p n : Nat} {L : List Int} {F : Nat → Prop} (h : RA w p n L F) (hk : ∀ k, F k → w'.heap[k]? = w.heap[k]?) : RA w' p n L F := by
  obtain ⟨g1, g2, f, h, rfl, hB, hL⟩ := h
  exact ⟨g1, g2, f, h, rfl, hB.same hk, hL⟩
/-- a mill at block p: its ring at q, in the blocks FR; the row of its colours at gc; the first ones fs, the counts ns -/
structure MS (w : World) (p q gc n : Nat) (FR : Nat → Prop) (L : List Int) (cs fs ns : Nat → Int) : Prop where
  c0 : w.cell? ⟨p, 0, none⟩ = some (.pointer (some ⟨q, 0, none⟩))
  c1 : w.cell? ⟨p, 1, none⟩ = some (.slice (some ⟨gc, 0, none⟩) n n)
  cf : ∀ k, k < 4 → w.cell? ⟨p, 2 + k, none⟩ = some (.int .i64 (fs k))
  cn : ∀ k, k < 4 → w.cell? ⟨p, 6 + k, none⟩ = some (.int .i64 (ns k))
  cc : ∀ k, k < n → w.cell? ⟨gc, k, none⟩ = some (.int .i64 (cs k))
  zp : ∀ k, w.frozen? ⟨p, k, none⟩ = false
  zc : ∀ k, w.frozen? ⟨gc, k, none⟩ = false
  ring : RA w q n L FR
  e : p ≠ gc
  ep : ¬ FR p
  ec : ¬ FR gc
def FM (p gc : Nat) (FR : Nat → Prop) : Nat → Prop := fun k => k = p ∨ k = gc ∨ FR k
section
variable {w w' w1 : World} {p q gc n : Nat} {FR : Nat → Prop} {L L' : List Int} {cs fs ns : Nat → Int}
theorem MS.same (r : MS w p q gc n FR L cs fs ns) (hb : ∀ k, FM p gc FR k → w'.heap[k]? = w.heap[k]?) : MS w' p q gc n FR L cs fs ns := by
  have hp := hb p (Or.inl rfl)
  have h1 := hb gc (Or.inr (Or.inl rfl))
  exact ⟨(World.cell?_of_block (a := ⟨p, 0, none⟩) hp).trans r.c0, (World.cell?_of_block (a := ⟨p, 1, none⟩) hp).trans r.c1, fun k hk => (World.cell?_of_block (a := ⟨p, 2 + k, none⟩) hp).trans (r.cf k hk),
    fun k hk => (World.cell?_of_block (a := ⟨p, 6 + k, none⟩) hp).trans (r.cn k hk), fun k hk => (World.cell?_of_block (a := ⟨gc, k, none⟩) h1).trans (r.cc k hk), fun k => (World.frozen?_of_block (a := ⟨p, k, none⟩) hp).trans (r.zp k),
    fun k => (World.frozen?_of_block (a := ⟨gc, k, none⟩) h1).trans (r.zc k), r.ring.same (fun k hk => hb k (Or.inr (Or.inr hk))), r.e, r.ep, r.ec⟩
theorem MS.lt (r : MS w p q gc n FR L cs fs ns) (hn : 0 < n) : ∀ k, FM p gc FR k → k < w.heap.size := by
  rintro k (rfl | rfl | hk)
  · exact World.block_lt_of_cell? w _ r.c0
  · exact World.block_lt_of_cell? w _ (r.cc 0 hn)
  · exact r.ring.lt k hk
theorem MS.keep (r : MS w p q gc n FR L cs fs ns) (hn : 0 < n) (b : Below w.heap.size w w') : MS w' p q gc n FR L cs fs ns := r.same (fun k hk => b.block k (r.lt hn k hk))
/-- the ring does something -/
theorem MS.rung (r : MS w p q gc n FR L cs fs ns) (hn : 0 < n) (hR : RA w' q n L' FR) (c : Ch FR w w') : MS w' p q gc n FR L' cs fs ns := by
  have hlt := r.lt hn
  have hp := c.block p (hlt p (Or.inl rfl)) r.ep
  have h1 := c.block gc (hlt gc (Or.inr (Or.inl rfl))) r.ec
  exact ⟨(World.cell?_of_block (a := ⟨p, 0, none⟩) hp).trans r.c0, (World.cell?_of_block (a := ⟨p, 1, none⟩) hp).trans r.c1, fun k hk => (World.cell?_of_block (a := ⟨p, 2 + k, none⟩) hp).trans (r.cf k hk),
    fun k hk => (World.cell?_of_block (a := ⟨p, 6 + k, none⟩) hp).trans (r.cn k hk), fun k hk => (World.cell?_of_block (a := ⟨gc, k, none⟩) h1).trans (r.cc k hk), fun k => (World.frozen?_of_block (a := ⟨p, k, none⟩) hp).trans (r.zp k),
    fun k => (World.frozen?_of_block (a := ⟨gc, k, none⟩) h1).trans (r.zc k), hR, r.e, r.ep, r.ec⟩
theorem MS.rot {X Y : List Int} (r : MS w p q gc n FR (X ++ Y) cs fs ns) : MS w p q gc n FR (Y ++ X) cs fs ns :=
  ⟨r.c0, r.c1, r.cf, r.cn, r.cc, r.zp, r.zc, r.ring.rot, r.e, r.ep, r.ec⟩
theorem RA.set {F : Nat → Prop} (h : RA w q n L F) (a : Addr) (v : Value) (ha : ¬ F a.block) : RA (w.setCell a v) q n L F :=
  h.same (fun k hk => Below.heap_setCell _ _ _ _ (fun e => ha (e ▸ hk)))
theorem MS.setF (r : MS w p q gc n FR L cs fs ns) {k : Nat} (hk : k < 4) (v : Int) : MS (w.setCell ⟨p, 2 + k, none⟩ (.int .i64 v)) p q gc n FR L cs (upd fs k v) ns := by
  refine ⟨(World.cell?_setCell_other _ _ _ _ (by intro e; injection e with _ h2; omega)).trans r.c0, (World.cell?_setCell_other _ _ _ _ (by intro e; injection e with _ h2; omega)).trans r.c1, fun j hj => ?_,
    fun j hj => (World.cell?_setCell_other _ _ _ _ (by intro e; injection e with _ h2; omega)).trans (r.cn j hj), fun j hj => (World.cell?_setCell_far _ _ _ _ r.e).trans (r.cc j hj),
    fun j => by rw [World.frozen?_setCell]; exact r.zp j, fun j => by rw [World.frozen?_setCell]; exact r.zc j, r.ring.set _ _ r.ep, r.e, r.ep, r.ec⟩
  by_cases c : j = k
  · subst c; rw [upd_same]; exact World.cell?_setCell_same _ _ _ (r.cf j hj)
  · rw [upd_ne _ _ c]; exact (World.cell?_setCell_other _ _ _ _ (by intro e; injection e with _ h2; omega)).trans (r.cf j hj)
theorem MS.setN (r : MS w p q gc n FR L cs fs ns) {k : Nat} (hk : k < 4) (v : Int) : MS (w.setCell ⟨p, 6 + k, none⟩ (.int .i64 v)) p q gc n FR L cs fs (upd ns k v) := by
  refine ⟨(World.cell?_setCell_other _ _ _ _ (by intro e; injection e with _ h2; omega)).trans r.c0, (World.cell?_setCell_other _ _ _ _ (by intro e; injection e with _ h2; omega)).trans r.c1, fun j hj => (World.cell?_setCell_other _ _ _ _ (by intro e; injection e with _ h2; omega)).trans (r.cf j hj),
    fun j hj => ?_, fun j hj => (World.cell?_setCell_far _ _ _ _ r.e).trans (r.cc j hj),
    fun j => by rw [World.frozen?_setCell]; exact r.zp j, fun j => by rw [World.frozen?_setCell]; exact r.zc j, r.ring.set _ _ r.ep, r.e, r.ep, r.ec⟩
  by_cases c : j = k
  · subst c; rw [upd_same]; exact World.cell?_setCell_same _ _ _ (r.cn j hj)
  · rw [upd_ne _ _ c]; exact (World.cell?_setCell_other _ _ _ _ (by intro e; injection e with _ h2; omega)).trans (r.cn j hj)
theorem MS.setC (r : MS w p q gc n FR L cs fs ns) {k : Nat} (hk : k < n) (v : Int) : MS (w.setCell ⟨gc, k, none⟩ (.int .i64 v)) p q gc n FR L (upd cs k v) fs ns := by
  have e' := r.e.symm
  refine ⟨(World.cell?_setCell_far _ _ _ _ e').trans r.c0, (World.cell?_setCell_far _ _ _ _ e').trans r.c1, fun j hj => (World.cell?_setCell_far _ _ _ _ e').trans (r.cf j hj),
    fun j hj => (World.cell?_setCell_far _ _ _ _ e').trans (r.cn j hj), fun j hj => ?_,
    fun j => by rw [World.frozen?_setCell]; exact r.zp j, fun j => by rw [World.frozen?_setCell]; exact r.zc j, r.ring.set _ _ r.ec, r.e, r.ep, r.ec⟩
  by_cases c : j = k
  · subst c; rw [upd_same]; exact World.cell?_setCell_same _ _ _ (r.cc j hj)
  · rw [upd_ne _ _ c]; exact (World.cell?_setCell_other _ _ _ _ (by intro e; cases e; exact c rfl)).trans (r.cc j hj)
theorem MS.drew (r : MS w p q gc n FR L cs fs ns) : MS w.drew p q gc n FR L cs fs ns := r.same (fun _ _ => rfl)
theorem Ch.mono5 {F G : Nat → Prop} (h : Ch F w w') (hFG : ∀ k, F k → G k) : Ch G w w' := ⟨h.os, h.tape, h.output, h.size, fun k hk hn => h.block k hk (fun hF => hn (hFG k hF))⟩
end
/-- the first ones, and the counts, are those of the rows -/
structure MT (A : Mst) (fs ns : Nat → Int) : Prop where
  ef : ∀ k, k < 4 → ∀ i T, A k = i :: T → fs k = i
  en : ∀ k, k < 4 → ns k = (A k).length
/-- the package's mill: at block p, of n cells, its rows are A -/
def MA (w : World) (p n : Nat) (A : Mst) (F : Nat → Prop) : Prop := ∃ q gc FR cs fs ns, F = FM p gc FR ∧ MS w p q gc n FR (LL A) cs fs ns ∧ MT A fs ns ∧ (∀ k : Nat, k < n → cs k = colorR A k) ∧ Good n A ∧ 1 ≤ n ∧ n ≤ 512
end Wd
end Go.Proofs.Ytdaojohdmidemaa

/- The package's mill: Color, Count, and what lies behind a stretch. -/
namespace Go.Proofs.Ytdaojohdmidemaa
set_option maxRecDepth 20000
open Go.RowKit
set_option linter.unusedVariables false
namespace Wd
theorem gcolor_k {w : World} {p n : Nat} {A : Mst} {F : Nat → Prop} (i : Int) (h : MA w p n A F) :
    Calls Try.prog 56 #[.pointer (some ⟨p, 0, none⟩), .int .i64 i] w fun e w' => e = .returned (.int .i64 (colorR A i)) ∧ w' = w := by
  obtain ⟨q, gc, FR, cs, fs, ns, rfl, hS, hT, hC, hG, h1, h2⟩ := h
  have c1 := hS.c1
  by_cases h0 : 0 ≤ i
  · by_cases hn : i < n
    · obtain ⟨k, rfl⟩ : ∃ k : Nat, i = k := ⟨i.toNat, by omega⟩
      have hk : k < n := by omega
      rw [← hC k hk]
      have c2 := hS.cc k hk
      have d1 : decide ((k : Int) < 0) = false := by simp
      have d2 : decide ((k : Int) ≥ (n : Int)) = false := by simp; omega
      have d3 : decide ((n : Int) ≤ (k : Int)) = false := by simp; omega
      clear hS hT hC hG h1 h2
      go_enter Try.func56, Try.ntmps56
      go_wp2
      go_ret
      exact ⟨rfl, rfl⟩
    · rw [good_out hG (by omega)]
      have d1 : decide (i < 0) = false := by simp; omega
      have d2 : decide (i ≥ (n : Int)) = true := by simp; omega
      have d3 : decide ((n : Int) ≤ i) = true := by simp; omega
      clear hS hT hC hG h1 h2
      go_enter Try.func56, Try.ntmps56
      go_wp2
      go_ret
      exact ⟨rfl, rfl⟩
  · rw [good_out hG (by omega)]
    have d1 : decide (i < 0) = true := by simp; omega
    clear hS hT hC hG h1 h2
    go_enter Try.func56, Try.ntmps56
    go_wp2
    go_ret
    exact ⟨rfl, rfl⟩
theorem gcount_k {w : World} {p n : Nat} {A : Mst} {F : Nat → Prop} (c : Int) (h : MA w p n A F) :
    Calls Try.prog 60 #[.pointer (some ⟨p, 0, none⟩), .int .i64 c] w fun e w' => e = .returned (.int .i64 (rowA A c).length) ∧ w' = w := by
  obtain ⟨q, gc, FR, cs, fs, ns, rfl, hS, hT, hC, hG, h1, h2⟩ := h
  by_cases h0 : 0 ≤ c
  · by_cases hn : c < 4
    · obtain ⟨k, rfl⟩ : ∃ k : Nat, c = k := ⟨c.toNat, by omega⟩
      have hk : k < 4 := by omega
      have c2 := hS.cn k hk
      rw [hT.en k hk] at c2
      have e : rowA A (k : Int) = A k := by unfold rowA; rw [if_pos ⟨h0, hn⟩]; simp
      rw [e]
      clear e
      have d1 : decide ((k : Int) < 0) = false := by simp
      have d2 : decide ((k : Int) ≥ 4) = false := by simp; omega
      have d3 : decide (4 ≤ (k : Int)) = false := by simp; omega
      clear hS hT hC hG h1 h2
      generalize (A k).length = m at *
      go_enter Try.func60, Try.ntmps60
      go_wp2
      go_ret
      exact ⟨rfl, rfl⟩
    · rw [show rowA A c = [] by unfold rowA; rw [if_neg (by omega)]]
      have d1 : decide (c < 0) = false := by simp; omega
      have d2 : decide (c ≥ 4) = true := by simp; omega
      have d3 : decide (4 ≤ c) = true := by simp; omega
      clear hS hT hC hG h1 h2
      go_enter Try.func60, Try.ntmps60
      go_wp2
      go_ret
      exact ⟨rfl, rfl⟩
  · rw [show rowA A c = [] by unfold rowA; rw [if_neg (by omega)]]
    have d1 : decide (c < 0) = true := by simp; omega
    clear hS hT hC hG h1 h2
    go_enter Try.func60, Try.ntmps60
    go_wp2
    go_ret
    exact ⟨rfl, rfl⟩
/-- the rows behind y, and y itself -/
def turnd (A : Mst) (y : Nat) : List Int := A ((y + 1) % 4) ++ (A ((y + 2) % 4) ++ (A ((y + 3) % 4) ++ A ((y + 4) % 4)))
theorem turnd_none {A : Mst} {y : Nat} (h : ∀ j, j < 4 → A ((y + 1 + j) % 4) = []) : (turnd A y).headD (-1) = -1 := by
  have h0 := h 0 (by omega); have h1 := h 1 (by omega); have h2 := h 2 (by omega); have h3 := h 3 (by omega)
  simp only [Nat.add_assoc] at h0 h1 h2 h3
  unfold turnd
  rw [show (y + (1 + 0)) = y + 1 by omega] at h0
  rw [show (y + (1 + 1)) = y + 2 by omega] at h1
  rw [show (y + (1 + 2)) = y + 3 by omega] at h2
  rw [show (y + (1 + 3)) = y + 4 by omega] at h3
  rw [h0, h1, h2, h3]; rfl
theorem turnd_some {A : Mst} {y k : Nat} {i : Int} {T : List Int} (hk : k < 4) (h : ∀ j, j < k → A ((y + 1 + j) % 4) = []) (hi : A ((y + 1 + k) % 4) = i :: T) : (turnd A y).headD (-1) = i := by
  unfold turnd
  rcases (show k = 0 ∨ k = 1 ∨ k = 2 ∨ k = 3 by omega) with rfl | rfl | rfl | rfl
  · rw [show y + 1 + 0 = y + 1 by omega] at hi
    rw [hi]; rfl
  · have h0 := h 0 (by omega)
    rw [show y + 1 + 0 = y + 1 by omega] at h0
    rw [show y + 1 + 1 = y + 2 by omega] at hi
    rw [h0, hi]; rfl
  · have h0 := h 0 (by omega); have h1 := h 1 (by omega)
    rw [show y + 1 + 0 = y + 1 by omega] at h0
    rw [show y + 1 + 1 = y + 2 by omega] at h1
    rw [show y + 1 + 2 = y + 3 by omega] at hi
    rw [h0, h1, hi]; rfl
  · have h0 := h 0 (by omega); have h1 := h 1 (by omega); have h2 := h 2 (by omega)
    rw [show y + 1 + 0 = y + 1 by omega] at h0
    rw [show y + 1 + 1 = y + 2 by omega] at h1
    rw [show y + 1 + 2 = y + 3 by omega] at h2
    rw [show y + 1 + 3 = y + 4 by omega] at hi
    rw [h0, h1, h2, hi]; rfl
/-- the first one behind row y; -1, if there is none -/
def behR (A : Mst) (y : Nat) : Int := (turnd A y).headD (-1)
/-- so far the rows behind are empty -/
structure BSt (A : Mst) (y k : Nat) (w wr : World) : Prop where
  eq : wr = w
  em : ∀ j, j < k → A ((y + 1 + j) % 4) = []
theorem gbehind_c {w : World} {p q gc n y : Nat} {FR : Nat → Prop} {L : List Int} {cs fs ns : Nat → Int} {A : Mst} (hy : y < 4) (hS : MS w p q gc n FR L cs fs ns) (hT : MT A fs ns) :
    Calls Try.prog 69 #[.pointer (some ⟨p, 0, none⟩), .int .i64 (y : Int)] w fun e w' => e = .returned (.int .i64 (behR A y)) ∧ w' = w := by
  have hcf := Lib.hid hS.cf
  have hcn := Lib.hid hS.cn
  replace hT := Lib.hid hT
  clear hS
  go_enter Try.func69, Try.ntmps69
  go_wp2
  go_loopw [7] (fun i wr => ∃ k : Nat, k ≤ 4 ∧ i = .int .i64 k ∧ BSt A y k w wr) (fun i _ => 4 - (intOf i).toNat)
  case atStart => exact ⟨0, by omega, rfl, rfl, fun j hj => by omega⟩
  case round =>
    obtain ⟨k, hk, rfl, rfl, hR⟩ := hrel
    by_cases hlt : k < 4
    · have hlt' : decide ((k : Int) < 4) = true := by simp; omega
      have hw1 : IntKind.i64.wrap ((y : Int) + 1) = (y : Int) + 1 := by rw [IntKind.wrap_i64]; omega
      have hw2 : IntKind.i64.wrap ((y : Int) + 1 + (k : Int)) = (y : Int) + 1 + (k : Int) := by rw [IntKind.wrap_i64]; omega
      have hw3 : IntKind.i64.wrap ((k : Int) + 1) = (k : Int) + 1 := by rw [IntKind.wrap_i64]; omega
      obtain ⟨z, hz⟩ : ∃ z, z = (y + 1 + k) % 4 := ⟨_, rfl⟩
      have hq : Int.tmod ((y : Int) + 1 + (k : Int)) 4 = (z : Int) := by rw [hz, show ((y : Int) + 1 + (k : Int)) = ((y + 1 + k : Nat) : Int) by omega]; exact (Int.ofNat_tmod _ 4).symm
      have hz4 : z < 4 := by omega
      have hz4' : (z : Int) < 4 := by omega
      have hzf := hcf.out z hz4
      have hzn := hcn.out z hz4
      rw [hT.out.en z hz4] at hzn
      rcases hA : A z with _ | ⟨i, T⟩
      · rw [hA] at hzn
        have hR' : Hid (BSt A y (k + 1) wr wr) := Lib.hid ⟨rfl, fun j hj => by
          by_cases c : j = k
          · subst c; rw [← hz]; exact hA
          · exact hR j (by omega)⟩
        clear hR hA hz
        have hzn' : wr.cell? ⟨p, 6 + z, none⟩ = some (.int .i64 0) := hzn
        clear hzn
        go_wp2
        go_roundw
        case rel => exact ⟨k + 1, by omega, by go_num, hR'.out⟩
        case measure => simp [intOf]; omega
      · have e : behR A y = i := turnd_some hlt hR (hz ▸ hA)
        rw [hA] at hzn
        rw [hT.out.ef z hz4 i T hA] at hzf
        have hm : 0 < (((i :: T).length : Nat) : Int) := by simp
        have hm' : decide ((((i :: T).length : Nat) : Int) > 0) = true := by simp
        replace e := Lib.hid e
        generalize (i :: T).length = m at *
        clear hR hA hz
        go_wp2
        go_ret
        exact ⟨by rw [e.out]; rfl, rfl⟩
    · have e : k = 4 := by omega
      subst e
      have e : Hid (behR A y = -1) := Lib.hid (turnd_none hR)
      clear hR
      go_wp2
      go_ret
      exact ⟨by rw [e.out]; rfl, rfl⟩
end Wd
end Go.Proofs.Ytdaojohdmidemaa

/- The package's mill: List. -/
namespace Go.Proofs.Ytdaojohdmidemaa
set_option maxRecDepth 20000
open Go.RowKit
set_option linter.unusedVariables false
namespace Wd
/-- a row stands in the ring as it is -/
theorem in_LL {A : Mst} {x : Nat} (hx : x < 4) : ∃ X Y, LL A = X ++ (A x ++ Y) := by
  rcases (show x = 0 ∨ x = 1 ∨ x = 2 ∨ x = 3 by omega) with rfl | rfl | rfl | rfl
  · exact ⟨[], A 1 ++ (A 2 ++ A 3), rfl⟩
  · exact ⟨A 0, A 2 ++ A 3, by simp [LL]⟩
  · exact ⟨A 0 ++ A 1, A 3, by simp [LL]⟩
  · exact ⟨A 0 ++ (A 1 ++ A 2), [], by simp [LL]⟩
theorem row_next {A : Mst} {x : Nat} (hx : x < 4) (hn : (LL A).Nodup) {j : Nat} {i : Int} (hj : j + 1 < (A x).length) (hi : (A x)[j]? = some i) : (A x)[j + 1]? = some (nxt (LL A) i) := by
  obtain ⟨X, Y, e⟩ := in_LL (A := A) hx
  have h1 : (A x)[j + 1]? = some (A x)[j + 1] := List.getElem?_eq_getElem hj
  have e2 : A x = (A x).take j ++ i :: (A x)[j + 1] :: (A x).drop (j + 2) := by
    have h0 : (A x)[j]'(by omega) = i := by
      have := List.getElem?_eq_getElem (l := A x) (i := j) (by omega)
      rw [hi] at this
      exact (Option.some.inj this).symm
    conv => lhs; rw [← List.take_append_drop j (A x)]
    rw [List.drop_eq_getElem_cons (by omega : j < (A x).length), h0, List.drop_eq_getElem_cons hj]
  generalize (A x)[j + 1] = b at *
  rw [h1]
  congr 1
  have e3 : LL A = (X ++ (A x).take j) ++ i :: b :: ((A x).drop (j + 2) ++ Y) := by
    rw [e]; conv => lhs; rw [e2]
    simp
  rw [e3] at hn ⊢
  exact (nxt_mid hn).symm
def slen : Value → Nat | .slice _ n _ => n | _ => 0
/-- those that were told so far -/
structure LSt (w : World) (M : List Int) (j : Nat) (v : Value) (z : Int) (wr : World) : Prop where
  own : wr.ownsRow w.heap.size 3 1 v j (ints (M.take j))
  bel : Below w.heap.size w wr
  at' : j < M.length → M[j]? = some z
theorem LSt.next {w wr w1 : World} {M : List Int} {j g cap : Nat} {v : Value} {z b : Int} (h : LSt w M j v z wr) (hj : j < M.length) (hM : j + 1 < M.length → M[j + 1]? = some b)
    {c : Array Value} {t : TypeId} (hown : w1.ownsRow w.heap.size 3 1 (.slice (some ⟨g, 0, none⟩) (j + 1) cap) (j + 1) (ints (M.take j) ++ ints [z])) (hg : (wr.alloc (.cells c t)).grownBy w1 v.ownBlock) :
    LSt w M (j + 1) (.slice (some ⟨g, 0, none⟩) (j + 1) cap) b w1 := by
  refine ⟨?_, ?_, hM⟩
  · rw [List.take_add_one, h.at' hj]
    simpa [ints] using hown
  · exact (h.bel.alloc h.bel.size _).grown hg (by have := h.bel.size; simp; omega) (fun k' hk => (h.own.lt k' hk).1)
set_option maxHeartbeats 8000000 in
theorem glist_y {w : World} {p n x : Nat} {A : Mst} {F : Nat → Prop} (h : MA w p n A F) (hx : x < 4) {i : Int} {T : List Int} (hA : A x = i :: T) :
    Calls Try.prog 61 #[.pointer (some ⟨p, 0, none⟩), .int .i64 (x : Int)] w fun e w' => ∃ u, e = .returned u ∧ SL w' 3 u (A x) ∧ Below w.heap.size w w' ∧ (∀ g, u.ownBlock = some g → w.heap.size ≤ g) := by
  have P0 := gcount_k (x : Int) h
  rw [show rowA A (x : Int) = A x by unfold rowA; rw [if_pos (by omega)]; simp] at P0
  obtain ⟨q, gc, FR, cs, fs, ns, rfl, hS, hT, hC, hG, h1, h2⟩ := h
  have F0 := hT.ef x hx i T hA
  have cf := hS.cf x hx
  rw [F0] at cf
  have F1 : 0 < (A x).length := by rw [hA]; simp
  have F2 : (A x)[0]? = some i := by rw [hA]; rfl
  have F3 : ∀ (j : Nat) (y : Int), j + 1 < (A x).length → (A x)[j]? = some y → (A x)[j + 1]? = some (nxt (LL A) y) := fun j y hj hy => row_next hx (good_nd hG) hj hy
  have hm1 : (A x).length ≤ 512 := Nat.le_trans (good_le hG x hx) h2
  have R1 : ∀ wr, Below w.heap.size w wr → wr.cell? ⟨p, 0, none⟩ = some (.pointer (some ⟨q, 0, none⟩)) ∧ RA wr q n (LL A) FR := fun wr hb => ⟨(hS.keep h1 hb).c0, (hS.keep h1 hb).ring⟩
  obtain ⟨M, hM⟩ : ∃ M, M = A x := ⟨_, rfl⟩
  rw [← hM] at P0 F1 F2 F3 hm1 ⊢
  obtain ⟨m, hm⟩ : ∃ m, m = M.length := ⟨_, rfl⟩
  rw [← hm] at P0 F1 F3 hm1
  obtain ⟨i0, hi0, hz0, hz1, hz2⟩ := info_parts info3
  have hmx : 8194 ≤ maxLen := by decide
  obtain ⟨Z, hmk, hO⟩ : ∃ Z : Array Value, (∀ w, (Instr.makeSlice 44 (.int .i64 0) (.int .i64 (m : Int))).run Try.prog w = .ok (.slice (some ⟨w.heap.size, 0, none⟩) 0 m) (w.alloc (.cells Z 3))) ∧ Z.size = m * 1 := by
    refine ⟨madeCells #[.int .i64 0] m, fun w => ?_, by rw [size_madeCells]; omega⟩
    have := run_make (P := Try.prog) w 44 3 i0 (.int .i64 0) Try.underlying44 hi0 hz0 .i64 .i64 0 m (by omega) (by omega) (by rw [hz2]; omega) (by omega)
    rw [hz1] at this
    simpa [Value.cells] using this
  have S0 : LSt w M 0 (.slice (some ⟨w.heap.size, 0, none⟩) 0 m) i (w.alloc (.cells Z 3)) := ⟨by simpa [ints] using World.ownsRow_made w Z m (Nat.le_refl _) (by omega) hO, (Below.refl _ _).alloc (Nat.le_refl _) _, fun _ => F2⟩
  replace S0 := Lib.hid S0
  have cf' : (w.alloc (.cells Z 3)).cell? ⟨p, 2 + x, none⟩ = some (.int .i64 i) := (World.cell?_alloc_lt _ _ _ (World.block_lt_of_cell? w _ cf)).trans cf
  have n0 : ((m : Int) == 0) = false := by simp; omega
  have hx4 : (x : Int) < 4 := by omega
  replace R1 := Lib.hid R1
  replace F3 := Lib.hid F3
  replace P0 := Lib.hid P0
  replace hM := Lib.hid hM
  replace hm := Lib.hid hm
  clear hS hT hC hG h1 h2 F2 F0 hA hO
  go_enter Try.func61, Try.ntmps61
  go_wp2_with (first | (go_at_call 60; ((with_reducible refine P0.out.mono ?_); rintro e w' ⟨rfl, hw'⟩; subst w')))
  clear cf cf' P0 hmk
  go_loopw [6, 7] (fun v z wr => ∃ (j : Nat) (zz : Int) (a : Option Addr) (c : Nat), j ≤ m ∧ v = .slice a j c ∧ z = .int .i64 zz ∧ LSt w M j v zz wr) (fun v _ _ => m - slen v)
  case atStart => exact ⟨0, i, _, _, by omega, rfl, rfl, S0.out⟩
  case round =>
    obtain ⟨j, zz, a, c, hj, rfl, rfl, hR⟩ := hrel
    by_cases hlt : j < m
    · have hlt' : decide ((j : Int) < (m : Int)) = true := by simp; omega
      replace hR := Lib.hid hR
      go_wp2_with (first | (at_builtin; refine wpList_append_lies _ rfl (.tmp 31) (.tmp 33) 44 rfl w.heap.size 3 i0 (.int .i64 0) 1 8 Try.underlying44 hi0 hz0 hz1 hz2 rfl (by decide) (.slice a j c) j _ (by simp [Act.eval]) (hR.out.own.alloc _) ⟨wr.heap.size, 0, none⟩ 1 1 (ints [zz]) (by simp [Act.eval]) (by simp [ints]) (one_at ((World.cell?_alloc_new _ _ _ 0).trans rfl)) (ints_one _) (by omega) (by omega) (by omega) (by have := hR.out.bel.size; simp; omega) _ rfl ?_; intro g cap w1 hown1 hgrow1 hat1 hlt1; obtain ⟨d1, d2⟩ := R1.out w1 ((hR.out.bel.alloc hR.out.bel.size _).grown hgrow1 (by have := hR.out.bel.size; simp; omega) (fun k' hk => (hR.out.own.lt k' hk).1)); have R3 := Lib.hid (hR.out.next (by have := hm.out; omega) (fun hlt2 => F3.out j zz (by have := hm.out; omega) (hR.out.at' (by have := hm.out; omega))) hown1 hgrow1); replace d2 := Lib.hid d2; clear hown1 hgrow1) | (go_at_call 66; ((with_reducible refine (next_k _ d2.out).mono ?_); rintro e w' ⟨rfl, hw'⟩; subst w')))
      go_roundw
      case rel => exact ⟨j + 1, _, _, _, by omega, rfl, rfl, R3.out⟩
      case measure => simp [slen]; omega
    · have e : j = m := by omega
      subst e
      replace hR := Lib.hid hR
      go_wp2
      go_ret
      refine ⟨_, rfl, ?_, hR.out.bel, fun g hg => (hR.out.own.lt g hg).1⟩
      have ho := own_base hR.out.own
      rw [List.take_of_length_le (by have := hm.out; omega)] at ho
      unfold SL
      rw [← hm.out]
      exact ho
theorem glist_k {w : World} {p n : Nat} {A : Mst} {F : Nat → Prop} (c : Int) (h : MA w p n A F) :
    Calls Try.prog 61 #[.pointer (some ⟨p, 0, none⟩), .int .i64 c] w fun e w' => ∃ u, e = .returned u ∧ SL w' 3 u (rowA A c) ∧ Below w.heap.size w w' ∧ (∀ g, u.ownBlock = some g → w.heap.size ≤ g) := by
  rcases hA : rowA A c with _ | ⟨i, T⟩
  · have P0 := gcount_k c h
    rw [hA] at P0
    have P1 : Hid (Calls Try.prog 60 #[.pointer (some ⟨p, 0, none⟩), .int .i64 c] w fun e w' => e = .returned (.int .i64 0) ∧ w' = w) := Lib.hid P0
    clear h hA P0
    go_enter Try.func61, Try.ntmps61
    go_wp2_with (first | (go_at_call 60; ((with_reducible refine P1.out.mono ?_); rintro e w' ⟨rfl, hw'⟩; subst w')))
    go_ret
    exact ⟨_, rfl, World.ownsRow_nil _ _ _ _, Below.refl _ _, fun g hg => by cases hg⟩
  · have hc : 0 ≤ c ∧ c < 4 := by
      apply Classical.byContradiction
      intro hc
      unfold rowA at hA
      rw [if_neg hc] at hA
      cases hA
    obtain ⟨x, rfl⟩ : ∃ x : Nat, c = x := ⟨c.toNat, by omega⟩
    have e : rowA A (x : Int) = A x := by unfold rowA; rw [if_pos hc]; simp
    rw [e] at hA
    rw [← hA]
    exact glist_y h (by omega) hA
end Wd
end Go.Proofs.Ytdaojohdmidemaa

/- The package's mill: one cell goes from its row to the end of another. -/
namespace Go.Proofs.Ytdaojohdmidemaa
set_option maxRecDepth 20000
open Go.RowKit
set_option linter.unusedVariables false
namespace Wd
/-- the ring, told from row y on -/
def tailY (D : Mst) (y : Nat) : List Int := D ((y + 1) % 4) ++ (D ((y + 2) % 4) ++ D ((y + 3) % 4))
theorem LL_rot (D : Mst) {y : Nat} (hy : y < 4) : ∃ X Y, LL D = X ++ Y ∧ D y ++ tailY D y = Y ++ X := by
  unfold LL tailY
  rcases (show y = 0 ∨ y = 1 ∨ y = 2 ∨ y = 3 by omega) with rfl | rfl | rfl | rfl
  · exact ⟨[], _, rfl, by simp⟩
  · exact ⟨D 0, _, rfl, by simp⟩
  · exact ⟨D 0 ++ D 1, D 2 ++ D 3, by simp, by simp⟩
  · exact ⟨D 0 ++ (D 1 ++ D 2), D 3, by simp, by simp⟩
theorem turnd_eq (D : Mst) {y : Nat} (hy : y < 4) : turnd D y = tailY D y ++ D y := by
  unfold turnd tailY
  rw [show (y + 4) % 4 = y by omega]
  simp
theorem tailY_up (D : Mst) {y : Nat} (hy : y < 4) (X : List Int) : tailY (upA D y X) y = tailY D y := by
  unfold tailY upA
  rw [if_neg (by omega), if_neg (by omega), if_neg (by omega)]
theorem RA.told {w : World} {q n y : Nat} {D : Mst} {FR : Nat → Prop} (hy : y < 4) (h : RA w q n (LL D) FR) : RA w q n (D y ++ tailY D y) FR := by
  obtain ⟨X, Y, e1, e2⟩ := LL_rot D hy
  rw [e1] at h; rw [e2]; exact h.rot
theorem RA.untold {w : World} {q n y : Nat} {D : Mst} {FR : Nat → Prop} (hy : y < 4) (h : RA w q n (D y ++ tailY D y) FR) : RA w q n (LL D) FR := by
  obtain ⟨X, Y, e1, e2⟩ := LL_rot D hy
  rw [e2] at h; rw [e1]; exact h.rot
/-- one is put in behind row y -/
theorem ring_in {w : World} {q n y : Nat} {B : Mst} {FR : Nat → Prop} {i : Int} (hR : RA w q n (LL B) FR) (hi : i ∉ LL B) (h0 : 0 ≤ i) (h1 : i < n) (hy : y < 4) :
    Calls Try.prog 68 #[.pointer (some ⟨q, 0, none⟩), .int .i64 i, .int .i64 (behR B y)] w fun e w' => e = .returned (.bool true) ∧ RA w' q n (LL (upA B y (B y ++ [i]))) FR ∧ Ch FR w w' := by
  have hT := hR.told hy
  have hmem : ∀ j, j ∈ LL B ↔ j ∈ B y ++ tailY B y := by
    intro j
    obtain ⟨X, Y, e1, e2⟩ := LL_rot B hy
    rw [e1, e2]; simp [or_comm]
  rw [hmem] at hi
  have hnd := hT.nd
  unfold behR
  rw [turnd_eq B hy]
  have hup : (upA B y (B y ++ [i])) y = B y ++ [i] := by simp [upA]
  rcases hE : tailY B y with _ | ⟨a, T⟩
  · rcases hU : B y with _ | ⟨a, U⟩
    · rw [hE, hU] at hT
      have := in_k i (-1) hT
      have hp : putOk n ([] ++ []) i (-1) = true := by unfold putOk; simp; omega
      rw [hp, if_pos rfl] at this
      refine this.mono ?_
      rintro e w' ⟨rfl, d1, d2⟩
      refine ⟨rfl, RA.untold hy ?_, d2⟩
      rw [show (upA B y ([] ++ [i])) y = [] ++ [i] by simp [upA], tailY_up B hy, hE]
      simpa [inL] using d1
    · rw [hE, hU] at hT
      have := in_k i a hT
      rw [hU, hE] at hi
      have hp : putOk n (a :: U ++ []) i a = true := by
        unfold putOk
        exact decide_eq_true ⟨h0, h1, hi, Or.inl (by simp)⟩
      rw [hp, if_pos rfl] at this
      refine this.mono ?_
      rintro e w' ⟨rfl, d1, d2⟩
      refine ⟨rfl, RA.untold hy ?_, d2⟩
      rw [show (upA B y (a :: U ++ [i])) y = a :: U ++ [i] by simp [upA], tailY_up B hy, hE, List.append_nil]
      rw [List.append_nil, lay_head] at d1
      exact d1.rot
  · rw [hE] at hT hi hnd
    have := in_k i a hT
    have hp : putOk n (B y ++ a :: T) i a = true := by
      unfold putOk
      exact decide_eq_true ⟨h0, h1, hi, Or.inl (by simp)⟩
    rw [hp, if_pos rfl] at this
    refine this.mono ?_
    rintro e w' ⟨rfl, d1, d2⟩
    refine ⟨rfl, RA.untold hy ?_, d2⟩
    rw [hup, tailY_up B hy, hE]
    rw [lay_tail (fun hm => (List.nodup_append.1 hnd).2.2 a hm a (by simp) rfl)] at d1
    exact d1
theorem count_up (D : Mst) {k : Nat} (hk : k < 4) (X : List Int) (a : Int) : (LL (upA D k X)).count a + (D k).count a = (LL D).count a + X.count a := by
  unfold LL upA
  rcases (show k = 0 ∨ k = 1 ∨ k = 2 ∨ k = 3 by omega) with rfl | rfl | rfl | rfl
  all_goals
    simp only [List.count_append, if_true, show ((0 : Nat) = 1) = False by simp, show ((0 : Nat) = 2) = False by simp, show ((0 : Nat) = 3) = False by simp, show ((1 : Nat) = 0) = False by simp, show ((1 : Nat) = 2) = False by simp, show ((1 : Nat) = 3) = False by simp, show ((2 : Nat) = 0) = False by simp, show ((2 : Nat) = 1) = False by simp, show ((2 : Nat) = 3) = False by simp, show ((3 : Nat) = 0) = False by simp, show ((3 : Nat) = 1) = False by simp, show ((3 : Nat) = 2) = False by simp, if_false]
    omega
/-- one goes from row x to the end of row y -/
def mvA (A : Mst) (x y : Nat) (P Q : List Int) (i : Int) : Mst := upA (upA A x (P ++ Q)) y (A y ++ [i])
section
variable {A : Mst} {x y n k : Nat} {P Q : List Int} {i : Int} {fs ns cs : Nat → Int}
theorem good_mv (h : Good n A) (hx : x < 4) (hy : y < 4) (hxy : x ≠ y) (hA : A x = P ++ i :: Q) : Good n (mvA A x y P Q i) := by
  refine List.Perm.trans ?_ h
  refine List.perm_iff_count.2 (fun a => ?_)
  show (LL (mvA A x y P Q i)).count a = (LL A).count a
  have e1 := count_up A hx (P ++ Q) a
  have e2 := count_up (upA A x (P ++ Q)) hy (A y ++ [i]) a
  rw [show (upA A x (P ++ Q)) y = A y by unfold upA; rw [if_neg (Ne.symm hxy)]] at e2
  rw [hA] at e1
  unfold mvA
  simp only [List.count_append, List.count_cons, List.count_nil] at e1 e2
  omega
theorem mem_mv (hxy : x ≠ y) (hA : A x = P ++ i :: Q) {z : Nat} {j : Int} (hj : j ≠ i) (hz : j ∈ A z) : j ∈ mvA A x y P Q i z := by
  unfold mvA upA
  by_cases c : z = y
  · subst c; rw [if_pos rfl]; simp [hz]
  · rw [if_neg c]
    by_cases d : z = x
    · subst d; rw [if_pos rfl]; rw [hA] at hz; simpa [hj] using hz
    · rw [if_neg d]; exact hz
theorem color_mv (h : Good n A) (hx : x < 4) (hy : y < 4) (hxy : x ≠ y) (hA : A x = P ++ (k : Int) :: Q) (hc : ∀ j : Nat, j < n → cs j = colorR A j) : ∀ j : Nat, j < n → upd cs k y j = colorR (mvA A x y P Q k) j := by
  intro j hj
  have hG := good_mv h hx hy hxy hA
  by_cases c : j = k
  · subst c
    rw [upd_same]
    exact (good_color hG hy (by unfold mvA upA; rw [if_pos rfl]; simp)).symm
  · rw [upd_ne _ _ c, hc j hj]
    obtain ⟨z, hz, hm, e⟩ := good_in h hj
    rw [e]
    exact (good_color hG hz (mem_mv hxy hA (by omega) hm)).symm
theorem mt_out (h : MT A fs ns) (hx : x < 4) (hn : (LL A).Nodup) (hA : A x = P ++ i :: Q) : MT (upA A x (P ++ Q)) (if P = [] then upd fs x (nxt (LL A) i) else fs) (upd ns x (ns x - 1)) := by
  refine ⟨fun k hk a T hB => ?_, fun k hk => ?_⟩
  · by_cases c : k = x
    · subst c
      simp only [upA, if_true] at hB
      rcases P with _ | ⟨b, P'⟩
      · simp only [List.nil_append] at hB hA
        rw [if_pos rfl, upd_same]
        have := row_next hx hn (j := 0) (i := i) (by rw [hA, hB]; simp) (by rw [hA]; rfl)
        rw [hA, hB] at this
        simpa using this.symm
      · rw [if_neg (by simp)]
        have hB' : b = a := by simpa using (List.cons.inj hB).1
        rw [← hB']
        exact h.ef k hk b (P' ++ i :: Q) (by rw [hA]; rfl)
    · simp only [upA, if_neg c] at hB
      have e : (if P = [] then upd fs x (nxt (LL A) i) else fs) k = fs k := by split; exact upd_ne _ _ c; rfl
      rw [e]
      exact h.ef k hk a T hB
  · by_cases c : k = x
    · subst c
      rw [upd_same, h.en k hk, hA]
      simp only [upA, if_true, List.length_append, List.length_cons]
      omega
    · rw [upd_ne _ _ c]
      simp only [upA, if_neg c]
      exact h.en k hk
theorem mt_in {B : Mst} (h : MT B fs ns) (hy : y < 4) : MT (upA B y (B y ++ [i])) (if B y = [] then upd fs y i else fs) (upd ns y (ns y + 1)) := by
  refine ⟨fun k hk a T hB => ?_, fun k hk => ?_⟩
  · by_cases c : k = y
    · subst c
      simp only [upA, if_true] at hB
      rcases hU : B k with _ | ⟨b, U⟩
      · rw [hU] at hB
        rw [if_pos rfl, upd_same]
        exact (List.cons.inj hB).1
      · rw [hU] at hB
        rw [if_neg (by simp)]
        have hB' : b = a := by simpa using (List.cons.inj hB).1
        rw [← hB']
        exact h.ef k hk b U hU
    · simp only [upA, if_neg c] at hB
      have e : (if B y = [] then upd fs y i else fs) k = fs k := by split; exact upd_ne _ _ c; rfl
      rw [e]
      exact h.ef k hk a T hB
  · by_cases c : k = y
    · subst c
      rw [upd_same, h.en k hk]
      simp only [upA, if_true, List.length_append, List.length_cons, List.length_nil]
      omega
    · rw [upd_ne _ _ c]
      simp only [upA, if_neg c]
      exact h.en k hk
end
end Wd
end Go.Proofs.Ytdaojohdmidemaa

/- The package's mill: one cell goes from its row to the end of another. -/
namespace Go.Proofs.Ytdaojohdmidemaa
set_option maxRecDepth 20000
open Go.RowKit
set_option linter.unusedVariables false
namespace Wd
set_option maxHeartbeats 8000000 in
theorem gmove_c {w : World} {p n k x y : Nat} {A : Mst} {F : Nat → Prop} {P Q : List Int} (h : MA w p n A F) (hx : x < 4) (hy : y < 4) (hxy : x ≠ y) (hA : A x = P ++ (k : Int) :: Q) :
    Calls Try.prog 64 #[.pointer (some ⟨p, 0, none⟩), .int .i64 (k : Int), .int .i64 (y : Int)] w fun e w' => e = .returned (.tuple #[]) ∧ MA w' p n (mvA A x y P Q k) F ∧ Ch F w w' := by
  obtain ⟨q, gc, FR, cs, fs, ns, rfl, hS, hT, hC, hG, h1, h2⟩ := h
  have hm : (k : Int) ∈ A x := by rw [hA]; simp
  have hkn : k < n := by have := (good_mem hG).1 (mem_LL.2 ⟨x, hx, hm⟩); omega
  have hO := Lib.hid (mid_out hG hx hA)
  have eBy : Hid ((upA A x (P ++ Q)) y = A y) := Lib.hid (by unfold upA; rw [if_neg (Ne.symm hxy)])
  have eny : Hid (upd ns x (ns x - 1) y = ns y) := Lib.hid (upd_ne _ _ (Ne.symm hxy))
  have hk0 : (0 : Int) ≤ k := by omega
  have hk1 : (k : Int) < n := by omega
  have hni : Hid ((k : Int) ∉ LL (upA A x (P ++ Q))) := Lib.hid (by
    rw [← hO.out]
    intro hi
    exact ((mem_outL (good_nd hG) (mem_LL.2 ⟨x, hx, hm⟩) _).1 hi).2 rfl)
  have T1 := Lib.hid (mt_out hT hx (good_nd hG) hA)
  have c0 := hS.c0
  have c1 := hS.c1
  have hcol := hS.cc k hkn
  rw [hC k hkn, good_color hG hx hm] at hcol
  have hf := hS.cf x hx
  have zf := hS.zp (2 + x)
  have hx4 : (x : Int) < 4 := by omega
  have hy4 : (y : Int) < 4 := by omega
  have nx0 : 1 ≤ ns x := by rw [hT.en x hx, hA]; simp; omega
  have nx1 : ns x ≤ 512 := by rw [hT.en x hx]; have := good_le hG x hx; omega
  have ny0 : 0 ≤ ns y := by rw [hT.en y hy]; omega
  have ny1 : ns y ≤ 512 := by rw [hT.en y hy]; have := good_le hG y hy; omega
  have wx : IntKind.i64.wrap (ns x - 1) = ns x - 1 := by rw [IntKind.wrap_i64]; omega
  have wy : IntKind.i64.wrap (ns y + 1) = ns y + 1 := by rw [IntKind.wrap_i64]; omega
  have hB' : (A y = [] ∧ ns y = 0) ∨ (A y ≠ [] ∧ (ns y == 0) = false) := by
    rcases hE : A y with _ | ⟨a, U⟩
    · exact Or.inl ⟨rfl, by rw [hT.en y hy, hE]; rfl⟩
    · exact Or.inr ⟨by simp, by rw [hT.en y hy, hE]; simp; omega⟩
  have hR := Lib.hid hS.ring
  have hRd := Lib.hid hS.drew.ring
  replace hC := Lib.hid hC
  replace hG := Lib.hid hG
  replace hm := Lib.hid hm
  by_cases hP : P = []
  · have ef : fs x = k := hT.ef x hx k Q (by rw [hA, hP]; rfl)
    rw [ef] at hf
    rw [if_pos hP] at T1
    replace hS := Lib.hid hS
    replace hT := Lib.hid hT
    replace hP := Lib.hid hP
    replace hA := Lib.hid hA
    clear ef
    go_enter Try.func64, Try.ntmps64
    go_wp2
    refine wp_region_still_tail 11 (by kernel_rfl) (by kernel_rfl) ?_
    simp only [List.take_succ_cons, List.take_zero, List.drop_succ_cons, List.drop_zero]
    iterate 7 still_step
    still_call (next_k _ hRd.out)
    iterate 3 still_step
    refine wpStill_nil ?_
    have S0 := hS.out.drew
    have C0 := (Ch.refl (FM p gc FR) w).drew
    change wpList _ _ _ _ _ w.drew
    generalize w.drew = w0 at S0 C0 ⊢
    clear c0 c1 hcol hf zf hS hR hRd
    have hf := S0.cf x hx
    have zf := S0.zp (2 + x)
    replace S0 := Lib.hid S0
    replace C0 := Lib.hid C0
    go_wp2
    have S1 := S0.out.setF hx (nxt (LL A) k)
    have C1 := C0.out.set ⟨p, 2 + x, none⟩ (Or.inl rfl) (.int .i64 (nxt (LL A) k))
    generalize w0.setCell ⟨p, 2 + x, none⟩ (.int .i64 (nxt (LL A) k)) = w1 at S1 C1 ⊢
    clear hf zf S0 C0
    have n1 := S1.cn x hx
    have z1 := S1.zp (6 + x)
    replace S1 := Lib.hid S1
    replace C1 := Lib.hid C1
    go_region
    have S2 := (S1.out.setN hx (ns x - 1)).drew
    have C2 := (C1.out.set ⟨p, 6 + x, none⟩ (Or.inl rfl) (.int .i64 (ns x - 1))).drew
    generalize (w1.setCell ⟨p, 6 + x, none⟩ (.int .i64 (ns x - 1))).drew = w2 at S2 C2 ⊢
    clear n1 z1 S1 C1
    have c2 := S2.c0
    have r2 := Lib.hid S2.ring
    replace S2 := Lib.hid S2
    replace C2 := Lib.hid C2
    go_wp2_with (first | (go_at_call 67; ((with_reducible refine (out_k _ r2.out).mono ?_); rintro e w3 ⟨he, d1, d2⟩; subst he; rw [hO.out] at d1; have S3 := S2.out.rung h1 d1 d2; have C3 := Lib.hid (C2.out.trans (d2.mono (fun j hj => Or.inr (Or.inr hj)))); clear d1 d2 c2 r2 S2 C2; have c3 := S3.c0; have S3d := Lib.hid S3.drew; have r3 := Lib.hid S3.drew.ring; replace S3 := Lib.hid S3)))
    refine wp_region_still_tail 8 (by kernel_rfl) (by kernel_rfl) ?_
    simp only [List.take_succ_cons, List.take_zero, List.drop_succ_cons, List.drop_zero]
    iterate 7 still_step
    still_call (gbehind_c hy S3d.out T1.out)
    refine wpStill_nil ?_
    change wpList _ _ _ _ _ w3.drew
    rcases hB' with ⟨hB, e0⟩ | ⟨hB, e0⟩
    · replace hB := Lib.hid hB
      go_wp2_with (first | (go_at_call 68; ((with_reducible refine (ring_in r3.out hni.out hk0 hk1 hy).mono ?_); rintro e w4 ⟨he, d1, d2⟩; subst he; rw [eBy.out] at d1; have S4 := S3d.out.rung h1 d1 d2; have C4 := Lib.hid (C3.out.drew.trans (d2.mono (fun j hj => Or.inr (Or.inr hj)))); clear d1 d2 c3 r3 S3 S3d C3; have n4 := S4.cn y hy; rw [eny.out, e0] at n4; have f4 := S4.cf y hy; have z4 := S4.zp (2 + y); replace S4 := Lib.hid S4)))
      have S5 := S4.out.setF hy k
      have C5 := C4.out.set ⟨p, 2 + y, none⟩ (Or.inl rfl) (.int .i64 k)
      generalize w4.setCell ⟨p, 2 + y, none⟩ (.int .i64 k) = w5 at S5 C5 ⊢
      clear n4 f4 z4 S4 C4
      have n5 := S5.cn y hy
      have z5 := S5.zp (6 + y)
      rw [eny.out, e0] at n5
      replace S5 := Lib.hid S5
      replace C5 := Lib.hid C5
      go_region
      have S6 := (S5.out.setN hy (1)).drew
      have C6 := (C5.out.set ⟨p, 6 + y, none⟩ (Or.inl rfl) (.int .i64 (1))).drew
      generalize (w5.setCell ⟨p, 6 + y, none⟩ (.int .i64 (1))).drew = w6 at S6 C6 ⊢
      clear n5 z5 S5 C5
      have c6 := S6.c1
      have f6 := S6.cc k hkn
      have z6 := S6.zc k
      replace S6 := Lib.hid S6
      replace C6 := Lib.hid C6
      go_wp2
      go_end0
      refine ⟨rfl, ⟨q, gc, FR, _, _, _, rfl, S6.out.setC hkn y, ?_, color_mv hG.out hx hy hxy hA.out hC.out, good_mv hG.out hx hy hxy hA.out, h1, h2⟩, C6.out.set _ (Or.inr (Or.inl rfl)) _⟩
      have T2 := mt_in (i := (k : Int)) T1.out hy
      rw [eBy.out, if_pos hB.out, eny.out, e0] at T2
      exact T2
    · replace hB := Lib.hid hB
      go_wp2_with (first | (go_at_call 68; ((with_reducible refine (ring_in r3.out hni.out hk0 hk1 hy).mono ?_); rintro e w4 ⟨he, d1, d2⟩; subst he; rw [eBy.out] at d1; have S4 := S3d.out.rung h1 d1 d2; have C4 := Lib.hid (C3.out.drew.trans (d2.mono (fun j hj => Or.inr (Or.inr hj)))); clear d1 d2 c3 r3 S3 S3d C3; have n4 := S4.cn y hy; rw [eny.out] at n4; have f4 := S4.cf y hy; have z4 := S4.zp (2 + y); replace S4 := Lib.hid S4)))
      have S5 := S4.out
      have C5 := C4.out
      clear f4 z4 n4 S4 C4
      have n5 := S5.cn y hy
      have z5 := S5.zp (6 + y)
      rw [eny.out] at n5
      replace S5 := Lib.hid S5
      replace C5 := Lib.hid C5
      go_region
      have S6 := (S5.out.setN hy (ns y + 1)).drew
      have C6 := (C5.out.set ⟨p, 6 + y, none⟩ (Or.inl rfl) (.int .i64 (ns y + 1))).drew
      generalize (w4.setCell ⟨p, 6 + y, none⟩ (.int .i64 (ns y + 1))).drew = w6 at S6 C6 ⊢
      clear n5 z5 S5 C5
      have c6 := S6.c1
      have f6 := S6.cc k hkn
      have z6 := S6.zc k
      replace S6 := Lib.hid S6
      replace C6 := Lib.hid C6
      go_wp2
      go_end0
      refine ⟨rfl, ⟨q, gc, FR, _, _, _, rfl, S6.out.setC hkn y, ?_, color_mv hG.out hx hy hxy hA.out hC.out, good_mv hG.out hx hy hxy hA.out, h1, h2⟩, C6.out.set _ (Or.inr (Or.inl rfl)) _⟩
      have T2 := mt_in (i := (k : Int)) T1.out hy
      rw [eBy.out, if_neg hB.out, eny.out] at T2
      exact T2
  · have ef : (fs x == (k : Int)) = false := by
      rcases P with _ | ⟨b, P'⟩
      · exact absurd rfl hP
      · rw [hT.ef x hx b (P' ++ (k : Int) :: Q) (by rw [hA]; rfl)]
        have hn : (A x).Nodup := by
          obtain ⟨X, Y, e⟩ := in_LL (A := A) hx
          have := good_nd hG.out
          rw [show A 0 ++ (A 1 ++ (A 2 ++ A 3)) = LL A from rfl, e] at this
          exact (List.nodup_append.1 (List.nodup_append.1 this).2.1).1
        rw [hA] at hn
        have : b ≠ (k : Int) := fun e => (List.nodup_append.1 hn).2.2 b (by simp) k (by simp) e
        simpa using this
    rw [if_neg hP] at T1
    have S1 := hS
    have C1 := Ch.refl (FM p gc FR) w
    replace hT := Lib.hid hT
    replace hP := Lib.hid hP
    replace hA := Lib.hid hA
    clear hR hRd hS
    go_enter Try.func64, Try.ntmps64
    have n1 := S1.cn x hx
    have z1 := S1.zp (6 + x)
    replace S1 := Lib.hid S1
    replace C1 := Lib.hid C1
    go_wp2
    clear c0 c1 hcol hf zf ef
    go_region
    have S2 := (S1.out.setN hx (ns x - 1)).drew
    have C2 := (C1.out.set ⟨p, 6 + x, none⟩ (Or.inl rfl) (.int .i64 (ns x - 1))).drew
    generalize (w.setCell ⟨p, 6 + x, none⟩ (.int .i64 (ns x - 1))).drew = w2 at S2 C2 ⊢
    clear n1 z1 S1 C1
    have c2 := S2.c0
    have r2 := Lib.hid S2.ring
    replace S2 := Lib.hid S2
    replace C2 := Lib.hid C2
    go_wp2_with (first | (go_at_call 67; ((with_reducible refine (out_k _ r2.out).mono ?_); rintro e w3 ⟨he, d1, d2⟩; subst he; rw [hO.out] at d1; have S3 := S2.out.rung h1 d1 d2; have C3 := Lib.hid (C2.out.trans (d2.mono (fun j hj => Or.inr (Or.inr hj)))); clear d1 d2 c2 r2 S2 C2; have c3 := S3.c0; have S3d := Lib.hid S3.drew; have r3 := Lib.hid S3.drew.ring; replace S3 := Lib.hid S3)))
    refine wp_region_still_tail 8 (by kernel_rfl) (by kernel_rfl) ?_
    simp only [List.take_succ_cons, List.take_zero, List.drop_succ_cons, List.drop_zero]
    iterate 7 still_step
    still_call (gbehind_c hy S3d.out T1.out)
    refine wpStill_nil ?_
    change wpList _ _ _ _ _ w3.drew
    rcases hB' with ⟨hB, e0⟩ | ⟨hB, e0⟩
    · replace hB := Lib.hid hB
      go_wp2_with (first | (go_at_call 68; ((with_reducible refine (ring_in r3.out hni.out hk0 hk1 hy).mono ?_); rintro e w4 ⟨he, d1, d2⟩; subst he; rw [eBy.out] at d1; have S4 := S3d.out.rung h1 d1 d2; have C4 := Lib.hid (C3.out.drew.trans (d2.mono (fun j hj => Or.inr (Or.inr hj)))); clear d1 d2 c3 r3 S3 S3d C3; have n4 := S4.cn y hy; rw [eny.out, e0] at n4; have f4 := S4.cf y hy; have z4 := S4.zp (2 + y); replace S4 := Lib.hid S4)))
      have S5 := S4.out.setF hy k
      have C5 := C4.out.set ⟨p, 2 + y, none⟩ (Or.inl rfl) (.int .i64 k)
      generalize w4.setCell ⟨p, 2 + y, none⟩ (.int .i64 k) = w5 at S5 C5 ⊢
      clear n4 f4 z4 S4 C4
      have n5 := S5.cn y hy
      have z5 := S5.zp (6 + y)
      rw [eny.out, e0] at n5
      replace S5 := Lib.hid S5
      replace C5 := Lib.hid C5
      go_region
      have S6 := (S5.out.setN hy (1)).drew
      have C6 := (C5.out.set ⟨p, 6 + y, none⟩ (Or.inl rfl) (.int .i64 (1))).drew
      generalize (w5.setCell ⟨p, 6 + y, none⟩ (.int .i64 (1))).drew = w6 at S6 C6 ⊢
      clear n5 z5 S5 C5
      have c6 := S6.c1
      have f6 := S6.cc k hkn
      have z6 := S6.zc k
      replace S6 := Lib.hid S6
      replace C6 := Lib.hid C6
      go_wp2
      go_end0
      refine ⟨rfl, ⟨q, gc, FR, _, _, _, rfl, S6.out.setC hkn y, ?_, color_mv hG.out hx hy hxy hA.out hC.out, good_mv hG.out hx hy hxy hA.out, h1, h2⟩, C6.out.set _ (Or.inr (Or.inl rfl)) _⟩
      have T2 := mt_in (i := (k : Int)) T1.out hy
      rw [eBy.out, if_pos hB.out, eny.out, e0] at T2
      exact T2
    · replace hB := Lib.hid hB
      go_wp2_with (first | (go_at_call 68; ((with_reducible refine (ring_in r3.out hni.out hk0 hk1 hy).mono ?_); rintro e w4 ⟨he, d1, d2⟩; subst he; rw [eBy.out] at d1; have S4 := S3d.out.rung h1 d1 d2; have C4 := Lib.hid (C3.out.drew.trans (d2.mono (fun j hj => Or.inr (Or.inr hj)))); clear d1 d2 c3 r3 S3 S3d C3; have n4 := S4.cn y hy; rw [eny.out] at n4; have f4 := S4.cf y hy; have z4 := S4.zp (2 + y); replace S4 := Lib.hid S4)))
      have S5 := S4.out
      have C5 := C4.out
      clear f4 z4 n4 S4 C4
      have n5 := S5.cn y hy
      have z5 := S5.zp (6 + y)
      rw [eny.out] at n5
      replace S5 := Lib.hid S5
      replace C5 := Lib.hid C5
      go_region
      have S6 := (S5.out.setN hy (ns y + 1)).drew
      have C6 := (C5.out.set ⟨p, 6 + y, none⟩ (Or.inl rfl) (.int .i64 (ns y + 1))).drew
      generalize (w4.setCell ⟨p, 6 + y, none⟩ (.int .i64 (ns y + 1))).drew = w6 at S6 C6 ⊢
      clear n5 z5 S5 C5
      have c6 := S6.c1
      have f6 := S6.cc k hkn
      have z6 := S6.zc k
      replace S6 := Lib.hid S6
      replace C6 := Lib.hid C6
      go_wp2
      go_end0
      refine ⟨rfl, ⟨q, gc, FR, _, _, _, rfl, S6.out.setC hkn y, ?_, color_mv hG.out hx hy hxy hA.out hC.out, good_mv hG.out hx hy hxy hA.out, h1, h2⟩, C6.out.set _ (Or.inr (Or.inl rfl)) _⟩
      have T2 := mt_in (i := (k : Int)) T1.out hy
      rw [eBy.out, if_neg hB.out, eny.out] at T2
      exact T2
end Wd
end Go.Proofs.Ytdaojohdmidemaa

/- The package's mill: turn, Alloc, Scan, Shade, Flip. -/
namespace Go.Proofs.Ytdaojohdmidemaa
set_option maxRecDepth 20000
open Go.RowKit
set_option linter.unusedVariables false
namespace Wd
theorem MA.lt {w : World} {p n : Nat} {A : Mst} {F : Nat → Prop} (h : MA w p n A F) : ∀ k, F k → k < w.heap.size := by
  obtain ⟨q, gc, FR, cs, fs, ns, rfl, hS, hT, hC, hG, h1, h2⟩ := h
  exact hS.lt h1
theorem MA.keep {w w' : World} {p n : Nat} {A : Mst} {F : Nat → Prop} (h : MA w p n A F) (hk : ∀ k, F k → w'.heap[k]? = w.heap[k]?) : MA w' p n A F := by
  obtain ⟨q, gc, FR, cs, fs, ns, rfl, hS, hT, hC, hG, h1, h2⟩ := h
  exact ⟨q, gc, FR, cs, fs, ns, rfl, hS.same hk, hT, hC, hG, h1, h2⟩
theorem MA.below {w w' : World} {p n : Nat} {A : Mst} {F : Nat → Prop} (h : MA w p n A F) (b : Below w.heap.size w w') : MA w' p n A F := h.keep (fun k hk => b.block k (h.lt k hk))
theorem MA.good {w : World} {p n : Nat} {A : Mst} {F : Nat → Prop} (h : MA w p n A F) : Good n A ∧ n ≤ 512 := by
  obtain ⟨q, gc, FR, cs, fs, ns, rfl, hS, hT, hC, hG, h1, h2⟩ := h
  exact ⟨hG, h2⟩
/-- the first of row x becomes the last of row y -/
theorem gturn_k {w : World} {p n x y : Nat} {A : Mst} {F : Nat → Prop} (h : MA w p n A F) (hx : x < 4) (hy : y < 4) (hxy : x ≠ y) :
    Calls Try.prog 50 #[.pointer (some ⟨p, 0, none⟩), .int .i64 (x : Int), .int .i64 (y : Int)] w fun e w' => e = .returned (.int .i64 (firstR A x)) ∧ MA w' p n (firstA A x y) F ∧ Ch F w w' := by
  have hx4 : (x : Int) < 4 := by omega
  have hM := Lib.hid h
  obtain ⟨q, gc, FR, cs, fs, ns, rfl, hS, hT, hC, hG, h1, h2⟩ := h
  have hn := hS.cn x hx
  have hf := hS.cf x hx
  rw [hT.en x hx] at hn
  rcases hA : A x with _ | ⟨i, T⟩
  · have e1 : firstR A x = -1 := by unfold firstR; rw [hA]
    have e2 : firstA A x y = A := by unfold firstA; rw [hA]
    rw [e1, e2]
    rw [hA] at hn
    have hn' : w.cell? ⟨p, 6 + x, none⟩ = some (.int .i64 0) := hn
    clear e1 e2 hn hS hT hC hG h1 h2 hA
    go_enter Try.func50, Try.ntmps50
    go_wp2
    go_ret
    exact ⟨rfl, hM.out, Ch.refl _ _⟩
  · have hm : i ∈ A x := by rw [hA]; simp
    have hi := (good_mem hG).1 (mem_LL.2 ⟨x, hx, hm⟩)
    obtain ⟨k, rfl⟩ : ∃ k : Nat, i = k := ⟨i.toNat, by omega⟩
    have e1 : firstR A x = k := by unfold firstR; rw [hA]
    have e2 : firstA A x y = mvA A x y [] T k := by unfold firstA mvA; rw [hA]; rfl
    rw [e1, e2]
    have P0 := Lib.hid (gmove_c (P := []) hM.out hx hy hxy hA)
    rw [hT.ef x hx k T hA] at hf
    have n0 : (((A x).length : Int) == 0) = false := by rw [hA]; simp; omega
    generalize (A x).length = m at *
    clear e1 e2 hS hT hC hG h1 h2 hA hm hi
    go_enter Try.func50, Try.ntmps50
    go_wp2_with (first | (go_at_call 64; ((with_reducible refine P0.out.mono ?_); rintro e w' ⟨he, d1, d2⟩; subst he)))
    go_ret
    exact ⟨rfl, d1, d2⟩
theorem galloc_k {w : World} {p n : Nat} {A : Mst} {F : Nat → Prop} (h : MA w p n A F) :
    Calls Try.prog 27 #[.pointer (some ⟨p, 0, none⟩)] w fun e w' => e = .returned (.int .i64 (firstR A 0)) ∧ MA w' p n (firstA A 0 1) F ∧ Ch F w w' := by
  have P0 : Hid (Calls Try.prog 50 #[.pointer (some ⟨p, 0, none⟩), .int .i64 0, .int .i64 1] w fun e w' => e = .returned (.int .i64 (firstR A 0)) ∧ MA w' p n (firstA A 0 1) F ∧ Ch F w w') := Lib.hid (gturn_k h (x := 0) (y := 1) (by omega) (by omega) (by omega))
  clear h
  go_enter Try.func27, Try.ntmps27
  go_wp2_with (first | (go_at_call 50; ((with_reducible refine P0.out.mono ?_); rintro e w' ⟨he, d1, d2⟩; subst he)))
  go_ret
  exact ⟨rfl, d1, d2⟩
theorem gscan_k {w : World} {p n : Nat} {A : Mst} {F : Nat → Prop} (h : MA w p n A F) :
    Calls Try.prog 38 #[.pointer (some ⟨p, 0, none⟩)] w fun e w' => e = .returned (.int .i64 (firstR A 2)) ∧ MA w' p n (firstA A 2 1) F ∧ Ch F w w' := by
  have P0 : Hid (Calls Try.prog 50 #[.pointer (some ⟨p, 0, none⟩), .int .i64 2, .int .i64 1] w fun e w' => e = .returned (.int .i64 (firstR A 2)) ∧ MA w' p n (firstA A 2 1) F ∧ Ch F w w') := Lib.hid (gturn_k h (x := 2) (y := 1) (by omega) (by omega) (by omega))
  clear h
  go_enter Try.func38, Try.ntmps38
  go_wp2_with (first | (go_at_call 50; ((with_reducible refine P0.out.mono ?_); rintro e w' ⟨he, d1, d2⟩; subst he)))
  go_ret
  exact ⟨rfl, d1, d2⟩
theorem filter_mid {P Q : List Int} {i : Int} (h : (P ++ i :: Q).Nodup) : (P ++ i :: Q).filter (· ≠ i) = P ++ Q := by
  have n1 := List.nodup_append.1 h
  have hp : ∀ a ∈ P, decide (a ≠ i) = true := fun a ha => by simpa using n1.2.2 a ha i (by simp)
  have hq : ∀ a ∈ Q, decide (a ≠ i) = true := fun a ha => by
    have := (List.nodup_cons.1 n1.2.1).1
    have : a ≠ i := fun e => this (e ▸ ha)
    simpa using this
  rw [List.filter_append, List.filter_cons, List.filter_eq_self.2 hp, List.filter_eq_self.2 hq]
  simp
theorem gshade_k {w : World} {p n : Nat} {A : Mst} {F : Nat → Prop} (i : Int) (h : MA w p n A F) :
    Calls Try.prog 59 #[.pointer (some ⟨p, 0, none⟩), .int .i64 i] w fun e w' => e = .returned (.bool (decide (colorR A i = 3))) ∧ MA w' p n (shadeA A i) F ∧ Ch F w w' := by
  have P0 := Lib.hid (gcolor_k i h)
  by_cases hc : colorR A i = 3
  · have hm := colorR_in hc
    obtain ⟨P, Q, hA⟩ := List.append_of_mem hm
    have hG := h.good.1
    have hi := (good_mem hG).1 (mem_LL.2 ⟨3, by omega, hm⟩)
    obtain ⟨k, rfl⟩ : ∃ k : Nat, i = k := ⟨i.toNat, by omega⟩
    have e2 : shadeA A k = mvA A 3 2 P Q k := by
      unfold shadeA mvA
      rw [if_pos hc, hA, filter_mid (by rw [← hA]; exact nd3 hG)]
    rw [e2, decide_eq_true hc]
    have P1 : Hid (Calls Try.prog 64 #[.pointer (some ⟨p, 0, none⟩), .int .i64 (k : Int), .int .i64 2] w fun e w' => e = .returned (.tuple #[]) ∧ MA w' p n (mvA A 3 2 P Q k) F ∧ Ch F w w') := Lib.hid (gmove_c (y := 2) h (by omega) (by omega) (by omega) hA)
    rw [hc] at P0
    clear e2 hG hA hm hi hc h
    go_enter Try.func59, Try.ntmps59
    go_wp2_with (first | (go_at_call 56; ((with_reducible refine P0.out.mono ?_); rintro e w' ⟨rfl, hw'⟩; subst w')) | (go_at_call 64; ((with_reducible refine P1.out.mono ?_); rintro e w' ⟨he, d1, d2⟩; subst he)))
    go_ret
    exact ⟨rfl, d1, d2⟩
  · have e2 : shadeA A i = A := by unfold shadeA; rw [if_neg hc]
    have hn : (colorR A i != 3) = true := by simpa using hc
    have hn' : (colorR A i == 3) = false := by simpa using hc
    rw [e2, decide_eq_false hc]
    replace h := Lib.hid h
    generalize colorR A i = c at *
    clear e2 hc
    go_enter Try.func59, Try.ntmps59
    go_wp2_with (first | (go_at_call 56; ((with_reducible refine P0.out.mono ?_); rintro e w' ⟨rfl, hw'⟩; subst w')))
    go_ret
    exact ⟨rfl, h.out, Ch.refl _ _⟩
/-- the first k of row x are behind row y -/
def stepA (A : Mst) (x y k : Nat) : Mst := upA (upA A x ((A x).drop k)) y (A y ++ (A x).take k)
theorem stepA_0 (A : Mst) (x y : Nat) : stepA A x y 0 = A := by
  unfold stepA upA; funext j
  by_cases c : j = y
  · subst c; simp
  · by_cases d : j = x
    · subst d; simp; intro h; exact absurd h c
    · simp [c, d]
theorem stepA_x {A : Mst} {x y k : Nat} (hxy : x ≠ y) : stepA A x y k x = (A x).drop k := by simp [stepA, upA, hxy]
theorem stepA_y {A : Mst} {x y k : Nat} : stepA A x y k y = A y ++ (A x).take k := by simp [stepA, upA]
theorem stepA_z {A : Mst} {x y k z : Nat} (h1 : z ≠ x) (h2 : z ≠ y) : stepA A x y k z = A z := by simp [stepA, upA, h1, h2]
theorem stepA_s {A : Mst} {x y k : Nat} (hxy : x ≠ y) (hk : k < (A x).length) : firstA (stepA A x y k) x y = stepA A x y (k + 1) := by
  have e : stepA A x y k x = (A x)[k] :: (A x).drop (k + 1) := by rw [stepA_x hxy, List.drop_eq_getElem_cons hk]
  unfold firstA
  rw [e]
  simp only
  funext j
  rw [stepA_y]
  by_cases c : j = y
  · subst c; rw [stepA_y]; simp [upA]
  · by_cases d : j = x
    · subst d; rw [stepA_x hxy]; simp [upA, c]
    · rw [stepA_z d c]; simp only [upA, if_neg c, if_neg d]; exact stepA_z d c
theorem stepA_all {A : Mst} : stepA (stepA A 3 0 (A 3).length) 1 3 (A 1).length = upA (upA (upA A 0 (A 0 ++ A 3)) 3 (A 1)) 1 [] := by
  funext j
  have e1 : stepA A 3 0 (A 3).length 1 = A 1 := stepA_z (by omega) (by omega)
  have e3 : stepA A 3 0 (A 3).length 3 = [] := by rw [stepA_x (by omega)]; simp
  have e0 : stepA A 3 0 (A 3).length 0 = A 0 ++ A 3 := by rw [stepA_y]; simp
  by_cases c1 : j = 1
  · subst c1; rw [stepA_x (by omega), e1]; simp [upA]
  · by_cases c3 : j = 3
    · subst c3; rw [stepA_y, e1, e3]; simp [upA]
    · rw [stepA_z c1 c3]
      simp only [upA, if_neg c1, if_neg c3]
      by_cases c0 : j = 0
      · subst c0; rw [e0]; simp
      · rw [if_neg c0]; exact stepA_z c3 c0
theorem SL.ch {w w' : World} {e : TypeId} {v : Value} {L : List Int} {F : Nat → Prop} (h : SL w e v L) (c : Ch F w w') (hF : ∀ g, v.ownBlock = some g → ¬ F g) : SL w' e v L := by
  obtain ⟨h1, h2⟩ := h
  refine ⟨h1, ?_⟩
  rcases h2 with hh | ⟨g, cap, cur, e1, e2, e3, e4⟩
  · exact Or.inl hh
  · refine Or.inr ⟨g, cap, cur, e1, e2, ?_, e4⟩
    have hlt : g < w.heap.size := by
      apply Classical.byContradiction
      intro hn
      rw [Array.getElem?_eq_none (by omega)] at e3
      cases e3
    rw [c.block g hlt (hF g (by rw [e1]; rfl))]
    exact e3
/-- a mill while it is turned -/
structure TSt (w : World) (p n : Nat) (A : Mst) (F : Nat → Prop) (u : Value) (L : List Int) (wr : World) : Prop where
  ma : MA wr p n A F
  ch : Ch F w wr
  sl : SL wr 3 u L
theorem TSt.step {w wr w1 : World} {p n : Nat} {A A' : Mst} {F : Nat → Prop} {u : Value} {L : List Int} (h : TSt w p n A F u L wr) (hF : ∀ g, u.ownBlock = some g → ¬ F g) (hm : MA w1 p n A' F) (c : Ch F wr w1) : TSt w p n A' F u L w1 :=
  ⟨hm, h.ch.trans c, h.sl.ch c hF⟩
theorem Below.toCh {w w' : World} (F : Nat → Prop) (b : Below w.heap.size w w') : Ch F w w' := ⟨b.os, b.tape, b.output, b.size, fun k hk _ => b.block k hk⟩
theorem MA.count {w : World} {p n : Nat} {A : Mst} {F : Nat → Prop} (h : MA w p n A F) {k : Nat} (hk : k < 4) : w.cell? ⟨p, 6 + k, none⟩ = some (.int .i64 (A k).length) := by
  obtain ⟨q, gc, FR, cs, fs, ns, rfl, hS, hT, hC, hG, h1, h2⟩ := h
  rw [hS.cn k hk, hT.en k hk]
set_option maxHeartbeats 4000000 in
theorem gflip_k {w : World} {p n : Nat} {A : Mst} {F : Nat → Prop} (h : MA w p n A F) :
    Calls Try.prog 39 #[.pointer (some ⟨p, 0, none⟩)] w fun e w' => ∃ u, e = .returned u ∧ MA w' p n (flipA A) F ∧ Ch F w w' ∧ SL w' 3 u (flipR A) ∧ (∀ g, u.ownBlock = some g → w.heap.size ≤ g) := by
  have hn : w.cell? ⟨p, 8, none⟩ = some (.int .i64 (A 2).length) := h.count (k := 2) (by omega)
  by_cases h2 : A 2 = []
  · have e1 : flipR A = A 3 := by unfold flipR; rw [if_pos h2]
    have e2 : flipA A = stepA (stepA A 3 0 (A 3).length) 1 3 (A 1).length := by unfold flipA; rw [if_pos h2, stepA_all]
    rw [e1, e2]
    have hn' : w.cell? ⟨p, 8, none⟩ = some (.int .i64 0) := by rw [h2] at hn; exact hn
    have P0 := glist_k 3 h
    rw [show rowA A 3 = A 3 from rfl] at P0
    replace P0 := Lib.hid P0
    have l3 := good_le h.good.1 3 (by omega)
    have l1 := good_le h.good.1 1 (by omega)
    have n5 := h.good.2
    have hlt := Lib.hid h.lt
    have hB : ∀ wr, Below w.heap.size w wr → MA wr p n A F := fun wr hb => h.below hb
    replace hB := Lib.hid hB
    have s1 : ∀ k, k < (A 3).length → firstA (stepA A 3 0 k) 3 0 = stepA A 3 0 (k + 1) := fun k hk => stepA_s (by omega) hk
    have x1 : stepA A 3 0 (A 3).length 1 = A 1 := stepA_z (by omega) (by omega)
    have s2 : ∀ k, k < (A 1).length → firstA (stepA (stepA A 3 0 (A 3).length) 1 3 k) 1 3 = stepA (stepA A 3 0 (A 3).length) 1 3 (k + 1) := fun k hk => stepA_s (by omega) (by rw [x1]; exact hk)
    replace s1 := Lib.hid s1
    replace s2 := Lib.hid s2
    replace x1 := Lib.hid x1
    clear e1 e2 hn h
    go_enter Try.func39, Try.ntmps39
    go_wp2_with (first | (go_at_call 61; ((with_reducible refine P0.out.mono ?_); rintro e w1 ⟨u, he, d1, d2, d3⟩; subst he; obtain ⟨a, c, rfl⟩ := d1.form; have hF : Hid (∀ g, (Value.slice a (A 3).length c).ownBlock = some g → ¬ F g) := Lib.hid (fun g hg hf => by have := d3 g hg; have := hlt.out g hf; omega); have T0 : Hid (TSt w p n (stepA A 3 0 0) F (.slice a (A 3).length c) (A 3) w1) := Lib.hid ⟨by rw [stepA_0]; exact hB.out w1 d2, Below.toCh F d2, d1⟩; replace d3 := Lib.hid d3; clear d1 d2 hn' P0)))
    go_loopw [14] (fun i wr => ∃ k : Nat, k ≤ (A 3).length ∧ i = .int .i64 k ∧ TSt w p n (stepA A 3 0 k) F (.slice a (A 3).length c) (A 3) wr) (fun i _ => (A 3).length - (intOf i).toNat)
    case atStart => exact ⟨0, by omega, rfl, T0.out⟩
    case round =>
      obtain ⟨k, hk, rfl, hR⟩ := hrel
      by_cases hlt2 : k < (A 3).length
      · have hlt' : decide ((k : Int) < ((A 3).length : Int)) = true := by simp; omega
        have hw : IntKind.i64.wrap ((k : Int) + 1) = (k : Int) + 1 := by rw [IntKind.wrap_i64]; omega
        have P1 : Hid (Calls Try.prog 50 #[.pointer (some ⟨p, 0, none⟩), .int .i64 3, .int .i64 0] wr fun e w' => e = .returned (.int .i64 (firstR (stepA A 3 0 k) 3)) ∧ MA w' p n (firstA (stepA A 3 0 k) 3 0) F ∧ Ch F wr w') := Lib.hid (gturn_k hR.ma (x := 3) (y := 0) (by omega) (by omega) (by omega))
        replace hR := Lib.hid hR
        go_wp2_with (first | (go_at_call 50; ((with_reducible refine P1.out.mono ?_); rintro e w2 ⟨he, d1, d2⟩; subst he; rw [s1.out k hlt2] at d1; have hR2 := Lib.hid (hR.out.step hF.out d1 d2); clear d1 d2 P1 hR)))
        go_roundw
        case rel => exact ⟨k + 1, by omega, by go_num, hR2.out⟩
        case measure => simp [intOf]; omega
      · have e : k = (A 3).length := by omega
        subst e
        have hn1 : wr.cell? ⟨p, 7, none⟩ = some (.int .i64 (A 1).length) := by
          have := hR.ma.count (k := 1) (by omega)
          rw [x1.out] at this
          exact this
        have T1 : Hid (TSt w p n (stepA (stepA A 3 0 (A 3).length) 1 3 0) F (.slice a (A 3).length c) (A 3) wr) := Lib.hid ⟨by rw [stepA_0]; exact hR.ma, hR.ch, hR.sl⟩
        clear hR T0
        go_wp2
        clear hn1
        go_loopw [24] (fun i wr => ∃ k : Nat, k ≤ (A 1).length ∧ i = .int .i64 k ∧ TSt w p n (stepA (stepA A 3 0 (A 3).length) 1 3 k) F (.slice a (A 3).length c) (A 3) wr) (fun i _ => (A 1).length - (intOf i).toNat)
        case atStart => exact ⟨0, by omega, rfl, T1.out⟩
        case round =>
          obtain ⟨k, hk2, rfl, hR⟩ := hrel
          by_cases hlt3 : k < (A 1).length
          · have hlt' : decide ((k : Int) < ((A 1).length : Int)) = true := by simp; omega
            have hw : IntKind.i64.wrap ((k : Int) + 1) = (k : Int) + 1 := by rw [IntKind.wrap_i64]; omega
            have P1 : Hid (Calls Try.prog 50 #[.pointer (some ⟨p, 0, none⟩), .int .i64 1, .int .i64 3] _ fun e w' => e = .returned (.int .i64 (firstR (stepA (stepA A 3 0 (A 3).length) 1 3 k) 1)) ∧ MA w' p n (firstA (stepA (stepA A 3 0 (A 3).length) 1 3 k) 1 3) F ∧ Ch F _ w') := Lib.hid (gturn_k hR.ma (x := 1) (y := 3) (by omega) (by omega) (by omega))
            replace hR := Lib.hid hR
            go_wp2_with (first | (go_at_call 50; ((with_reducible refine P1.out.mono ?_); rintro e w2 ⟨he, d1, d2⟩; subst he; rw [s2.out k hlt3] at d1; have hR2 := Lib.hid (hR.out.step hF.out d1 d2); clear d1 d2 P1 hR)))
            go_roundw
            case rel => exact ⟨k + 1, by omega, by go_num, hR2.out⟩
            case measure => simp [intOf]; omega
          · have e : k = (A 1).length := by omega
            subst e
            replace hR := Lib.hid hR
            go_wp2
            go_ret
            exact ⟨_, rfl, hR.out.ma, hR.out.ch, hR.out.sl, d3.out⟩
  · have e1 : flipR A = [] := by unfold flipR; rw [if_neg h2]
    have e2 : flipA A = A := by unfold flipA; rw [if_neg h2]
    rw [e1, e2]
    have h2' : 0 < (A 2).length := List.length_pos_iff.2 h2
    have d1 : decide (((A 2).length : Int) > 0) = true := by simp; omega
    have d2 : decide (0 < ((A 2).length : Int)) = true := by simp; omega
    generalize (A 2).length = m at *
    replace h := Lib.hid h
    clear e1 e2
    go_enter Try.func39, Try.ntmps39
    go_wp2
    go_ret
    exact ⟨_, rfl, h.out, Ch.refl _ _, World.ownsRow_nil _ _ _ _, fun g hg => by cases hg⟩
end Wd
end Go.Proofs.Ytdaojohdmidemaa

/- The package's mill: a new one. -/
namespace Go.Proofs.Ytdaojohdmidemaa
set_option maxRecDepth 20000
open Go.RowKit
set_option linter.unusedVariables false
namespace Wd
theorem gnew_none {w : World} (n : Int) (hn : n < 1 ∨ 512 < n) :
    Calls Try.prog 23 #[.int .i64 n] w fun e w' => e = .returned (.pointer .none) ∧ w' = w := by
  rcases hn with hn | hn
  · have d1 : decide (n < 1) = true := by simp; omega
    go_enter Try.func23, Try.ntmps23
    go_wp2
    go_ret
    exact ⟨rfl, rfl⟩
  · have d1 : decide (n < 1) = false := by simp; omega
    have d2 : decide (n > 512) = true := by simp; omega
    have d3 : decide (512 < n) = true := by simp; omega
    go_enter Try.func23, Try.ntmps23
    go_wp2
    go_ret
    exact ⟨rfl, rfl⟩
theorem made_ms {W : World} {p q gc n : Nat} {FR : Nat → Prop} {Z : Array Value} (hZ : Z = madeCells #[.int .i64 0] n)
    (hp : W.heap[p]? = some (.cells #[.pointer (some ⟨q, 0, none⟩), .slice (some ⟨gc, 0, none⟩) n n, .int .i64 0, .int .i64 0, .int .i64 0, .int .i64 0, .int .i64 0, .int .i64 0, .int .i64 0, .int .i64 0] 88 (0, 0)))
    (hg : W.heap[gc]? = some (.cells Z 3 (0, 0))) (hR : RA W q n (rng n) FR) (e : p ≠ gc) (ep : ¬ FR p) (eg : ¬ FR gc) :
    MS W p q gc n FR (rng n) (fun _ => 0) (fun _ => 0) (fun _ => 0) := by
  have hz : ∀ k, k < n → Z[k]? = some (.int .i64 0) := by
    intro k hk
    have : (madeCells #[Value.int .i64 0] n).toList[k]? = some (.int .i64 0) := by rw [toList_madeCells_one]; simp [hk]
    rw [hZ, ← Array.getElem?_toList]
    exact this
  refine ⟨by simp [World.cell?, hp], by simp [World.cell?, hp], fun k hk => ?_, fun k hk => ?_, fun k hk => ?_, fun k => by simp [World.frozen?, hp], fun k => by simp [World.frozen?, hg], hR, e, ep, eg⟩
  · rcases (show k = 0 ∨ k = 1 ∨ k = 2 ∨ k = 3 by omega) with rfl | rfl | rfl | rfl <;> simp [World.cell?, hp]
  · rcases (show k = 0 ∨ k = 1 ∨ k = 2 ∨ k = 3 by omega) with rfl | rfl | rfl | rfl <;> simp [World.cell?, hp]
  · simp [World.cell?, hg, hz k hk]
theorem LL_start (n : Nat) : LL (startA n) = rng n := by unfold LL startA; simp [upA]
theorem start_ma {W : World} {p q gc n : Nat} {FR : Nat → Prop} (h : MS W p q gc n FR (rng n) (fun _ => 0) (fun _ => 0) (upd (fun _ => 0) 0 n)) (h1 : 1 ≤ n) (h2 : n ≤ 512) : MA W p n (startA n) (FM p gc FR) := by
  refine ⟨q, gc, FR, _, _, _, rfl, by rw [LL_start]; exact h, ⟨fun k hk i T e => ?_, fun k hk => ?_⟩, fun k hk => ?_, good_start n, h1, h2⟩
  · by_cases c : k = 0
    · subst c
      simp only [startA, upA, if_true] at e
      obtain ⟨m, rfl⟩ : ∃ m, n = m + 1 := ⟨n - 1, by omega⟩
      unfold rng at e
      rw [List.range_succ_eq_map] at e
      exact (List.cons.inj e).1
    · simp only [startA, upA, if_neg c] at e
      cases e
  · by_cases c : k = 0
    · subst c
      rw [upd_same]
      simp [startA, upA, rng_len]
    · rw [upd_ne _ _ c]
      simp [startA, upA, c]
  · refine (good_color (good_start n) (x := 0) (by omega) ?_).symm
    simp only [startA, upA, if_true]
    unfold rng
    exact List.mem_map.2 ⟨k, by simpa using hk, rfl⟩
set_option maxHeartbeats 4000000 in
theorem gnew_k {w : World} (n : Nat) (h1 : 1 ≤ n) (h2 : n ≤ 512) :
    Calls Try.prog 23 #[.int .i64 n] w fun e w' => ∃ p F, e = .returned (.pointer (some ⟨p, 0, none⟩)) ∧ MA w' p n (startA n) F ∧ (∀ k, F k → w.heap.size ≤ k) ∧ Below w.heap.size w w' := by
  have d1 : decide ((n : Int) < 1) = false := by simp; omega
  have d2 : decide (512 < (n : Int)) = false := by simp; omega
  have d3 : decide ((n : Int) > 512) = false := by simp; omega
  obtain ⟨i0, hi0, hz0, hz1, hz2⟩ := info_parts info3
  obtain ⟨Z, hZ, hmk⟩ : ∃ Z : Array Value, Z = madeCells #[.int .i64 0] n ∧ ∀ w, (Instr.makeSlice 44 (.int .i64 (n : Int)) (.int .i64 (n : Int))).run Try.prog w = .ok (.slice (some ⟨w.heap.size, 0, none⟩) n n) (w.alloc (.cells Z 3)) := by
    refine ⟨_, rfl, fun w => ?_⟩
    have := run_make (P := Try.prog) w 44 3 i0 (.int .i64 0) Try.underlying44 hi0 hz0 .i64 .i64 n n (by omega) (by omega) (by rw [hz2]; omega) (by omega)
    rw [hz1] at this
    simpa [Value.cells] using this
  replace hZ := Lib.hid hZ
  go_enter Try.func23, Try.ntmps23
  go_wp2
  go_region_with (first | (go_at_call 48; ((with_reducible refine (new_k n h1 (by omega)).mono ?_); rintro e w1 ⟨q, FR, he, r1, r2, r3⟩; subst he)))
  · have hlt := r1.lt
    have hlt' := hlt
    have b1 : Below w.heap.size w w1 := (Below.refl w.heap.size w).drew.trans r3
    have bs := b1.size
    have b : Below w.heap.size w ((w1.alloc (.cells Z 3)).alloc (.cells #[.pointer (some ⟨q, 0, none⟩), .slice (some ⟨w1.heap.size, 0, none⟩) n n, .int .i64 0, .int .i64 0, .int .i64 0, .int .i64 0, .int .i64 0, .int .i64 0, .int .i64 0, .int .i64 0] 88)) := (b1.alloc b1.size _).alloc (by simp; omega) _
    have r2' : ∀ k, FR k → w.heap.size ≤ k := r2
    have s1 : (w1.alloc (.cells Z 3)).heap.size = w1.heap.size + 1 := by simp
    have hp : ((w1.alloc (.cells Z 3)).alloc (.cells #[.pointer (some ⟨q, 0, none⟩), .slice (some ⟨w1.heap.size, 0, none⟩) n n, .int .i64 0, .int .i64 0, .int .i64 0, .int .i64 0, .int .i64 0, .int .i64 0, .int .i64 0, .int .i64 0] 88)).heap[w1.heap.size + 1]? = some (.cells #[.pointer (some ⟨q, 0, none⟩), .slice (some ⟨w1.heap.size, 0, none⟩) n n, .int .i64 0, .int .i64 0, .int .i64 0, .int .i64 0, .int .i64 0, .int .i64 0, .int .i64 0, .int .i64 0] 88 (0, 0)) := by rw [← s1]; exact heap_alloc_new _ _
    have hg : ((w1.alloc (.cells Z 3)).alloc (.cells #[.pointer (some ⟨q, 0, none⟩), .slice (some ⟨w1.heap.size, 0, none⟩) n n, .int .i64 0, .int .i64 0, .int .i64 0, .int .i64 0, .int .i64 0, .int .i64 0, .int .i64 0, .int .i64 0] 88)).heap[w1.heap.size]? = some (.cells Z 3 (0, 0)) := by rw [Below.heap_alloc _ _ _ (by simp)]; exact heap_alloc_new _ _
    have hR : RA ((w1.alloc (.cells Z 3)).alloc (.cells #[.pointer (some ⟨q, 0, none⟩), .slice (some ⟨w1.heap.size, 0, none⟩) n n, .int .i64 0, .int .i64 0, .int .i64 0, .int .i64 0, .int .i64 0, .int .i64 0, .int .i64 0, .int .i64 0] 88)) q n (rng n) FR := r1.same (fun k hk => by have := hlt k hk; rw [Below.heap_alloc _ _ _ (by simp; omega), Below.heap_alloc _ _ _ this])
    clear s1
    have S0 := made_ms hZ.out hp hg hR (by omega) (fun h => by have := hlt _ h; omega) (fun h => by have := hlt' _ h; omega)
    have far : ∀ k, FM (w1.heap.size + 1) (w1.heap.size) FR k → w.heap.size ≤ k := by
      rintro k (rfl | rfl | hk)
      · omega
      · omega
      · exact r2' k hk
    clear hp hg hR hlt hlt' r1 r2 r2' r3 b1 hZ hmk bs
    generalize ((w1.alloc (.cells Z 3)).alloc (.cells #[.pointer (some ⟨q, 0, none⟩), .slice (some ⟨w1.heap.size, 0, none⟩) n n, .int .i64 0, .int .i64 0, .int .i64 0, .int .i64 0, .int .i64 0, .int .i64 0, .int .i64 0, .int .i64 0] 88)) = W at b S0 ⊢
    have n0 : W.cell? ⟨w1.heap.size + 1, 6, none⟩ = some (.int .i64 0) := S0.cn 0 (by omega)
    have z0 := S0.zp 6
    replace b := Lib.hid b
    replace S0 := Lib.hid S0
    replace far := Lib.hid far
    generalize w1.heap.size + 1 = p at *
    go_wp2
    go_ret
    refine ⟨p, ?_⟩
    exact ⟨rfl, _, start_ma (S0.out.setN (k := 0) (by omega) n) h1 h2, far.out, below_ch b.out ((Ch.refl _ _).set _ (Or.inl rfl) _) far.out⟩
  · have hlt := r1.lt
    have r2' : ∀ k, FR k → w.heap.size + 1 ≤ k := fun k hk => by have := r2 k hk; simpa using this
    have b0 : Below w.heap.size w (w.drew.alloc (.cells Z 3)) := (Below.refl w.heap.size w).drew.alloc (Nat.le_refl _) _
    have b1 : Below w.heap.size w w1 := b0.trans (r3.mono b0.size)
    have bs : w.heap.size + 1 ≤ w1.heap.size := by have := r3.size; simpa using this
    have b : Below w.heap.size w (w1.alloc (.cells #[.pointer (some ⟨q, 0, none⟩), .slice (some ⟨w.heap.size, 0, none⟩) n n, .int .i64 0, .int .i64 0, .int .i64 0, .int .i64 0, .int .i64 0, .int .i64 0, .int .i64 0, .int .i64 0] 88)) := b1.alloc b1.size _
    have hp : (w1.alloc (.cells #[.pointer (some ⟨q, 0, none⟩), .slice (some ⟨w.heap.size, 0, none⟩) n n, .int .i64 0, .int .i64 0, .int .i64 0, .int .i64 0, .int .i64 0, .int .i64 0, .int .i64 0, .int .i64 0] 88)).heap[w1.heap.size]? = some (.cells #[.pointer (some ⟨q, 0, none⟩), .slice (some ⟨w.heap.size, 0, none⟩) n n, .int .i64 0, .int .i64 0, .int .i64 0, .int .i64 0, .int .i64 0, .int .i64 0, .int .i64 0, .int .i64 0] 88 (0, 0)) := heap_alloc_new _ _
    have hg : (w1.alloc (.cells #[.pointer (some ⟨q, 0, none⟩), .slice (some ⟨w.heap.size, 0, none⟩) n n, .int .i64 0, .int .i64 0, .int .i64 0, .int .i64 0, .int .i64 0, .int .i64 0, .int .i64 0, .int .i64 0] 88)).heap[w.heap.size]? = some (.cells Z 3 (0, 0)) := by
      rw [Below.heap_alloc _ _ _ (by omega), r3.block _ (by simp)]; exact heap_alloc_new w.drew _
    have hR : RA (w1.alloc (.cells #[.pointer (some ⟨q, 0, none⟩), .slice (some ⟨w.heap.size, 0, none⟩) n n, .int .i64 0, .int .i64 0, .int .i64 0, .int .i64 0, .int .i64 0, .int .i64 0, .int .i64 0, .int .i64 0] 88)) q n (rng n) FR := r1.same (fun k hk => by have := hlt k hk; rw [Below.heap_alloc _ _ _ this])
    have hs : w.drew.heap.size = w.heap.size := rfl
    have hlt' : ∀ k, FR k → w.heap.size + 1 ≤ k := r2'
    replace r2' : ∀ k, FR k → w.heap.size ≤ k := fun k hk => by have := r2' k hk; omega
    have S0 := made_ms hZ.out hp hg hR (by omega) (fun h => by have := hlt _ h; omega) (fun h => by have := hlt' _ h; omega)
    have far : ∀ k, FM (w1.heap.size) (w.heap.size) FR k → w.heap.size ≤ k := by
      rintro k (rfl | rfl | hk)
      · omega
      · omega
      · exact r2' k hk
    clear hp hg hR hlt hlt' r1 r2 r2' r3 b1 hZ hmk bs
    generalize (w1.alloc (.cells #[.pointer (some ⟨q, 0, none⟩), .slice (some ⟨w.heap.size, 0, none⟩) n n, .int .i64 0, .int .i64 0, .int .i64 0, .int .i64 0, .int .i64 0, .int .i64 0, .int .i64 0, .int .i64 0] 88)) = W at b S0 ⊢
    have n0 : W.cell? ⟨w1.heap.size, 6, none⟩ = some (.int .i64 0) := S0.cn 0 (by omega)
    have z0 := S0.zp 6
    replace b := Lib.hid b
    replace S0 := Lib.hid S0
    replace far := Lib.hid far
    generalize w1.heap.size = p at *
    go_wp2
    go_ret
    refine ⟨p, ?_⟩
    exact ⟨rfl, _, start_ma (S0.out.setN (k := 0) (by omega) n) h1 h2, far.out, below_ch b.out ((Ch.refl _ _).set _ (Or.inl rfl) _) far.out⟩
end Wd
end Go.Proofs.Ytdaojohdmidemaa

/- The package's mill keeps what the laws ask of a mill. -/
namespace Go.Proofs.Ytdaojohdmidemaa
set_option maxRecDepth 20000
open Go.RowKit
set_option linter.unusedVariables false
namespace Wd
theorem newer_same (F : Nat → Prop) (s : Nat) : Newer F F s := fun _ h => Or.inl h
theorem below_eq {w w' : World} (e : w' = w) : Below w.heap.size w w' := e ▸ Below.refl _ _
theorem KM : MillK MA where
  lt := fun h => h.lt
  keep := fun h hk => h.keep hk
  alloc := fun h => (galloc_k h).mono (by rintro e w' ⟨rfl, d1, d2⟩; exact ⟨_, rfl, d1, d2, newer_same _ _⟩)
  scan := fun h => (gscan_k h).mono (by rintro e w' ⟨rfl, d1, d2⟩; exact ⟨_, rfl, d1, d2, newer_same _ _⟩)
  shade := fun i h _ _ => (gshade_k i h).mono (by rintro e w' ⟨rfl, d1, d2⟩; exact ⟨_, rfl, d1, d2, newer_same _ _⟩)
  flip := fun h => (gflip_k h).mono (by
    rintro e w' ⟨u, rfl, d1, d2, d3, d4⟩
    exact ⟨u, _, rfl, d1, d2, newer_same _ _, d3, fun g hg => ⟨d4 g hg, fun hF => by have := h.lt g hF; have := d4 g hg; omega⟩⟩)
  color := fun i h _ _ => (gcolor_k i h).mono (by rintro e w' ⟨rfl, h⟩; exact ⟨rfl, below_eq h⟩)
  count := fun c h _ _ => (gcount_k c h).mono (by rintro e w' ⟨rfl, h⟩; exact ⟨rfl, below_eq h⟩)
  list := fun c h _ _ => (glist_k c h).mono (by rintro e w' ⟨u, rfl, d1, d2, d3⟩; exact ⟨u, rfl, d1, d2, d3⟩)
  new := fun n h1 h2 => gnew_k n h1 h2
  none := fun n _ _ h => (gnew_none n h).mono (by rintro e w' ⟨rfl, h⟩; exact ⟨rfl, below_eq h⟩)
end Wd
end Go.Proofs.Ytdaojohdmidemaa

/- What the laws ask of a table of identities, whoever keeps it. -/
namespace Go.Proofs.Ytdaojohdmidemaa
set_option maxRecDepth 20000
open Go.RowKit
set_option linter.unusedVariables false
namespace Wd
abbrev TAt := World → Nat → Tst → (Nat → Prop) → Prop
/-- what the laws ask of the package's table: 'TA w p T F': at block p lies a table, its identities' places are T; it lies in the blocks F -/
structure TableK (TA : TAt) : Prop where
  lt : ∀ {w p T F}, TA w p T F → ∀ k, F k → k < w.heap.size
  keep : ∀ {w w' p T F}, TA w p T F → (∀ k, F k → w'.heap[k]? = w.heap[k]?) → TA w' p T F
  take : ∀ {w p T F} (pl : Pl), TA w p T F → plOk pl → Calls Try.prog 29 #[.pointer (some ⟨p, 0, none⟩), plV pl] w fun e w' => ∃ F', e = .returned (.int .i64 (takeI T pl)) ∧ TA w' p (takeT T pl) F' ∧ Ch F w w' ∧ Newer F F' w.heap.size
  give : ∀ {w p T F} (i : Int), TA w p T F → (-9223372036854775808 ≤ i) → (i ≤ 9223372036854775807) → Calls Try.prog 41 #[.pointer (some ⟨p, 0, none⟩), .int .i64 i] w fun e w' => ∃ F', e = .returned (.bool (hasT T i)) ∧ TA w' p (giveT T i) F' ∧ Ch F w w' ∧ Newer F F' w.heap.size
  swap : ∀ {w p T F} (i j : Int), TA w p T F → (-9223372036854775808 ≤ i) → (i ≤ 9223372036854775807) → (-9223372036854775808 ≤ j) → (j ≤ 9223372036854775807) → Calls Try.prog 34 #[.pointer (some ⟨p, 0, none⟩), .int .i64 i, .int .i64 j] w fun e w' => ∃ F', e = .returned (.bool (swapB T i j)) ∧ TA w' p (swapT T i j) F' ∧ Ch F w w' ∧ Newer F F' w.heap.size
  at' : ∀ {w p T F} (i : Int), TA w p T F → (-9223372036854775808 ≤ i) → (i ≤ 9223372036854775807) → Calls Try.prog 55 #[.pointer (some ⟨p, 0, none⟩), .int .i64 i] w fun e w' => e = .returned (.tuple #[plV (atP T i), .bool (hasT T i)]) ∧ Below w.heap.size w w'
  of : ∀ {w p T F} (pl : Pl), TA w p T F → plOk pl → Calls Try.prog 40 #[.pointer (some ⟨p, 0, none⟩), plV pl] w fun e w' => e = .returned (.tuple #[.int .i64 (ofI T pl), .bool (ofR T pl).isSome]) ∧ Below w.heap.size w w'
  ids : ∀ {w p T F}, TA w p T F → Calls Try.prog 47 #[.pointer (some ⟨p, 0, none⟩)] w fun e w' => ∃ u, e = .returned u ∧ SL w' 3 u (idsT T) ∧ Below w.heap.size w w' ∧ (∀ g, u.ownBlock = some g → w.heap.size ≤ g)
  new : ∀ {w}, Calls Try.prog 21 #[] w fun e w' => ∃ p F, e = .returned (.pointer (some ⟨p, 0, none⟩)) ∧ TA w' p noT F ∧ (∀ k, F k → w.heap.size ≤ k) ∧ Below w.heap.size w w'
section
variable {TA : TAt} {w0 wr wA w1 w2 : World} {p b : Nat} {T T' : Tst} {F F' : Nat → Prop}
end
/-- a table of the package's, of the call's own -/
structure PT (TA : TAt) (w0 wr : World) (p : Nat) (T : Tst) (F : Nat → Prop) : Prop where
  ta : TA wr p T F
  bel : Below w0.heap.size w0 wr
  fF : ∀ k, F k → w0.heap.size ≤ k
section
variable {TA : TAt} {w0 wr wA w1 : World} {p : Nat} {T T' : Tst} {F F' : Nat → Prop}
theorem PT.keep (K : TableK TA) (h : PT TA w0 wr p T F) (g : Below wr.heap.size wr wA) : PT TA w0 wA p T F :=
  ⟨K.keep h.ta (fun k hk => g.block k (K.lt h.ta k hk)), h.bel.trans (g.mono h.bel.size), h.fF⟩
theorem PT.step (h : PT TA w0 wr p T F) (hm : TA w1 p T' F') (c : Ch F wr w1) (hn : Newer F F' wr.heap.size) : PT TA w0 w1 p T' F' := by
  refine ⟨hm, below_ch h.bel c h.fF, fun k hk => ?_⟩
  rcases hn k hk with h' | h'
  · exact h.fF k h'
  · exact Nat.le_trans h.bel.size h'
end
theorem idsT_len (T : Tst) : (idsT T).length ≤ 1024 := idsK_len T 1024
end Wd
end Go.Proofs.Ytdaojohdmidemaa

/- What holds of a table of identities at any time; places in memory of the call's own. -/
namespace Go.Proofs.Ytdaojohdmidemaa
set_option maxRecDepth 20000
open Go.RowKit
set_option linter.unusedVariables false
namespace Wd
/-- a table of the package's, and places in memory of the call's own -/
structure PB (TA : TAt) (w0 wr : World) (p : Nat) (T : Tst) (F : Nat → Prop) (L : List (Nat × Pl)) : Prop where
  pt : PT TA w0 wr p T F
  bx : ∀ e, e ∈ L → wr.cell? ⟨e.1, 0, none⟩ = some (.int .i64 e.2.1) ∧ wr.cell? ⟨e.1, 1, none⟩ = some (.int .i64 e.2.2) ∧ ¬ F e.1
section
variable {TA : TAt} {w0 wr wA w1 : World} {p : Nat} {T T' : Tst} {F F' : Nat → Prop} {L : List (Nat × Pl)}
theorem PB.of (h : PT TA w0 wr p T F) : PB TA w0 wr p T F [] := ⟨h, fun e he => by cases he⟩
theorem PB.keep (K : TableK TA) (h : PB TA w0 wr p T F L) (g : Below wr.heap.size wr wA) : PB TA w0 wA p T F L := by
  refine ⟨h.pt.keep K g, fun e he => ?_⟩
  obtain ⟨c0, c1, nf⟩ := h.bx e he
  exact ⟨(g.cell (World.block_lt_of_cell? wr _ c0)).trans c0, (g.cell (World.block_lt_of_cell? wr _ c1)).trans c1, nf⟩
theorem PB.step (h : PB TA w0 wr p T F L) (hm : TA w1 p T' F') (c : Ch F wr w1) (hn : Newer F F' wr.heap.size) : PB TA w0 w1 p T' F' L := by
  refine ⟨h.pt.step hm c hn, fun e he => ?_⟩
  obtain ⟨c0, c1, nf⟩ := h.bx e he
  have hlt : e.1 < wr.heap.size := World.block_lt_of_cell? wr _ c0
  have hb := c.block e.1 hlt nf
  refine ⟨(World.cell?_of_block (a := ⟨e.1, 0, none⟩) hb).trans c0, (World.cell?_of_block (a := ⟨e.1, 1, none⟩) hb).trans c1, fun hF => ?_⟩
  rcases hn e.1 hF with h' | h'
  · exact nf h'
  · omega
theorem PB.made (K : TableK TA) (h : PB TA w0 wr p T F L) (q : Pl) (t : TypeId) : PB TA w0 (wr.alloc (.cells #[.int .i64 q.1, .int .i64 q.2] t)) p T F ((wr.heap.size, q) :: L) := by
  have h1 := h.keep K ((Below.refl wr.heap.size wr).alloc (Nat.le_refl _) (.cells #[.int .i64 q.1, .int .i64 q.2] t))
  refine ⟨h1.pt, fun e he => ?_⟩
  rcases List.mem_cons.1 he with rfl | he
  · exact ⟨by simp, by simp, fun hF => by have := K.lt h.pt.ta _ hF; simp at this⟩
  · exact h1.bx e he
end
theorem atP_has {T : Tst} {i : Int} (h : hasT T i = true) : ∃ k : Nat, i = k ∧ k < 1024 ∧ (∃ p, T k = some p ∧ atP T i = p) := by
  obtain ⟨k, rfl, hk, _, p, hp⟩ := hasT_some h
  refine ⟨k, rfl, hk, p, hp, ?_⟩
  unfold atP
  rw [if_pos h, show (k : Int).toNat = k by simp, hp]
  rfl
theorem atP_no {T : Tst} {i : Int} (h : hasT T i = false) : atP T i = (0, 0) := by
  unfold atP
  rw [if_neg (by simp [h])]
end Wd
end Go.Proofs.Ytdaojohdmidemaa

/- A map of places to identities, of the call's own: what a look, a store and a delete do to it. -/
namespace Go.Proofs.Ytdaojohdmidemaa
set_option maxRecDepth 20000
open Go.RowKit Go.Maps
set_option linter.unusedVariables false
namespace Wd
theorem rowPlU : (63 : TypeId) < Try.prog.types.size := of_decide_eq_true (by kernel_rfl)
theorem widePlU : (match Try.prog.underlying 63 with | some (.array _ _) | some (.struct _) => true | _ => false) = true := by rw [Try.underlying63]
theorem lawPlU : WideMaps.KeyLaw Try.prog 63 := deep_law_laid laidOutP (m := 2) (by omega) rowPlU (by kernel_rfl) widePlU
theorem keyedPlU : Keyed Try.prog 63 := Keyed.of_law lawPlU
theorem cellsPlU : Try.prog.cellsOf 63 = 2 := by kernel_rfl
theorem keyTypePlU : Try.prog.keyType 63 = true := by kernel_rfl
theorem key_plU {p : Pl} (hp : plOk p) : keyOf Try.prog 63 (plV p) = some (keyL p) := by
  obtain ⟨a, c⟩ := p
  have wa : (Lit.int .i64 a).wf = true := WalkArith.wf_i64 ⟨hp.1.1, hp.1.2⟩
  have wc : (Lit.int .i64 c).wf = true := WalkArith.wf_i64 ⟨hp.2.1, hp.2.2⟩
  obtain ⟨m, hm⟩ : ∃ m, Try.prog.types.size = m + 1 := ⟨Try.prog.types.size - 1, by have h : 0 < Try.prog.types.size := Nat.lt_of_le_of_lt (Nat.zero_le _) rowPlU; omega⟩
  unfold keyOf
  rw [Try.underlying63]
  simp only
  rw [if_pos (by simp [keyTypePlU, plV, Value.formed, Try.underlying63, cellsPlU]), hm]
  unfold Program.keyLits
  rw [Try.underlying63]
  simp [plV, Value.cells, cellsPlU, cellsI1, Program.keyLits, Try.underlying3, wa, wc, keyL]
theorem keyL_injU {p q : Pl} (hp : plOk p) (hq : plOk q) (h : keyL p = keyL q) : p = q := by
  have h1 := key_plU hp
  have h2 := key_plU hq
  rw [h] at h1
  have := keyedPlU.inj h1 h2
  obtain ⟨a, c⟩ := p
  obtain ⟨b, d⟩ := q
  unfold plV at this
  simp only [Value.agg.injEq, Array.mk.injEq, List.cons.injEq, Value.int.injEq, true_and, and_true] at this
  exact Prod.ext this.1 this.2
theorem zeroIP (w : World) : (zeroValue 3).run Try.prog w = .ok (.int .i64 0) w := by
  obtain ⟨i0, hi0, hz0, hz1, hz2⟩ := info_parts info3
  simp [zeroValue, typeInfo, hi0, hz0]
/-- a map of places: M p is the number that p has; there are c entries -/
def MapP (w : World) (b c : Nat) (M : Pl → Option Int) : Prop := ∃ D : DataW Nat, w.ownsMap Try.prog 63 (plainElem Try.prog 3) b c D ∧ size D = c ∧
  ∀ p, plOk p → has D (keyL p) = (M p).isSome ∧ D.atKey (keyL p) (.lit (.int .i64 0)) = .lit (.int .i64 ((M p).getD 0))
def updM (M : Pl → Option Int) (p : Pl) (v : Option Int) : Pl → Option Int := fun q => if q = p then v else M q
section
variable {w w1 : World} {b c : Nat} {M : Pl → Option Int}
theorem MapP.made (w : World) : MapP (w.alloc (.map #[] 0)) w.heap.size 0 (fun _ => none) := ⟨.map [], World.ownsMap_made _ _ _ _, rfl, fun p _ => ⟨rfl, rfl⟩⟩
theorem MapP.lt (h : MapP w b c M) : b < w.heap.size := by
  obtain ⟨D, hown, _⟩ := h
  exact hown.lt
theorem MapP.same (h : MapP w b c M) (hb : w1.heap[b]? = w.heap[b]?) : MapP w1 b c M := by
  obtain ⟨D, ⟨es, clock, h1, h2⟩, hD⟩ := h
  exact ⟨D, ⟨es, clock, hb.trans h1, h2⟩, hD⟩
/-- 'id, in := m[p]' -/
theorem MapP.look_ok (h : MapP w b c M) {p : Pl} (hp : plOk p) : (Instr.lookup 77 (.map (some b)) (plV p) true).run Try.prog w = .ok (.tuple #[.int .i64 ((M p).getD 0), .bool (M p).isSome]) w := by
  obtain ⟨D, hown, _, hD⟩ := h
  obtain ⟨v, ps, hrun, hv⟩ := hown.look_ok keyedPlU Try.underlying77 (zeroIP w) (plainElem_int Try.underlying3 (by decide)) (key_plU hp)
  rw [(hD p hp).1] at hrun
  rw [(hD p hp).2] at hv
  obtain ⟨x, rfl, hc, _⟩ := plainElem_int_inv Try.underlying3 hv
  simp only [Prod.mk.injEq] at hc
  have : x = (M p).getD 0 := by
    have := hc.1
    injection this with h1
    injection h1 with _ h2
    exact h2.symm
  rw [hrun, this]
/-- 'm[p]' -/
theorem MapP.look (h : MapP w b c M) {p : Pl} (hp : plOk p) : (Instr.lookup 77 (.map (some b)) (plV p) false).run Try.prog w = .ok (.int .i64 ((M p).getD 0)) w := by
  obtain ⟨D, hown, _, hD⟩ := h
  obtain ⟨x, hrun, hat, _⟩ := hown.lookup_int keyedPlU Try.underlying77 Try.underlying3 (zeroIP w) (key_plU hp)
  rw [(hD p hp).2] at hat
  have : x = (M p).getD 0 := by
    injection hat with h1
    injection h1 with _ h2
    exact h2.symm
  rw [hrun, this]
theorem own_sizeU {D : DataW Nat} {n : Nat} (h : w.ownsMap Try.prog 63 (plainElem Try.prog 3) b n D) : w.ownsMap Try.prog 63 (plainElem Try.prog 3) b (size D) D := by
  obtain ⟨es, clock, hb, F, hs, rfl⟩ := h
  exact ⟨es, clock, hb, F, by simp [size, length_sorted], rfl⟩
/-- 'm[p] = v' -/
theorem MapP.put (h : MapP w b c M) (hc : c < maxLen) {p : Pl} (hp : plOk p) {v : Int} (hv : (Lit.int .i64 v).wf = true) : ∃ w', (Instr.mapUpdate 77 (.map (some b)) (plV p) (.int .i64 v)).run Try.prog w = .ok () w' ∧ MapP w' b (if (M p).isSome then c else c + 1) (updM M p (some v)) ∧ w.grownBy w' (some b) ∧ w'.heap.size = w.heap.size := by
  obtain ⟨D, hown, hsz, hD⟩ := h
  have hk := key_plU hp
  obtain ⟨w', hrun, h1, h2⟩ := hown.update keyedPlU Try.underlying77 hc hk (plainElem_int Try.underlying3 hv)
  obtain ⟨w2, hrun2, _, es, clock, es', clock', hb0, hw2⟩ := hown.store keyedPlU Try.underlying77 hc hk (plainElem_int Try.underlying3 hv)
  have ew : w' = w2 := by
    rw [hrun] at hrun2
    injection hrun2
  have hsize : w'.heap.size = w.heap.size := by rw [ew, hw2]; simp [ChangeMaps.setBlock]
  have es2 : size (D.put (keyL p) (.lit (.int .i64 v))) = if (M p).isSome then c else c + 1 := by rw [size_put (hown.tidy keyedPlU), (hD p hp).1, hsz]
  have h3 := own_sizeU h1
  rw [es2] at h3
  refine ⟨w', hrun, ⟨_, h3, es2, fun q hq => ?_⟩, h2, hsize⟩
  · by_cases e : q = p
    · subst e
      rw [has_put_same hown.isMap (keyedPlU.key hk), atKey_put_same hown.isMap (keyedPlU.key hk)]
      simp [updM]
    · have hne : keyL q ≠ keyL p := fun h => e (keyL_injU hq hp h)
      rw [has_put_other hne, atKey_put_other hne, (hD q hq).1, (hD q hq).2]
      simp [updM, e]
/-- 'delete(m, p)' -/
theorem MapP.del (h : MapP w b c M) {p : Pl} (hp : plOk p) (ty : TypeId) : ∃ w', (Builtin.delete_ #[77, 63] ty #[.map (some b), plV p]).run Try.prog w = .ok (.tuple #[]) w' ∧ MapP w' b (if (M p).isSome then c - 1 else c) (updM M p none) ∧ w.grownBy w' (some b) ∧ w'.heap.size = w.heap.size := by
  obtain ⟨D, hown, hsz, hD⟩ := h
  have hk := key_plU hp
  obtain ⟨w', hrun, h1, es, clock, es', clock', hb0, hw'⟩ := hown.drop keyedPlU Try.underlying77 hk ty
  have hg : w.grownBy w' (some b) := by
    rw [hw']
    exact ⟨rfl, rfl, rfl, by simp [ChangeMaps.setBlock], fun k hk hne => by
      show (w.heap.setIfInBounds b _)[k]? = _
      rw [Array.getElem?_setIfInBounds_ne (by intro e; subst e; exact hne rfl)]⟩
  have hsize : w'.heap.size = w.heap.size := by rw [hw']; simp [ChangeMaps.setBlock]
  have es2 : size (D.del (keyL p)) = if (M p).isSome then c - 1 else c := by
    have := size_del (k := keyL p) (hown.tidy keyedPlU)
    rw [(hD p hp).1, hsz] at this
    split <;> rename_i hc <;> simp only [hc] at this <;> simp at this <;> omega
  have h3 := own_sizeU h1
  rw [es2] at h3
  refine ⟨w', hrun, ⟨_, h3, es2, fun q hq => ?_⟩, hg, hsize⟩
  · by_cases e : q = p
    · subst e
      rw [has_del_same, atKey_del_same]
      simp [updM]
    · have hne : keyL q ≠ keyL p := fun h => e (keyL_injU hq hp h)
      rw [has_del_other hne, atKey_del_other hne, (hD q hq).1, (hD q hq).2]
      simp [updM, e]
end
end Wd
end Go.Proofs.Ytdaojohdmidemaa
