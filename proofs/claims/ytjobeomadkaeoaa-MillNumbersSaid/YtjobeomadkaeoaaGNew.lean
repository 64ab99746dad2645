/- The package's mill: a new one. -/
import Derived.Test.YtjobeomadkaeoaaGTurn
namespace Go.Proofs.Ytjobeomadkaeoaa
open Go.RowKit
set_option linter.unusedVariables false
namespace Wd
theorem gnew_none {w : World} (n : Int) (hn : n < 1 ∨ 512 < n) :
    Calls Try.prog 11 #[.int .i64 n] w fun e w' => e = .returned (.pointer .none) ∧ w' = w := by
  rcases hn with hn | hn
  · have d1 : decide (n < 1) = true := by simp; omega
    go_enter Try.func11, Try.ntmps11
    go_wp2
    go_ret
    exact ⟨rfl, rfl⟩
  · have d1 : decide (n < 1) = false := by simp; omega
    have d2 : decide (n > 512) = true := by simp; omega
    have d3 : decide (512 < n) = true := by simp; omega
    go_enter Try.func11, Try.ntmps11
    go_wp2
    go_ret
    exact ⟨rfl, rfl⟩
theorem made_ms {W : World} {p q gc n : Nat} {FR : Nat → Prop} {Z : Array Value} (hZ : Z = madeCells #[.int .i64 0] n)
    (hp : W.heap[p]? = some (.cells #[.pointer (some ⟨q, 0, none⟩), .slice (some ⟨gc, 0, none⟩) n n, .int .i64 0, .int .i64 0, .int .i64 0, .int .i64 0, .int .i64 0, .int .i64 0, .int .i64 0, .int .i64 0] 48 (0, 0)))
    (hg : W.heap[gc]? = some (.cells Z 3 (0, 0))) (hR : RA W q n (rng n) FR) (e : p ≠ gc) (ep : ¬ FR p) (eg : ¬ FR gc) :
    MS W p q gc n FR (rng n) (fun _ => 0) (fun _ => 0) (fun _ => 0) := by
  have hz : ∀ k, k < n → Z[k]? = some (.int .i64 0) := by
    intro k hk
    have : (madeCells #[Value.int .i64 0] n).toList[k]? = some (.int .i64 0) := by rw [toList_madeCells_one]; simp [hk]
    rw [hZ, ← Array.getElem?_toList]
    exact this
  refine ⟨by simp [World.cell?, hp], by simp [World.cell?, hp], fun k hk => ?_, fun k hk => ?_, fun k hk => ?_, fun k => by simp [World.frozen?, hp], fun k => by simp [World.frozen?, hg], hR, e, ep, eg⟩
  · rcases (show k = 0 ∨ k = 1 ∨ k = 2 ∨ k = 3 by omega) with rfl | rfl | rfl | rfl <;> simp [World.cell?, hp]
  · rcases (show k = 0 ∨ k = 1 ∨ k = 2 ∨ k = 3 by omega) with rfl | rfl | rfl | rfl <;> simp [World.cell?, hp]
  · simp [World.cell?, hg, hz k hk]
theorem LL_start (n : Nat) : LL (startA n) = rng n := by unfold LL startA; simp [upA]
theorem start_ma {W : World} {p q gc n : Nat} {FR : Nat → Prop} (h : MS W p q gc n FR (rng n) (fun _ => 0) (fun _ => 0) (upd (fun _ => 0) 0 n)) (h1 : 1 ≤ n) (h2 : n ≤ 512) : MA W p n (startA n) (FM p gc FR) := by
  refine ⟨q, gc, FR, _, _, _, rfl, by rw [LL_start]; exact h, ⟨fun k hk i T e => ?_, fun k hk => ?_⟩, fun k hk => ?_, good_start n, h1, h2⟩
  · by_cases c : k = 0
    · subst c
      simp only [startA, upA, if_true] at e
      obtain ⟨m, rfl⟩ : ∃ m, n = m + 1 := ⟨n - 1, by omega⟩
      unfold rng at e
      rw [List.range_succ_eq_map] at e
      exact (List.cons.inj e).1
    · simp only [startA, upA, if_neg c] at e
      cases e
  · by_cases c : k = 0
    · subst c
      rw [upd_same]
      simp [startA, upA, rng_len]
    · rw [upd_ne _ _ c]
      simp [startA, upA, c]
  · refine (good_color (good_start n) (x := 0) (by omega) ?_).symm
    simp only [startA, upA, if_true]
    unfold rng
    exact List.mem_map.2 ⟨k, by simpa using hk, rfl⟩
theorem below_ch {w wr w1 : World} {F : Nat → Prop} (h : Below w.heap.size w wr) (c : Ch F wr w1) (hF : ∀ k, F k → w.heap.size ≤ k) : Below w.heap.size w w1 :=
  ⟨c.os.trans h.os, c.tape.trans h.tape, c.output.trans h.output, Nat.le_trans h.size c.size, fun k hk => (c.block k (Nat.lt_of_lt_of_le hk h.size) (fun e => by have := hF k e; omega)).trans (h.block k hk)⟩
set_option maxHeartbeats 4000000 in
theorem gnew_k {w : World} (n : Nat) (h1 : 1 ≤ n) (h2 : n ≤ 512) :
    Calls Try.prog 11 #[.int .i64 n] w fun e w' => ∃ p F, e = .returned (.pointer (some ⟨p, 0, none⟩)) ∧ MA w' p n (startA n) F ∧ (∀ k, F k → w.heap.size ≤ k) ∧ Below w.heap.size w w' := by
  have d1 : decide ((n : Int) < 1) = false := by simp; omega
  have d2 : decide (512 < (n : Int)) = false := by simp; omega
  have d3 : decide ((n : Int) > 512) = false := by simp; omega
  obtain ⟨i0, hi0, hz0, hz1, hz2⟩ := info_parts info3
  obtain ⟨Z, hZ, hmk⟩ : ∃ Z : Array Value, Z = madeCells #[.int .i64 0] n ∧ ∀ w, (Instr.makeSlice 33 (.int .i64 (n : Int)) (.int .i64 (n : Int))).run Try.prog w = .ok (.slice (some ⟨w.heap.size, 0, none⟩) n n) (w.alloc (.cells Z 3)) := by
    refine ⟨_, rfl, fun w => ?_⟩
    have := run_make (P := Try.prog) w 33 3 i0 (.int .i64 0) Try.underlying33 hi0 hz0 .i64 .i64 n n (by omega) (by omega) (by rw [hz2]; omega) (by omega)
    rw [hz1] at this
    simpa [Value.cells] using this
  replace hZ := Lib.hid hZ
  go_enter Try.func11, Try.ntmps11
  go_wp2
  go_region_with (first | (go_at_call 26; ((with_reducible refine (new_k n h1 (by omega)).mono ?_); rintro e w1 ⟨q, FR, he, r1, r2, r3⟩; subst he)))
  · have hlt := r1.lt
    have hlt' := hlt
    have b1 : Below w.heap.size w w1 := (Below.refl w.heap.size w).drew.trans r3
    have bs := b1.size
    have b : Below w.heap.size w ((w1.alloc (.cells Z 3)).alloc (.cells #[.pointer (some ⟨q, 0, none⟩), .slice (some ⟨w1.heap.size, 0, none⟩) n n, .int .i64 0, .int .i64 0, .int .i64 0, .int .i64 0, .int .i64 0, .int .i64 0, .int .i64 0, .int .i64 0] 48)) := (b1.alloc b1.size _).alloc (by simp; omega) _
    have r2' : ∀ k, FR k → w.heap.size ≤ k := r2
    have s1 : (w1.alloc (.cells Z 3)).heap.size = w1.heap.size + 1 := by simp
    have hp : ((w1.alloc (.cells Z 3)).alloc (.cells #[.pointer (some ⟨q, 0, none⟩), .slice (some ⟨w1.heap.size, 0, none⟩) n n, .int .i64 0, .int .i64 0, .int .i64 0, .int .i64 0, .int .i64 0, .int .i64 0, .int .i64 0, .int .i64 0] 48)).heap[w1.heap.size + 1]? = some (.cells #[.pointer (some ⟨q, 0, none⟩), .slice (some ⟨w1.heap.size, 0, none⟩) n n, .int .i64 0, .int .i64 0, .int .i64 0, .int .i64 0, .int .i64 0, .int .i64 0, .int .i64 0, .int .i64 0] 48 (0, 0)) := by rw [← s1]; exact heap_alloc_new _ _
    have hg : ((w1.alloc (.cells Z 3)).alloc (.cells #[.pointer (some ⟨q, 0, none⟩), .slice (some ⟨w1.heap.size, 0, none⟩) n n, .int .i64 0, .int .i64 0, .int .i64 0, .int .i64 0, .int .i64 0, .int .i64 0, .int .i64 0, .int .i64 0] 48)).heap[w1.heap.size]? = some (.cells Z 3 (0, 0)) := by rw [Below.heap_alloc _ _ _ (by simp)]; exact heap_alloc_new _ _
    have hR : RA ((w1.alloc (.cells Z 3)).alloc (.cells #[.pointer (some ⟨q, 0, none⟩), .slice (some ⟨w1.heap.size, 0, none⟩) n n, .int .i64 0, .int .i64 0, .int .i64 0, .int .i64 0, .int .i64 0, .int .i64 0, .int .i64 0, .int .i64 0] 48)) q n (rng n) FR := r1.same (fun k hk => by have := hlt k hk; rw [Below.heap_alloc _ _ _ (by simp; omega), Below.heap_alloc _ _ _ this])
    clear s1
    have S0 := made_ms hZ.out hp hg hR (by omega) (fun h => by have := hlt _ h; omega) (fun h => by have := hlt' _ h; omega)
    have far : ∀ k, FM (w1.heap.size + 1) (w1.heap.size) FR k → w.heap.size ≤ k := by
      rintro k (rfl | rfl | hk)
      · omega
      · omega
      · exact r2' k hk
    clear hp hg hR hlt hlt' r1 r2 r2' r3 b1 hZ hmk bs
    generalize ((w1.alloc (.cells Z 3)).alloc (.cells #[.pointer (some ⟨q, 0, none⟩), .slice (some ⟨w1.heap.size, 0, none⟩) n n, .int .i64 0, .int .i64 0, .int .i64 0, .int .i64 0, .int .i64 0, .int .i64 0, .int .i64 0, .int .i64 0] 48)) = W at b S0 ⊢
    have n0 : W.cell? ⟨w1.heap.size + 1, 6, none⟩ = some (.int .i64 0) := S0.cn 0 (by omega)
    have z0 := S0.zp 6
    replace b := Lib.hid b
    replace S0 := Lib.hid S0
    replace far := Lib.hid far
    generalize w1.heap.size + 1 = p at *
    go_wp2
    go_ret
    refine ⟨p, ?_⟩
    exact ⟨rfl, _, start_ma (S0.out.setN (k := 0) (by omega) n) h1 h2, far.out, below_ch b.out ((Ch.refl _ _).set _ (Or.inl rfl) _) far.out⟩
  · have hlt := r1.lt
    have r2' : ∀ k, FR k → w.heap.size + 1 ≤ k := fun k hk => by have := r2 k hk; simpa using this
    have b0 : Below w.heap.size w (w.drew.alloc (.cells Z 3)) := (Below.refl w.heap.size w).drew.alloc (Nat.le_refl _) _
    have b1 : Below w.heap.size w w1 := b0.trans (r3.mono b0.size)
    have bs : w.heap.size + 1 ≤ w1.heap.size := by have := r3.size; simpa using this
    have b : Below w.heap.size w (w1.alloc (.cells #[.pointer (some ⟨q, 0, none⟩), .slice (some ⟨w.heap.size, 0, none⟩) n n, .int .i64 0, .int .i64 0, .int .i64 0, .int .i64 0, .int .i64 0, .int .i64 0, .int .i64 0, .int .i64 0] 48)) := b1.alloc b1.size _
    have hp : (w1.alloc (.cells #[.pointer (some ⟨q, 0, none⟩), .slice (some ⟨w.heap.size, 0, none⟩) n n, .int .i64 0, .int .i64 0, .int .i64 0, .int .i64 0, .int .i64 0, .int .i64 0, .int .i64 0, .int .i64 0] 48)).heap[w1.heap.size]? = some (.cells #[.pointer (some ⟨q, 0, none⟩), .slice (some ⟨w.heap.size, 0, none⟩) n n, .int .i64 0, .int .i64 0, .int .i64 0, .int .i64 0, .int .i64 0, .int .i64 0, .int .i64 0, .int .i64 0] 48 (0, 0)) := heap_alloc_new _ _
    have hg : (w1.alloc (.cells #[.pointer (some ⟨q, 0, none⟩), .slice (some ⟨w.heap.size, 0, none⟩) n n, .int .i64 0, .int .i64 0, .int .i64 0, .int .i64 0, .int .i64 0, .int .i64 0, .int .i64 0, .int .i64 0] 48)).heap[w.heap.size]? = some (.cells Z 3 (0, 0)) := by
      rw [Below.heap_alloc _ _ _ (by omega), r3.block _ (by simp)]; exact heap_alloc_new w.drew _
    have hR : RA (w1.alloc (.cells #[.pointer (some ⟨q, 0, none⟩), .slice (some ⟨w.heap.size, 0, none⟩) n n, .int .i64 0, .int .i64 0, .int .i64 0, .int .i64 0, .int .i64 0, .int .i64 0, .int .i64 0, .int .i64 0] 48)) q n (rng n) FR := r1.same (fun k hk => by have := hlt k hk; rw [Below.heap_alloc _ _ _ this])
    have hs : w.drew.heap.size = w.heap.size := rfl
    have hlt' : ∀ k, FR k → w.heap.size + 1 ≤ k := r2'
    replace r2' : ∀ k, FR k → w.heap.size ≤ k := fun k hk => by have := r2' k hk; omega
    have S0 := made_ms hZ.out hp hg hR (by omega) (fun h => by have := hlt _ h; omega) (fun h => by have := hlt' _ h; omega)
    have far : ∀ k, FM (w1.heap.size) (w.heap.size) FR k → w.heap.size ≤ k := by
      rintro k (rfl | rfl | hk)
      · omega
      · omega
      · exact r2' k hk
    clear hp hg hR hlt hlt' r1 r2 r2' r3 b1 hZ hmk bs
    generalize (w1.alloc (.cells #[.pointer (some ⟨q, 0, none⟩), .slice (some ⟨w.heap.size, 0, none⟩) n n, .int .i64 0, .int .i64 0, .int .i64 0, .int .i64 0, .int .i64 0, .int .i64 0, .int .i64 0, .int .i64 0] 48)) = W at b S0 ⊢
    have n0 : W.cell? ⟨w1.heap.size, 6, none⟩ = some (.int .i64 0) := S0.cn 0 (by omega)
    have z0 := S0.zp 6
    replace b := Lib.hid b
    replace S0 := Lib.hid S0
    replace far := Lib.hid far
    generalize w1.heap.size = p at *
    go_wp2
    go_ret
    refine ⟨p, ?_⟩
    exact ⟨rfl, _, start_ma (S0.out.setN (k := 0) (by omega) n) h1 h2, far.out, below_ch b.out ((Ch.refl _ _).set _ (Or.inl rfl) _) far.out⟩
end Wd
end Go.Proofs.Ytjobeomadkaeoaa
