/- The package's mill: how it lies in memory, and what its rows are. -/
import Derived.Test.YtjobeomadkaeoaaNMath
namespace Go.Proofs.Ytjobeomadkaeoaa
open Go.RowKit
set_option linter.unusedVariables false
namespace Wd
theorem RA.lt {w : World} {p n : Nat} {L : List Int} {F : Nat → Prop} (h : RA w p n L F) : ∀ k, F k → k < w.heap.size := by
  obtain ⟨g1, g2, f, h, rfl, hB, hL⟩ := h
  exact hB.lt (by have := hL.n1; omega)
theorem RA.same {w w' : World} {p n : Nat} {L : List Int} {F : Nat → Prop} (h : RA w p n L F) (hk : ∀ k, F k → w'.heap[k]? = w.heap[k]?) : RA w' p n L F := by
  obtain ⟨g1, g2, f, h, rfl, hB, hL⟩ := h
  exact ⟨g1, g2, f, h, rfl, hB.same hk, hL⟩
/-- a mill at block p: its ring at q, in the blocks FR; the row of its colours at gc; the first ones fs, the counts ns -/
structure MS (w : World) (p q gc n : Nat) (FR : Nat → Prop) (L : List Int) (cs fs ns : Nat → Int) : Prop where
  c0 : w.cell? ⟨p, 0, none⟩ = some (.pointer (some ⟨q, 0, none⟩))
  c1 : w.cell? ⟨p, 1, none⟩ = some (.slice (some ⟨gc, 0, none⟩) n n)
  cf : ∀ k, k < 4 → w.cell? ⟨p, 2 + k, none⟩ = some (.int .i64 (fs k))
  cn : ∀ k, k < 4 → w.cell? ⟨p, 6 + k, none⟩ = some (.int .i64 (ns k))
  cc : ∀ k, k < n → w.cell? ⟨gc, k, none⟩ = some (.int .i64 (cs k))
  zp : ∀ k, w.frozen? ⟨p, k, none⟩ = false
  zc : ∀ k, w.frozen? ⟨gc, k, none⟩ = false
  ring : RA w q n L FR
  e : p ≠ gc
  ep : ¬ FR p
  ec : ¬ FR gc
def FM (p gc : Nat) (FR : Nat → Prop) : Nat → Prop := fun k => k = p ∨ k = gc ∨ FR k
section
variable {w w' w1 : World} {p q gc n : Nat} {FR : Nat → Prop} {L L' : List Int} {cs fs ns : Nat → Int}
theorem MS.same (r : MS w p q gc n FR L cs fs ns) (hb : ∀ k, FM p gc FR k → w'.heap[k]? = w.heap[k]?) : MS w' p q gc n FR L cs fs ns := by
  have hp := hb p (Or.inl rfl)
  have h1 := hb gc (Or.inr (Or.inl rfl))
  exact ⟨(World.cell?_of_block (a := ⟨p, 0, none⟩) hp).trans r.c0, (World.cell?_of_block (a := ⟨p, 1, none⟩) hp).trans r.c1, fun k hk => (World.cell?_of_block (a := ⟨p, 2 + k, none⟩) hp).trans (r.cf k hk),
    fun k hk => (World.cell?_of_block (a := ⟨p, 6 + k, none⟩) hp).trans (r.cn k hk), fun k hk => (World.cell?_of_block (a := ⟨gc, k, none⟩) h1).trans (r.cc k hk), fun k => (World.frozen?_of_block (a := ⟨p, k, none⟩) hp).trans (r.zp k),
    fun k => (World.frozen?_of_block (a := ⟨gc, k, none⟩) h1).trans (r.zc k), r.ring.same (fun k hk => hb k (Or.inr (Or.inr hk))), r.e, r.ep, r.ec⟩
theorem MS.lt (r : MS w p q gc n FR L cs fs ns) (hn : 0 < n) : ∀ k, FM p gc FR k → k < w.heap.size := by
  rintro k (rfl | rfl | hk)
  · exact World.block_lt_of_cell? w _ r.c0
  · exact World.block_lt_of_cell? w _ (r.cc 0 hn)
  · exact r.ring.lt k hk
theorem MS.keep (r : MS w p q gc n FR L cs fs ns) (hn : 0 < n) (b : Below w.heap.size w w') : MS w' p q gc n FR L cs fs ns := r.same (fun k hk => b.block k (r.lt hn k hk))
/-- the ring does something -/
theorem MS.rung (r : MS w p q gc n FR L cs fs ns) (hn : 0 < n) (hR : RA w' q n L' FR) (c : Ch FR w w') : MS w' p q gc n FR L' cs fs ns := by
  have hlt := r.lt hn
  have hp := c.block p (hlt p (Or.inl rfl)) r.ep
  have h1 := c.block gc (hlt gc (Or.inr (Or.inl rfl))) r.ec
  exact ⟨(World.cell?_of_block (a := ⟨p, 0, none⟩) hp).trans r.c0, (World.cell?_of_block (a := ⟨p, 1, none⟩) hp).trans r.c1, fun k hk => (World.cell?_of_block (a := ⟨p, 2 + k, none⟩) hp).trans (r.cf k hk),
    fun k hk => (World.cell?_of_block (a := ⟨p, 6 + k, none⟩) hp).trans (r.cn k hk), fun k hk => (World.cell?_of_block (a := ⟨gc, k, none⟩) h1).trans (r.cc k hk), fun k => (World.frozen?_of_block (a := ⟨p, k, none⟩) hp).trans (r.zp k),
    fun k => (World.frozen?_of_block (a := ⟨gc, k, none⟩) h1).trans (r.zc k), hR, r.e, r.ep, r.ec⟩
theorem MS.rot {X Y : List Int} (r : MS w p q gc n FR (X ++ Y) cs fs ns) : MS w p q gc n FR (Y ++ X) cs fs ns :=
  ⟨r.c0, r.c1, r.cf, r.cn, r.cc, r.zp, r.zc, r.ring.rot, r.e, r.ep, r.ec⟩
theorem RA.set {F : Nat → Prop} (h : RA w q n L F) (a : Addr) (v : Value) (ha : ¬ F a.block) : RA (w.setCell a v) q n L F :=
  h.same (fun k hk => Below.heap_setCell _ _ _ _ (fun e => ha (e ▸ hk)))
theorem MS.setF (r : MS w p q gc n FR L cs fs ns) {k : Nat} (hk : k < 4) (v : Int) : MS (w.setCell ⟨p, 2 + k, none⟩ (.int .i64 v)) p q gc n FR L cs (upd fs k v) ns := by
  refine ⟨(World.cell?_setCell_other _ _ _ _ (by intro e; injection e with _ h2; omega)).trans r.c0, (World.cell?_setCell_other _ _ _ _ (by intro e; injection e with _ h2; omega)).trans r.c1, fun j hj => ?_,
    fun j hj => (World.cell?_setCell_other _ _ _ _ (by intro e; injection e with _ h2; omega)).trans (r.cn j hj), fun j hj => (World.cell?_setCell_far _ _ _ _ r.e).trans (r.cc j hj),
    fun j => by rw [World.frozen?_setCell]; exact r.zp j, fun j => by rw [World.frozen?_setCell]; exact r.zc j, r.ring.set _ _ r.ep, r.e, r.ep, r.ec⟩
  by_cases c : j = k
  · subst c; rw [upd_same]; exact World.cell?_setCell_same _ _ _ (r.cf j hj)
  · rw [upd_ne _ _ c]; exact (World.cell?_setCell_other _ _ _ _ (by intro e; injection e with _ h2; omega)).trans (r.cf j hj)
theorem MS.setN (r : MS w p q gc n FR L cs fs ns) {k : Nat} (hk : k < 4) (v : Int) : MS (w.setCell ⟨p, 6 + k, none⟩ (.int .i64 v)) p q gc n FR L cs fs (upd ns k v) := by
  refine ⟨(World.cell?_setCell_other _ _ _ _ (by intro e; injection e with _ h2; omega)).trans r.c0, (World.cell?_setCell_other _ _ _ _ (by intro e; injection e with _ h2; omega)).trans r.c1, fun j hj => (World.cell?_setCell_other _ _ _ _ (by intro e; injection e with _ h2; omega)).trans (r.cf j hj),
    fun j hj => ?_, fun j hj => (World.cell?_setCell_far _ _ _ _ r.e).trans (r.cc j hj),
    fun j => by rw [World.frozen?_setCell]; exact r.zp j, fun j => by rw [World.frozen?_setCell]; exact r.zc j, r.ring.set _ _ r.ep, r.e, r.ep, r.ec⟩
  by_cases c : j = k
  · subst c; rw [upd_same]; exact World.cell?_setCell_same _ _ _ (r.cn j hj)
  · rw [upd_ne _ _ c]; exact (World.cell?_setCell_other _ _ _ _ (by intro e; injection e with _ h2; omega)).trans (r.cn j hj)
theorem MS.setC (r : MS w p q gc n FR L cs fs ns) {k : Nat} (hk : k < n) (v : Int) : MS (w.setCell ⟨gc, k, none⟩ (.int .i64 v)) p q gc n FR L (upd cs k v) fs ns := by
  have e' := r.e.symm
  refine ⟨(World.cell?_setCell_far _ _ _ _ e').trans r.c0, (World.cell?_setCell_far _ _ _ _ e').trans r.c1, fun j hj => (World.cell?_setCell_far _ _ _ _ e').trans (r.cf j hj),
    fun j hj => (World.cell?_setCell_far _ _ _ _ e').trans (r.cn j hj), fun j hj => ?_,
    fun j => by rw [World.frozen?_setCell]; exact r.zp j, fun j => by rw [World.frozen?_setCell]; exact r.zc j, r.ring.set _ _ r.ec, r.e, r.ep, r.ec⟩
  by_cases c : j = k
  · subst c; rw [upd_same]; exact World.cell?_setCell_same _ _ _ (r.cc j hj)
  · rw [upd_ne _ _ c]; exact (World.cell?_setCell_other _ _ _ _ (by intro e; cases e; exact c rfl)).trans (r.cc j hj)
theorem MS.drew (r : MS w p q gc n FR L cs fs ns) : MS w.drew p q gc n FR L cs fs ns := r.same (fun _ _ => rfl)
theorem Ch.mono {F G : Nat → Prop} (h : Ch F w w') (hFG : ∀ k, F k → G k) : Ch G w w' := ⟨h.os, h.tape, h.output, h.size, fun k hk hn => h.block k hk (fun hF => hn (hFG k hF))⟩
end
/-- the first ones, and the counts, are those of the rows -/
structure MT (A : Mst) (fs ns : Nat → Int) : Prop where
  ef : ∀ k, k < 4 → ∀ i T, A k = i :: T → fs k = i
  en : ∀ k, k < 4 → ns k = (A k).length
/-- the package's mill: at block p, of n cells, its rows are A -/
def MA (w : World) (p n : Nat) (A : Mst) (F : Nat → Prop) : Prop := ∃ q gc FR cs fs ns, F = FM p gc FR ∧ MS w p q gc n FR (LL A) cs fs ns ∧ MT A fs ns ∧ (∀ k : Nat, k < n → cs k = colorR A k) ∧ Good n A ∧ 1 ≤ n ∧ n ≤ 512
theorem good_mem {n : Nat} {A : Mst} (h : Good n A) {i : Int} : i ∈ LL A ↔ 0 ≤ i ∧ i < n := by
  rw [show (i ∈ LL A ↔ i ∈ rng n) from List.Perm.mem_iff h]
  unfold rng
  rw [List.mem_map]
  constructor
  · rintro ⟨k, hk, rfl⟩; rw [List.mem_range] at hk; omega
  · intro hi; exact ⟨i.toNat, by rw [List.mem_range]; omega, by omega⟩
theorem mem_LL {A : Mst} {i : Int} : i ∈ LL A ↔ ∃ k, k < 4 ∧ i ∈ A k := by
  unfold LL
  simp only [List.mem_append]
  constructor
  · rintro (h | h | h | h)
    · exact ⟨0, by omega, h⟩
    · exact ⟨1, by omega, h⟩
    · exact ⟨2, by omega, h⟩
    · exact ⟨3, by omega, h⟩
  · rintro ⟨k, hk, h⟩
    rcases (show k = 0 ∨ k = 1 ∨ k = 2 ∨ k = 3 by omega) with rfl | rfl | rfl | rfl <;> simp [h]
theorem good_apart {n : Nat} {A : Mst} (h : Good n A) {x y : Nat} (hx : x < 4) (hy : y < 4) {i : Int} (h1 : i ∈ A x) (h2 : i ∈ A y) : x = y := by
  have hn := good_nd h
  have n1 := List.nodup_append.1 hn
  have n2 := List.nodup_append.1 n1.2.1
  have n3 := List.nodup_append.1 n2.2.1
  rcases (show x = 0 ∨ x = 1 ∨ x = 2 ∨ x = 3 by omega) with rfl | rfl | rfl | rfl <;> rcases (show y = 0 ∨ y = 1 ∨ y = 2 ∨ y = 3 by omega) with rfl | rfl | rfl | rfl <;> first | rfl | (exfalso; first | exact n1.2.2 i h1 i (by simp [h2]) rfl | exact n1.2.2 i h2 i (by simp [h1]) rfl | exact n2.2.2 i h1 i (by simp [h2]) rfl | exact n2.2.2 i h2 i (by simp [h1]) rfl | exact n3.2.2 i h1 i (by simp [h2]) rfl | exact n3.2.2 i h2 i (by simp [h1]) rfl)
theorem good_color {n : Nat} {A : Mst} (h : Good n A) {x : Nat} (hx : x < 4) {i : Int} (h1 : i ∈ A x) : colorR A i = x :=
  colorR_hit hx (fun j hj hi => by have := good_apart h (by omega) hx hi h1; omega) h1
theorem good_out {n : Nat} {A : Mst} (h : Good n A) {i : Int} (hi : ¬ (0 ≤ i ∧ i < n)) : colorR A i = -1 :=
  colorR_miss (fun j hj hm => hi ((good_mem h).1 (mem_LL.2 ⟨j, hj, hm⟩)))
theorem good_in {n : Nat} {A : Mst} (h : Good n A) {k : Nat} (hk : k < n) : ∃ x, x < 4 ∧ (k : Int) ∈ A x ∧ colorR A k = (x : Int) := by
  obtain ⟨x, hx, hm⟩ := mem_LL.1 ((good_mem h).2 (⟨by omega, by omega⟩ : 0 ≤ (k : Int) ∧ (k : Int) < n))
  exact ⟨x, hx, hm, good_color h hx hm⟩
end Wd
end Go.Proofs.Ytjobeomadkaeoaa
