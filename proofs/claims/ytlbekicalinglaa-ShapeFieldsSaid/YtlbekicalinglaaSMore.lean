/- Copies of classes that are made beside what they were made of; one more class with its own binds. -/
import Derived.Test.YtlbekicalinglaaSOdd
namespace Go.Proofs.Ytlbekicalinglaa
open Go.RowKit
set_option linter.unusedVariables false
set_option maxRecDepth 20000
namespace Wd
section
variable {w w1 w2 wA : World} {v v' : Value} {n b g c : Nat} {T : List (ClassA × Value)}
/-- nothing yet -/
theorem Od.nil (w : World) (b : Nat) : Od w w (.slice none 0 0) 0 b [] :=
  ⟨by simpa [cl4s] using World.ownsRow_nil _ _ _ _, rfl, fun x hx => (by cases hx), fun x hx => (by cases hx), fun x hx => (by cases hx), Below.refl _ _⟩
/-- one more, whose binds came in -/
theorem Od.push2 {d : ClassA} {bv : Value} (h : Od w w1 v n b T) (hA : Below w1.heap.size w1 wA) (ho : w2.ownsRow w.heap.size 38 4 v' (n + 1) (cl4s T ++ cl4 d bv)) (hg : wA.grownBy w2 v.ownBlock) (hat : ∀ k, v'.ownBlock = some k → v.ownBlock = some k ∨ k = wA.heap.size)
    (c0 : In64 d.super) (c1 : In64 d.fields) (hp : PrV w bv d.binds) (hb : d.binds.length ≤ b) : Od w w2 v' (n + 1) b (T ++ [(d, bv)]) := by
  have hc : Cg (fun k => v.ownBlock = some k) w1 w2 := (Cg.below _ hA).grown hg (fun k e => Or.inl e)
  have hs := hA.size
  have hbel : Below w.heap.size w w2 := (h.bel.trans (hA.mono h.bel.size)).grown hg (Nat.le_trans h.bel.size hs) (fun k e => (h.own.lt k e).1)
  refine ⟨by rw [cl4s_app]; simpa [cl4s] using ho, by simp [h.len], fun x hx => ?_, fun x hx => ?_, fun x hx hl k e1 e2 => ?_, hbel⟩
  · rcases List.mem_append.1 hx with hx | hx
    · obtain ⟨a, d, e⟩ := h.vw x hx
      exact ⟨a, d, e.far hc (fun hl k e1 e2 => h.ap x hx hl k e1 e2)⟩
    · rw [List.mem_singleton.1 hx]
      exact ⟨c0, c1, hp.up hbel⟩
  · rcases List.mem_append.1 hx with hx | hx
    · exact h.bn x hx
    · rw [List.mem_singleton.1 hx]; exact hb
  · rcases List.mem_append.1 hx with hx | hx
    · rcases hat k e2 with e | e
      · exact h.ap x hx hl k e1 e
      · have := ((h.vw x hx).2.2).blk hl e1; omega
    · rw [List.mem_singleton.1 hx] at e1 hl
      have h1 := hp.blk hl e1
      have h2 := (ho.lt k e2).1
      omega
/-- a copy into a row that is new, of what was made behind the empty one -/
theorem Od.begin9 {m : Nat} (hA : Below w.heap.size w w1) (hem : w1.cell? ⟨w.heap.size, 0, none⟩ = none) (hem' : ∀ o, w1.cell? ⟨w.heap.size, o, none⟩ = none)
    (ho : w2.ownsRow w.heap.size 38 4 v m (cl4s T)) (hg : w1.grownBy w2 (some w.heap.size)) (hat : v.ownBlock = some w.heap.size ∨ v.ownBlock = some w1.heap.size)
    (hl : T.length = m) (hT : ∀ x ∈ T, In64 x.1.super ∧ In64 x.1.fields ∧ PrV w1 x.2 x.1.binds) (hTb : ∀ x ∈ T, x.1.binds.length ≤ b) : Od w w2 v m b T := by
  have hc : Cg (fun k => k = w.heap.size) w1 w2 := (Cg.refl (fun k => k = w.heap.size) w1).grown hg (fun k e => Or.inl (by cases e; rfl))
  have hne : ∀ x ∈ T, 0 < x.1.binds.length → ∀ k, x.2.ownBlock = some k → k ≠ w.heap.size := fun x hx hl k e he => by
    obtain ⟨_, _, hp⟩ := hT x hx
    obtain ⟨ad', cap', e1, _, _, h3⟩ := hp.ex
    obtain ⟨y, hy⟩ : ∃ y, x.1.binds[0]? = some y := ⟨x.1.binds[0], by simp⟩
    obtain ⟨_, _, g, off, e2, c0, _⟩ := h3 0 y hy
    have : g = k := by rw [e1, e2] at e; simpa [Value.ownBlock] using e
    subst this
    subst he
    rw [hem'] at c0
    cases c0
  refine ⟨ho, hl.symm, fun x hx => ?_, hTb, fun x hx hlb k e1 e2 => ?_, ?_⟩
  · obtain ⟨a, d, e⟩ := hT x hx
    exact ⟨a, d, e.far hc (fun hlb k e1 => hne x hx hlb k e1)⟩
  · have h1 := hne x hx hlb k e1
    have h2 := (hT x hx).2.2.blk hlb e1
    rcases hat with e | e
    · rw [e] at e2; cases e2; exact h1 rfl
    · rw [e] at e2; cases e2; exact Nat.lt_irrefl _ h2
  · exact hA.grown hg hA.size (fun k e => by cases e; exact Nat.le_refl _)
/-- the last one's fields, its name are others -/
theorem Od.last {d : ClassA} {nm : ByteArray} {f : Int} (h : Od w w1 (.slice (some ⟨g, 0, none⟩) (n + 1) c) (n + 1) b (T ++ [(d, .slice none 0 0)])) (hn : T.length = n) (hd : d.binds = []) :
    Od w (w1.setCell ⟨g, n * 4 + 2, none⟩ (.int .i64 f)) (.slice (some ⟨g, 0, none⟩) (n + 1) c) (n + 1) b (T ++ [(⟨d.nm, d.super, f, d.binds⟩, .slice none 0 0)]) ∨ ¬ In64 f := by
  by_cases hf : In64 f
  · left
    have hx : (T ++ [(d, Value.slice none 0 0)])[n]? = some (d, .slice none 0 0) := by rw [← hn]; simp
    have hv := h.vw (d, .slice none 0 0) (by simp)
    have := h.store (k := n) (j := 2) (y := (⟨d.nm, d.super, f, d.binds⟩, .slice none 0 0)) (by simp [hn]) (cl4s_up _ n _ hx d.nm d.super f).2.2 hv.1 hf hv.2.2 (by rw [hd]; simp) (fun hl => by simp [hd] at hl)
    rw [show (T ++ [(d, Value.slice none 0 0)]).set n (⟨d.nm, d.super, f, d.binds⟩, .slice none 0 0) = T ++ [(⟨d.nm, d.super, f, d.binds⟩, .slice none 0 0)] by rw [List.set_append_right _ _ (by omega), hn]; simp] at this
    exact this
  · exact Or.inr hf
theorem Od.lastF {d : ClassA} {f : Int} (h : Od w w1 (.slice (some ⟨g, 0, none⟩) (n + 1) c) (n + 1) b (T ++ [(d, .slice none 0 0)])) (hn : T.length = n) (hd : d.binds = []) (hf : In64 f) :
    Od w (w1.setCell ⟨g, n * 4 + 2, none⟩ (.int .i64 f)) (.slice (some ⟨g, 0, none⟩) (n + 1) c) (n + 1) b (T ++ [(⟨d.nm, d.super, f, []⟩, .slice none 0 0)]) := by
  rcases h.last (nm := d.nm) (f := f) hn hd with h | h
  · rw [hd] at h; exact h
  · exact absurd hf h
theorem Od.lastN {d : ClassA} {nm : ByteArray} (h : Od w w1 (.slice (some ⟨g, 0, none⟩) (n + 1) c) (n + 1) b (T ++ [(d, .slice none 0 0)])) (hn : T.length = n) (hd : d.binds = []) :
    Od w (w1.setCell ⟨g, n * 4, none⟩ (.string nm)) (.slice (some ⟨g, 0, none⟩) (n + 1) c) (n + 1) b (T ++ [(⟨nm, d.super, d.fields, []⟩, .slice none 0 0)]) := by
  have hx : (T ++ [(d, Value.slice none 0 0)])[n]? = some (d, .slice none 0 0) := by rw [← hn]; simp
  have hv := h.vw (d, .slice none 0 0) (by simp)
  have := h.store (k := n) (j := 0) (y := (⟨nm, d.super, d.fields, d.binds⟩, .slice none 0 0)) (by simp [hn]) (by have := (cl4s_up _ n _ hx nm 0 0).1; simpa using this) hv.1 hv.2.1 hv.2.2 (by rw [hd]; simp) (fun hl => by simp [hd] at hl)
  rw [show (T ++ [(d, Value.slice none 0 0)]).set n (⟨nm, d.super, d.fields, d.binds⟩, .slice none 0 0) = T ++ [(⟨nm, d.super, d.fields, d.binds⟩, .slice none 0 0)] by rw [List.set_append_right _ _ (by omega), hn]; simp] at this
  rw [hd] at this
  exact this
/-- what lies in a class of the row -/
theorem Od.cells {k : Nat} {x : ClassA × Value} (h : Od w w1 (.slice (some ⟨g, 0, none⟩) n c) n b T) (hx : T[k]? = some x) :
    w1.cell? ⟨g, k * 4, none⟩ = some (.string x.1.nm) ∧ w1.cell? ⟨g, k * 4 + 1, none⟩ = some (.int .i64 x.1.super) ∧ w1.cell? ⟨g, k * 4 + 2, none⟩ = some (.int .i64 x.1.fields) ∧ (∀ j, w1.frozen? ⟨g, j, none⟩ = false) := by
  have hk := (List.getElem?_eq_some_iff.1 hx).1
  have hn := h.len
  obtain ⟨a, b', c', _⟩ := cl4s_get T k x hx
  exact ⟨(h.own.cellAt _ (by omega)).trans a, (h.own.cellAt _ (by omega)).trans b', (h.own.cellAt _ (by omega)).trans c', fun j => h.own.frozenAt j⟩
end
end Wd
end Go.Proofs.Ytlbekicalinglaa
