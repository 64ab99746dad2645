/- Texts joined: ERef, ERead, EShade, EOps, EApp, EPut, EAlloc, EScan, EFlip, ENew, ELaw, ESame, EPlay, EKnown0, EKnown, ESw0, EFg0, EFi0. -/
import Derived.Test.YtdaojohdmidemaaJ1
import Derived.StillTailTactics
import Derived.Deep.RegionHeld3
import Derived.BigRegion
import Derived.OpenShut
/- The document's own memory: how it lies; at. -/
namespace Go.Proofs.Ytdaojohdmidemaa
open Go.RowKit Go.Maps
set_option linter.unusedVariables false
namespace Wd
/-- a mill of the document's own, and the blocks in which it lies -/
def QM (w : World) (m : Nat) (A : Mst) (F : Nat → Prop) : Prop := ∃ V, F = (fun g => g = m ∨ ∃ j, j < 4 ∧ (V j).ownBlock = some g) ∧ RefM w m A V
theorem QM.lt {w : World} {m : Nat} {A : Mst} {F : Nat → Prop} (h : QM w m A F) : ∀ g, F g → g < w.heap.size := by
  obtain ⟨V, rfl, h⟩ := h
  rintro g (rfl | ⟨j, hj, hg⟩)
  · exact h.lt.1
  · exact h.lt.2 j g hj hg
theorem QM.same {w w' : World} {m : Nat} {A : Mst} {F : Nat → Prop} (h : QM w m A F) (hk : ∀ g, F g → w'.heap[g]? = w.heap[g]?) : QM w' m A F := by
  obtain ⟨V, rfl, h⟩ := h
  exact ⟨V, rfl, h.same hk⟩
theorem QM.at_ {w : World} {m : Nat} {A : Mst} {F : Nat → Prop} (h : QM w m A F) : F m := by
  obtain ⟨V, rfl, h⟩ := h
  exact Or.inl rfl
theorem qm_step {w w' : World} {m : Nat} {A' : Mst} {V V' : Nat → Value} (hr : RefM w' m A' V') (hg : w.grownBy w' (some m)) (hc : Comes V V' w.heap.size) :
    ∃ F', QM w' m A' F' ∧ Ch (fun g => g = m) w w' ∧ Newer (fun g => g = m ∨ ∃ j, j < 4 ∧ (V j).ownBlock = some g) F' w.heap.size := by
  refine ⟨_, ⟨V', rfl, hr⟩, ⟨hg.os, hg.tape, hg.output, hg.size, fun k hk hn => hg.block k hk (fun e => hn (by cases e; rfl))⟩, ?_⟩
  rintro g (rfl | ⟨j, hj, hgo⟩)
  · exact Or.inl (Or.inl rfl)
  · rcases hc j g hj hgo with h | ⟨i, hi, h⟩
    · exact Or.inr h
    · exact Or.inl (Or.inr ⟨i, hi, h⟩)
/-- the cells of the memory's block behind the table -/
def extX (ms : Nat → Nat) (mb : Nat) : Nat → Option Value := fun k => if k = 3077 then some (.map (some mb)) else if 3072 ≤ k ∧ k < 3077 then some (.pointer (some ⟨ms (k - 3072), 0, none⟩)) else none
/-- what the map holds: each cell's class and a row of its own of its fields -/
structure CM (w : World) (M : Pl → Option Value) (C : Pl → Int × List Int) (R : Nat → Prop) : Prop where
  some' : ∀ p v, M p = some v → ∃ u, v = .agg #[.int .i64 (C p).1, u] ∧ SW w u (C p).2 ∧ ∀ g, u.ownBlock = some g → R g
  none' : ∀ p, M p = none → C p = (0, [])
  lt : ∀ g, R g → g < w.heap.size
/-- its blocks -/
def FH (b : Nat) (FM : Nat → Nat → Prop) (mb : Nat) (R : Nat → Prop) : Nat → Prop := fun g => g = b ∨ (∃ s, s < 5 ∧ FM s g) ∨ g = mb ∨ R g
section
variable {w w' : World} {b : Nat} {n : Nat → Nat} {H : Hst} {ms : Nat → Nat} {FM : Nat → Nat → Prop} {mb c : Nat} {M : Pl → Option Value} {R : Nat → Prop}
theorem CM.same (h : CM w M H.C R) (hs : w.heap.size ≤ w'.heap.size) (hk : ∀ g, R g → w'.heap[g]? = w.heap[g]?) : CM w' M H.C R :=
  ⟨fun p v hp => by
    obtain ⟨u, h1, h2, h3⟩ := h.some' p v hp
    exact ⟨u, h1, h2.same (fun g hg => hk g (h3 g hg)), h3⟩, h.none', fun g hg => Nat.lt_of_lt_of_le (h.lt g hg) hs⟩
/-- two boxes of two cells are written -/
theorem boxes4 {w w2 : World} {s : Nat} {v0 v1 v2 v3 c1 c2 c3 c4 : Value} (g0 : w2.cell? ⟨s, 0, none⟩ = some v0) (g1 : w2.cell? ⟨s, 1, none⟩ = some v1) (g2 : w2.cell? ⟨s + 1, 0, none⟩ = some v2) (g3 : w2.cell? ⟨s + 1, 1, none⟩ = some v3) (hB : Below s w w2) :
    ((((w2.setCell ⟨s, 0, none⟩ c1).setCell ⟨s, 1, none⟩ c2).setCell ⟨s + 1, 0, none⟩ c3).setCell ⟨s + 1, 1, none⟩ c4).drew.cell? ⟨s, 0, none⟩ = some c1 ∧
    ((((w2.setCell ⟨s, 0, none⟩ c1).setCell ⟨s, 1, none⟩ c2).setCell ⟨s + 1, 0, none⟩ c3).setCell ⟨s + 1, 1, none⟩ c4).drew.cell? ⟨s, 1, none⟩ = some c2 ∧
    ((((w2.setCell ⟨s, 0, none⟩ c1).setCell ⟨s, 1, none⟩ c2).setCell ⟨s + 1, 0, none⟩ c3).setCell ⟨s + 1, 1, none⟩ c4).drew.cell? ⟨s + 1, 0, none⟩ = some c3 ∧
    ((((w2.setCell ⟨s, 0, none⟩ c1).setCell ⟨s, 1, none⟩ c2).setCell ⟨s + 1, 0, none⟩ c3).setCell ⟨s + 1, 1, none⟩ c4).drew.cell? ⟨s + 1, 1, none⟩ = some c4 ∧
    Below s w ((((w2.setCell ⟨s, 0, none⟩ c1).setCell ⟨s, 1, none⟩ c2).setCell ⟨s + 1, 0, none⟩ c3).setCell ⟨s + 1, 1, none⟩ c4).drew := by
  have f1 : ∀ {W : World} {o o' : Nat} {q : Nat} {x : Value}, o ≠ o' → (W.setCell ⟨q, o, none⟩ x).cell? ⟨q, o', none⟩ = W.cell? ⟨q, o', none⟩ := fun hne => World.cell?_setCell_other _ _ _ _ (by intro e; injection e with _ h2; exact hne h2)
  have f2 : ∀ {W : World} {o o' : Nat} {q q' : Nat} {x : Value}, q ≠ q' → (W.setCell ⟨q, o, none⟩ x).cell? ⟨q', o', none⟩ = W.cell? ⟨q', o', none⟩ := fun hne => World.cell?_setCell_far _ _ _ _ hne
  have n1 : s + 1 ≠ s := by omega
  have n2 : s ≠ s + 1 := by omega
  refine ⟨?_, ?_, ?_, ?_, ?_⟩
  · rw [World.cell?_drew, f2 n1, f2 n1, f1 (by decide)]
    exact World.cell?_setCell_same _ _ _ g0
  · rw [World.cell?_drew, f2 n1, f2 n1]
    exact World.cell?_setCell_same _ _ _ (by rw [f1 (by decide)]; exact g1)
  · rw [World.cell?_drew, f1 (by decide)]
    exact World.cell?_setCell_same _ _ _ (by rw [f2 n2, f2 n2]; exact g2)
  · rw [World.cell?_drew]
    exact World.cell?_setCell_same _ _ _ (by rw [f1 (by decide), f2 n2, f2 n2]; exact g3)
  · refine ⟨hB.os, hB.tape, hB.output, by simpa [World.drew, World.setCell] using hB.size, fun k hk => ?_⟩
    have hd : ∀ W : World, W.drew.heap = W.heap := fun _ => rfl
    rw [hd, Below.heap_setCell _ _ _ _ (by simp only; omega), Below.heap_setCell _ _ _ _ (by simp only; omega), Below.heap_setCell _ _ _ _ (by simp only; omega), Below.heap_setCell _ _ _ _ (by simp only; omega)]
    exact hB.block k hk
end
end Wd
end Go.Proofs.Ytdaojohdmidemaa

/- The document's own memory: what is read of it. -/
namespace Go.Proofs.Ytdaojohdmidemaa
open Go.RowKit Go.Maps
set_option linter.unusedVariables false
namespace Wd
section
variable {w : World} {m : Nat} {A : Mst} {F : Nat → Prop}
end
section
variable {w : World} {b : Nat} {n : Nat → Nat} {H : Hst} {ms : Nat → Nat} {FM : Nat → Nat → Prop} {mb c : Nat} {M : Pl → Option Value} {R : Nat → Prop}
theorem HInv.hl (h : HInv n H) {s : Nat} (hs : s < 5) : ∀ k, k < 4 → (H.M s k).length ≤ 8192 := fun k hk => Nat.le_trans (good_le (h.good s hs) k hk) (by have := h.few s hs; omega)
/-- where an identity that is there lies -/
theorem HInv.where_ (h : HInv n H) {i : Int} (hh : hasT H.T i = true) : ∃ (s : Nat) (q : Int), s < 5 ∧ atP H.T i = ((s : Int), q) ∧ plOk ((s : Int), q) := by
  obtain ⟨k, p, rfl, h4, hk, hp, e⟩ := h.has hh
  obtain ⟨s, h1, h2, h3, h4, _⟩ := h.pl k p hp
  have hok := (h.inv.bd k p hp).2.2
  obtain ⟨pa, pc⟩ := p
  simp only at h2
  subst h2
  exact ⟨s, pc, h1, e, hok⟩
end
end Wd
end Go.Proofs.Ytdaojohdmidemaa

/- The document's own memory: Shade, Done. -/
namespace Go.Proofs.Ytdaojohdmidemaa
open Go.RowKit Go.Maps
set_option linter.unusedVariables false
namespace Wd
def upF (FM : Nat → Nat → Prop) (s : Nat) (F' : Nat → Prop) : Nat → Nat → Prop := fun j => if j = s then F' else FM j
section
variable {w w' : World} {b : Nat} {n : Nat → Nat} {H : Hst} {ms : Nat → Nat} {FM : Nat → Nat → Prop} {mb c : Nat} {M : Pl → Option Value} {R F : Nat → Prop}
end
section
variable {w w' : World} {b : Nat} {n : Nat → Nat} {H : Hst} {F : Nat → Prop}
theorem newer_refl9 (F : Nat → Prop) (s : Nat) : Newer F F s := fun _ h => Or.inl h
theorem Newer.trans {F F' F'' : Nat → Prop} {s t : Nat} (h : Newer F F' s) (g : Newer F' F'' t) (hst : s ≤ t) : Newer F F'' s := fun k hk => by
  rcases g k hk with h1 | h1
  · exact h k h1
  · exact Or.inr (Nat.le_trans hst h1)
theorem Ch.then_ {F F' : Nat → Prop} {w w1 w2 : World} (h : Ch F w w1) (g : Ch F' w1 w2) (hn : Newer F F' w.heap.size) : Ch F w w2 :=
  ⟨g.os.trans h.os, g.tape.trans h.tape, g.output.trans h.output, Nat.le_trans h.size g.size, fun k hk hF => (g.block k (Nat.lt_of_lt_of_le hk h.size) (fun hF' => by
    rcases hn k hF' with h1 | h1
    · exact hF h1
    · omega)).trans (h.block k hk hF)⟩
end
end Wd
end Go.Proofs.Ytdaojohdmidemaa

/- The document's own memory: Hold, Done, Swap. -/
namespace Go.Proofs.Ytdaojohdmidemaa
open Go.RowKit Go.Maps
set_option linter.unusedVariables false
namespace Wd
section
variable {w w' : World} {b : Nat} {n : Nat → Nat} {H : Hst} {F : Nat → Prop}
theorem hold_take {H : Hst} {l : List Int} {k : Nat} {x : Int} (hx : l[k]? = some x) : holdH H (l.take (k + 1)) = shW (holdH H (l.take k)) x := by
  rw [List.take_add_one, hx]
  unfold holdH
  rw [List.foldl_append]; rfl
/-- the array of a memory's mills, as it is read -/
def msV (ms : Nat → Nat) : Value := .agg #[.pointer (some ⟨ms 0, 0, none⟩), .pointer (some ⟨ms 1, 0, none⟩), .pointer (some ⟨ms 2, 0, none⟩), .pointer (some ⟨ms 3, 0, none⟩), .pointer (some ⟨ms 4, 0, none⟩)]
theorem QM.row2 {w : World} {m : Nat} {A : Mst} {F : Nat → Prop} (h : QM w m A F) {k : Nat} (hk : k < 4) : ∃ a c, w.cell? ⟨m, k, none⟩ = some (.slice a (A k).length c) := by
  obtain ⟨V, rfl, h⟩ := h
  obtain ⟨a, c, e⟩ := (h.own k hk).form
  exact ⟨a, c, by rw [h.c k hk, e]⟩
theorem all_step {P : Nat → Bool} {k : Nat} : (List.range k).all P = true ↔ ∀ j, j < k → P j = true := by
  rw [List.all_eq_true]
  exact ⟨fun h j hj => h j (List.mem_range.2 hj), fun h j hj => h j (List.mem_range.1 hj)⟩
/-- so far no grey one -/
structure DSt9 (w : World) (H : Hst) (k : Nat) (wr : World) : Prop where
  eq : wr = w
  em : ∀ j, j < k → H.M j 2 = []
variable {ms : Nat → Nat} {FM : Nat → Nat → Prop} {mb c : Nat} {M : Pl → Option Value} {R : Nat → Prop}
theorem shW_oop {H : Hst} {a : Int} (h1 : 1 ≤ a) (h2 : a ≤ 2147483647) : shW H (oopW a) = shI H a := by
  have e : oopW a = 2 * a := by unfold oopW; rw [if_pos ⟨h1, h2⟩]
  have e2 : isOp (2 * a) = true := by unfold isOp; simp; omega
  unfold shW
  rw [e, if_pos e2, show 2 * a / 2 = a by omega]
theorem colI_bd {H : Hst} (i : Int) : -1 ≤ colI H i ∧ colI H i ≤ 3 := by
  unfold colI colP colorR
  repeat' split
  all_goals omega
end
end Wd
end Go.Proofs.Ytdaojohdmidemaa

/- An append to a row of words. -/
namespace Go.Proofs.Ytdaojohdmidemaa
open Go.RowKit
set_option linter.unusedVariables false
namespace Wd
theorem wrds_one (L : List Int) : ∀ u ∈ wrds L, u.oneCell' = true := by
  intro u hu
  obtain ⟨x, _, rfl⟩ := List.mem_map.1 hu
  rfl
theorem wrds_len (L : List Int) : (wrds L).length = L.length * 1 := by simp [wrds]
theorem wone_at {w : World} {g : Nat} {i : Int} (h : w.cell? ⟨g, 0, none⟩ = some (.int .u32 i)) : ∀ j u, (wrds [i])[j]? = some u → w.cell? ((⟨g, 0, none⟩ : Addr).add j) = some u := by
  intro j u hu
  match j, hu with
  | 0, hu =>
    simp [wrds] at hu; subst hu
    rw [Addr.add_lit]; exact h
/-- what an append reads: nothing, or a row of numbers -/
def ReadsW (w : World) (u : Value) (M : List Int) : Prop := (u = .slice none 0 0 ∧ M = []) ∨ ∃ ad c, u = .slice (some ad) M.length c ∧ ∀ j x, (wrds M)[j]? = some x → w.cell? (ad.add j) = some x
theorem SW.reads {w : World} {v : Value} {M : List Int} (h : SW w v M) : ReadsW w v M := by
  rcases h.cases with ⟨rfl, rfl⟩ | ⟨g, cap, rfl, _, _, _, hown⟩
  · exact Or.inl ⟨rfl, rfl⟩
  · refine Or.inr ⟨_, _, rfl, fun j x hx => ?_⟩
    simp only [wrds, List.getElem?_map, Option.map_eq_some_iff] at hx
    obtain ⟨y, hy, rfl⟩ := hx
    rw [Addr.add_lit, Nat.zero_add]
    exact wrow_cell hown hy
theorem ReadsW.one {w : World} {g : Nat} {i : Int} (h : w.cell? ⟨g, 0, none⟩ = some (.int .u32 i)) : ReadsW w (.slice (some ⟨g, 0, none⟩) 1 1) [i] := Or.inr ⟨_, _, rfl, wone_at h⟩
/-- nothing is appended -/
theorem run_appw_nil {P : Program} (w : World) (base : Nat) (t ty e : TypeId) (i : TypeInfo) (size n : Nat) (ht : P.underlying t = some (.slice e)) (hi : P.info? e = some i) (v : Value) (xs : List Value) (hown : w.ownsRow base e size v n xs) :
    (Builtin.append_ #[t, t] ty #[v, .slice none 0 0]).run P w = .ok v w := by
  rcases hown.2 with ⟨rfl, rfl⟩ | ⟨g, cap, cur, rfl, _, _, hle, _⟩
  · simp [Builtin.append_, run_underlying ht, sizeOf, typeInfo, hi, Builtin.lenOf, Builtin.firstCells]
  · simp [Builtin.append_, run_underlying ht, sizeOf, typeInfo, hi, Builtin.lenOf, Builtin.firstCells, hle, storeCells]
/-- an append of a row of numbers, or of none, onto a row of numbers of the call's own -/
theorem run_appw (w : World) (base n : Nat) (v u : Value) (X M : List Int) (ty : TypeId) (hown : w.ownsRow base 29 1 v n (wrds X)) (hu : ReadsW w u M) (h63 : n + M.length ≤ 100000) (hbase : base ≤ w.heap.size) :
    ∃ v' w', (Builtin.append_ #[36, 36] ty #[v, u]).run Try.prog w = .ok v' w' ∧ w'.ownsRow base 29 1 v' (n + M.length) (wrds (X ++ M)) ∧ w.grownBy w' v.ownBlock ∧ (v'.ownBlock = v.ownBlock ∨ v'.ownBlock = some w.heap.size) := by
  obtain ⟨i0, hi0, hz0, hz1, hz2⟩ := info_parts infoW
  rcases hu with ⟨rfl, rfl⟩ | ⟨ad, c, rfl, hc⟩
  · refine ⟨v, w, run_appw_nil w base 36 ty 29 i0 1 n Try.underlying36 hi0 v _ hown, by simpa using hown, grown_refl _ _, Or.inl rfl⟩
  · have hmx : 100000 ≤ maxLen := by decide
    obtain ⟨v', w', hr, h2, h3, _, h5⟩ := run_append_own_at (P := Try.prog) w base 36 ty 29 i0 (.int .u32 0) 1 4 Try.underlying36 hi0 hz0 hz1 hz2 rfl (by decide) v n (wrds X) hown ad M.length c (wrds M) (wrds_len M) hc (wrds_one _) (by omega) (by omega) hbase
    exact ⟨v', w', hr, by simpa [wrds] using h2, h3, h5⟩
/-- the same, at a step of a region that draws -/
theorem step_appw {w : World} {ops : Array Oper} {o : Oper} {a : Act} {K : Act → World → Prop} {Q : Exit → Act → World → Prop} {E : Prop} (hgd : o.guard = none) (s x : Operand)
    (ho : o.op = .call { callee := .builtin .append, args := #[s, x], argTypes := #[36, 36] }) (base n : Nat) (v u : Value) (X M : List Int) (hs : a.eval s = v) (hx : a.eval x = u)
    (hown : w.ownsRow base 29 1 v n (wrds X)) (hu : ReadsW w u M) (h63 : n + M.length ≤ 100000) (hbase : base ≤ w.heap.size)
    (h : ∀ v' w', w'.ownsRow base 29 1 v' (n + M.length) (wrds (X ++ M)) → w.grownBy w' v.ownBlock → (v'.ownBlock = v.ownBlock ∨ v'.ownBlock = some w.heap.size) → K (a.put o.dst v') w') :
    if Region.wanted o (yielded ops a.tmps) = true then Oper.wp Try.prog o a w K Q else E := by
  have hw : Region.wanted o (yielded ops a.tmps) = true := by simp [Region.wanted, hgd]
  rw [if_pos hw]
  obtain ⟨v', w', hr, h2, h3, h5⟩ := run_appw w base n v u X M o.type hown hu h63 hbase
  unfold Oper.wp execOp
  simp only [ho, resolve, invoke, builtin, Sem.run_bind, Sem.run_pure, Result.andThen_ok, List.map_toArray, List.map_cons, List.map_nil, hs, hx, hr]
  exact h v' w' h2 h3 h5
/-- the same, at the head of a list of operations -/
theorem wpList_appw {w : World} {ops : Array Oper} {rest : List Oper} {o : Oper} {a : Act} {Q : Exit → Act → World → Prop} (hgd : o.guard = none) (s x : Operand)
    (ho : o.op = .call { callee := .builtin .append, args := #[s, x], argTypes := #[36, 36] }) (base n : Nat) (v u : Value) (X M : List Int) (hs : a.eval s = v) (hx : a.eval x = u)
    (hown : w.ownsRow base 29 1 v n (wrds X)) (hu : ReadsW w u M) (h63 : n + M.length ≤ 100000) (hbase : base ≤ w.heap.size)
    (h : ∀ v' w', w'.ownsRow base 29 1 v' (n + M.length) (wrds (X ++ M)) → w.grownBy w' v.ownBlock → (v'.ownBlock = v.ownBlock ∨ v'.ownBlock = some w.heap.size) → wpList Try.prog ops Q rest (a.put o.dst v') w') :
    wpList Try.prog ops Q (o :: rest) a w := by
  refine wpList_plain hgd fun K hK => ?_
  obtain ⟨v', w', hr, h2, h3, h5⟩ := run_appw w base n v u X M o.type hown hu h63 hbase
  unfold Oper.wp execOp
  simp only [ho, resolve, invoke, builtin, Sem.run_bind, Sem.run_pure, Result.andThen_ok, List.map_toArray, List.map_cons, List.map_nil, hs, hx, hr]
  exact hK _ _ (h v' w' h2 h3 h5)
end Wd
end Go.Proofs.Ytdaojohdmidemaa

/- The document's own memory: Put. -/
namespace Go.Proofs.Ytdaojohdmidemaa
open Go.RowKit Go.Maps
set_option linter.unusedVariables false
namespace Wd
section
variable {w w' : World} {b : Nat} {n : Nat → Nat} {H : Hst} {F : Nat → Prop}
variable {ms : Nat → Nat} {FM : Nat → Nat → Prop} {mb c : Nat} {M : Pl → Option Value} {R : Nat → Prop}
def rowR (R : Nat → Prop) (u : Value) : Nat → Prop := fun g => R g ∨ u.ownBlock = some g
theorem FH_row {b : Nat} {FM : Nat → Nat → Prop} {mb : Nat} {R : Nat → Prop} {u : Value} : ∀ g, FH b FM mb (rowR R u) g → FH b FM mb R g ∨ u.ownBlock = some g := by
  rintro g (h | h | h | h | h)
  · exact Or.inl (Or.inl h)
  · exact Or.inl (Or.inr (Or.inl h))
  · exact Or.inl (Or.inr (Or.inr (Or.inl h)))
  · exact Or.inl (Or.inr (Or.inr (Or.inr h)))
  · exact Or.inr h
theorem HInv.place (h : HInv n H) {i : Int} (hh : hasT H.T i = true) : atP H.T i ∈ allP n := by
  obtain ⟨k, p, rfl, h4, hk, hp, e⟩ := h.has hh
  obtain ⟨s, h1, h2, h3, h5, _⟩ := h.pl k p hp
  rw [e]
  exact mem_allP.2 ⟨s, h1, h2, h3, h5⟩
theorem HInv.len62 (h : HInv n H) (i : Int) : (fsI H i).length ≤ 62 := by
  unfold fsI
  split
  · rename_i hh
    obtain ⟨k, p, rfl, h4, hk, hp, e⟩ := h.has hh
    rw [e]
    obtain ⟨s, h1, h2, h3, h5, _⟩ := h.pl k p hp
    have := (h.cel k p hp).1
    rcases fo_cases ((H.C p).2.length : Int) with ⟨h, e⟩ | ⟨h1, h2, e⟩ | ⟨h1, h2, e⟩ | ⟨h1, h2, e⟩ | ⟨h1, h2, e⟩ | ⟨h1, h2, e⟩ <;> omega
  · simp
theorem below_set {w w' : World} {s : Nat} (h : Below s w w') {a : Addr} (ha : s ≤ a.block) (v : Value) : Below s w (w'.setCell a v) :=
  ⟨h.os, h.tape, h.output, by rw [World.size_setCell]; exact h.size, fun k hk => (Below.heap_setCell _ _ _ _ (by omega)).trans (h.block k hk)⟩
theorem below_grown {w w1 w2 : World} {s : Nat} {r : Option Nat} (h : Below s w w1) (g : w1.grownBy w2 r) (hr : ∀ k, r = some k → s ≤ k) (hs : s ≤ w1.heap.size) : Below s w w2 :=
  ⟨g.os.trans h.os, g.tape.trans h.tape, g.output.trans h.output, Nat.le_trans h.size g.size, fun k hk => (g.block k (by omega) (fun e => by have := hr k e.symm; omega)).trans (h.block k hk)⟩
end
end Wd
end Go.Proofs.Ytdaojohdmidemaa

/- The document's own memory: Alloc. -/
namespace Go.Proofs.Ytdaojohdmidemaa
open Go.RowKit Go.Maps
set_option linter.unusedVariables false
namespace Wd
/-- while the fields are laid: the boxes of the place and of the cell -/
structure AS9 (w1 : World) (sb : Nat) (cl s i : Int) (k : Nat) (v : Value) (wr : World) : Prop where
  c0 : wr.cell? ⟨sb + 1, 0, none⟩ = some (.int .i64 cl)
  c1 : wr.cell? ⟨sb + 1, 1, none⟩ = some v
  z1 : wr.frozen? ⟨sb + 1, 1, none⟩ = false
  p0 : wr.cell? ⟨sb, 0, none⟩ = some (.int .i64 s)
  p1 : wr.cell? ⟨sb, 1, none⟩ = some (.int .i64 i)
  own : wr.ownsRow (sb + 2) 29 1 v k (wrds (List.replicate k 2))
  bel : Below sb w1 wr
  size : sb + 2 ≤ wr.heap.size
theorem AS9.next {w1 wr wC : World} {sb : Nat} {cl s i : Int} {k : Nat} {v v1 : Value} {o : Obj} (h : AS9 w1 sb cl s i k v wr) (hown : wC.ownsRow (sb + 2) 29 1 v1 (k + 1) (wrds (List.replicate k 2 ++ [2]))) (hg : (wr.alloc o).grownBy wC v.ownBlock) :
    AS9 w1 sb cl s i (k + 1) v1 (wC.setCell ⟨sb + 1, 1, none⟩ v1) := by
  have hs := h.size
  have s1 : (wr.alloc o).heap.size = wr.heap.size + 1 := by simp
  have hov : ∀ g, v.ownBlock = some g → sb + 2 ≤ g := fun g hg => (h.own.lt g hg).1
  have hov1 : ∀ g, v1.ownBlock = some g → sb + 2 ≤ g := fun g hg => (hown.lt g hg).1
  have hC : Below sb w1 wC := below_grown (h.bel.alloc (by omega) o) hg (fun g hg => by have := hov g hg; omega) (by omega)
  have hb : ∀ g, g < sb + 2 → wC.heap[g]? = wr.heap[g]? := fun g hg2 => (hg.block g (by omega) (fun e => by have := hov g e.symm; omega)).trans (Below.heap_alloc _ _ _ (by omega))
  have e1 := hb (sb + 1) (by omega)
  have e0 := hb sb (by omega)
  have c1' : wC.cell? ⟨sb + 1, 1, none⟩ = some v := (World.cell?_of_block (a := ⟨sb + 1, 1, none⟩) e1).trans h.c1
  refine ⟨?_, World.cell?_setCell_same _ _ _ c1', ?_, ?_, ?_, ?_, below_set hC (by show sb ≤ sb + 1; omega) _, ?_⟩
  · exact (World.cell?_setCell_other _ _ _ _ (by intro e; injection e with _ h2; omega)).trans ((World.cell?_of_block (a := ⟨sb + 1, 0, none⟩) e1).trans h.c0)
  · rw [World.frozen?_setCell]; exact (World.frozen?_of_block (a := ⟨sb + 1, 1, none⟩) e1).trans h.z1
  · exact (World.cell?_setCell_far _ _ _ _ (by show sb + 1 ≠ sb; omega)).trans ((World.cell?_of_block (a := ⟨sb, 0, none⟩) e0).trans h.p0)
  · exact (World.cell?_setCell_far _ _ _ _ (by show sb + 1 ≠ sb; omega)).trans ((World.cell?_of_block (a := ⟨sb, 1, none⟩) e0).trans h.p1)
  · rw [List.replicate_succ']
    exact ownsRow_setCell_other hown (a := ⟨sb + 1, 1, none⟩) (by intro e; have := hov1 _ e; simp only at this; omega) _
  · rw [World.size_setCell]
    have := hg.size
    omega
section
variable {w w' : World} {b : Nat} {n : Nat → Nat} {H : Hst} {F : Nat → Prop}
end
end Wd
end Go.Proofs.Ytdaojohdmidemaa

/- The document's own memory: Scan. -/
namespace Go.Proofs.Ytdaojohdmidemaa
open Go.RowKit Go.Maps
set_option linter.unusedVariables false
namespace Wd
theorem shI_C {H : Hst} {i : Int} : (shI H i).C = H.C := by unfold shI sh; split <;> rfl
theorem shW_C {H : Hst} {x : Int} : (shW H x).C = H.C := by unfold shW; split; exact shI_C; rfl
theorem holdH_C {l : List Int} : ∀ {H : Hst}, (holdH H l).C = H.C := by
  unfold holdH
  induction l with
  | nil => intro H; rfl
  | cons x l ih => intro H; rw [List.foldl_cons, ih, shW_C]
theorem gry_none {H : Hst} (h : doneB H = true) : gry H = none := by
  unfold gry
  rw [List.find?_eq_none]
  intro s hs
  rw [done_of h s (List.mem_range.1 hs)]
  simp
theorem gry_some {H : Hst} (h : doneB H = false) : ∃ s : Nat, gry H = some s ∧ s < 5 ∧ H.M s 2 ≠ [] ∧ ∀ j, j < s → H.M j 2 = [] := by
  cases hg : gry H with
  | none =>
    exfalso
    have : doneB H = true := by
      unfold doneB
      rw [all_step]
      intro j hj
      unfold gry at hg
      have := (List.find?_eq_none.1 hg) j (List.mem_range.2 hj)
      simpa using this
    rw [h] at this; cases this
  | some s =>
    unfold gry at hg
    rw [List.find?_range_eq_some] at hg
    obtain ⟨h1, h2, h3⟩ := hg
    refine ⟨s, rfl, List.mem_range.1 h2, by simpa using h1, fun j hj => ?_⟩
    have := h3 j hj
    simpa using this
theorem scanN_stop {H : Hst} {k : Nat} {W d : Int} (h : W ≤ d ∨ doneB H = true) : scanN k W d H = (d, H) := by
  cases k with
  | zero => rfl
  | succ k =>
    unfold scanN
    rcases h with h | h
    · rw [if_neg (by omega)]
    · rw [gry_none h]; simp
theorem scanN_go {H : Hst} {k s : Nat} {W d : Int} (h : d < W) (hg : gry H = some s) : scanN (k + 1) W d H = scanN k W (d + wd s) (scan1 H s) := by
  rw [scanN, if_pos h, hg]
theorem wd_four {s : Nat} (hs : s < 5) : 4 ≤ wd s ∧ wd s ≤ 64 := by
  rcases (show s = 0 ∨ s = 1 ∨ s = 2 ∨ s = 3 ∨ s = 4 by omega) with rfl | rfl | rfl | rfl | rfl <;> decide
section
variable {w w' : World} {b : Nat} {n : Nat → Nat} {H : Hst} {F : Nat → Prop}
end
end Wd
end Go.Proofs.Ytdaojohdmidemaa

/- The document's own memory: Flip. -/
namespace Go.Proofs.Ytdaojohdmidemaa
open Go.RowKit Go.Maps
set_option linter.unusedVariables false
namespace Wd
theorem flipL_succ (H : Hst) (k : Nat) : flipL H (k + 1) = flipL H k ++ flipS H k := by
  unfold flipL
  rw [List.range_succ, List.flatMap_append]
  simp
/-- the identities that are left, and how many were given back, behind the first k sizes -/
def flX (H : Hst) (k : Nat) : Tst × Int := (flipL H k).foldl giveP (H.T, 0)
def flQ (H : Hst) (k q : Nat) : Tst × Int := ((flipS H k).take q).foldl giveP (flX H k)
theorem flX_succ (H : Hst) (k : Nat) : flX H (k + 1) = flQ H k (flipS H k).length := by
  unfold flX flQ
  rw [flipL_succ, List.foldl_append, List.take_length]; rfl
theorem flQ_zero (H : Hst) (k : Nat) : flQ H k 0 = flX H k := by unfold flQ; rw [List.take_zero]; rfl
theorem flQ_succ {H : Hst} {k q : Nat} {p : Pl} (h : (flipS H k)[q]? = some p) : flQ H k (q + 1) = giveP (flQ H k q) p := by
  unfold flQ
  rw [List.take_add_one, h, Option.toList_some, List.foldl_append]; rfl
theorem giveP_some {T : Tst} {m : Int} {p : Pl} {id : Nat} (h : ofR T p = some id) : giveP (T, m) p = (updT T id none, m + 1) := by unfold giveP; simp only [h]
theorem giveP_none {T : Tst} {m : Int} {p : Pl} (h : ofR T p = none) : giveP (T, m) p = (T, m) := by unfold giveP; simp only [h]
def flH (H : Hst) (k : Nat) : Hst := { T := (flX H k).1, M := flpM H k, C := H.C }
/-- behind the first q of size k -/
structure GSt9 (w1 : World) (b : Nat) (H : Hst) (X : Nat → Option Value) (k q : Nat) (m : Int) (wr : World) : Prop where
  rt : RefT X wr b (flQ H k q).1
  ch : Ch (fun g => g = b) w1 wr
  e : m = (flQ H k q).2
  m0 : 0 ≤ m
  m1 : m ≤ 512 * (k : Int) + q
section
variable {w w' : World} {b : Nat} {n : Nat → Nat} {H : Hst} {F : Nat → Prop}
theorem below_F {F : Nat → Prop} {w w' : World} (b : Below w.heap.size w w') : Ch F w w' := below_toCh F b
theorem upM_flip (H : Hst) {k : Nat} : upM (flpM H k) k (flipA (H.M k)) = flpM H (k + 1) := by
  funext s
  unfold upM flpM
  by_cases e : s = k
  · subst e; rw [if_pos rfl, if_pos (by omega)]
  · rw [if_neg e]
    by_cases h : s < k
    · rw [if_pos h, if_pos (by omega)]
    · rw [if_neg h, if_neg (by omega)]
theorem flpM_self (H : Hst) (k : Nat) : flpM H k k = H.M k := by unfold flpM; rw [if_neg (by omega)]
theorem flpM_zero (H : Hst) : flpM H 0 = H.M := by funext s; unfold flpM; rw [if_neg (by omega)]
theorem flipS_len {H : Hst} (h : HInv n H) {k : Nat} (hk : k < 5) : (flipS H k).length = (flipR (H.M k)).length ∧ (flipR (H.M k)).length ≤ 512 := by
  refine ⟨by unfold flipS; simp, ?_⟩
  unfold flipR
  split
  · exact Nat.le_trans (good_le (h.good k hk) 3 (by omega)) (h.few k hk)
  · simp
end
end Wd
end Go.Proofs.Ytdaojohdmidemaa

/- The document's own memory: it is made. -/
namespace Go.Proofs.Ytdaojohdmidemaa
open Go.RowKit Go.Maps
set_option linter.unusedVariables false
namespace Wd
def zeroH (m : Nat) : Array Value := (List.replicate 1024 (Value.bool false) ++ (List.replicate 2048 (Value.int .i64 0) ++ (List.replicate 5 (Value.pointer none) ++ [Value.map (some m)]))).toArray
theorem zeroH_in {m k : Nat} (hk : k < 1024) : (zeroH m)[k]? = some (.bool false) := by
  unfold zeroH
  rw [List.getElem?_toArray, List.getElem?_append_left (by rw [List.length_replicate]; exact hk), List.getElem?_replicate, if_pos hk]
theorem zeroH_at {m k : Nat} (h1 : 1024 ≤ k) (h2 : k < 3072) : (zeroH m)[k]? = some (.int .i64 0) := by
  unfold zeroH
  rw [List.getElem?_toArray, List.getElem?_append_right (by rw [List.length_replicate]; exact h1), List.length_replicate, List.getElem?_append_left (by rw [List.length_replicate]; omega), List.getElem?_replicate, if_pos (by omega)]
theorem zeroH_pt {m k : Nat} (h1 : 3072 ≤ k) (h2 : k < 3077) : (zeroH m)[k]? = some (.pointer none) := by
  unfold zeroH
  rw [List.getElem?_toArray, List.getElem?_append_right (by rw [List.length_replicate]; omega), List.length_replicate, List.getElem?_append_right (by rw [List.length_replicate]; omega), List.length_replicate, List.getElem?_append_left (by rw [List.length_replicate]; omega), List.getElem?_replicate, if_pos (by omega)]
theorem zeroH_mp {m k : Nat} (h1 : 3077 ≤ k) : (zeroH m)[k]? = if k = 3077 then some (.map (some m)) else none := by
  unfold zeroH
  rw [List.getElem?_toArray, List.getElem?_append_right (by rw [List.length_replicate]; omega), List.length_replicate, List.getElem?_append_right (by rw [List.length_replicate]; omega), List.length_replicate, List.getElem?_append_right (by rw [List.length_replicate]; omega), List.length_replicate]
  by_cases e : k = 3077
  · subst e; rfl
  · rw [if_neg e, List.getElem?_eq_none]
    simp; omega
/-- the cells behind the table while the first k mills are made -/
def nX (ms : Nat → Nat) (mb k : Nat) : Nat → Option Value := fun j => if j = 3077 then some (.map (some mb)) else if 3072 ≤ j ∧ j < 3077 then (if j - 3072 < k then some (.pointer (some ⟨ms (j - 3072), 0, none⟩)) else some (.pointer none)) else none
def upN (ms : Nat → Nat) (k g : Nat) : Nat → Nat := fun j => if j = k then g else ms j
theorem RefT.ext {X : Nat → Option Value} {w : World} {b : Nat} {T : Tst} (h : RefT X w b T) {k : Nat} (hk : 3072 ≤ k) {v0 v : Value} (hx : X k = some v0) : RefT (fun j => if j = k then some v else X j) (w.setCell ⟨b, k, none⟩ v) b T := by
  have far : ∀ {o : Nat}, o ≠ k → (w.setCell ⟨b, k, none⟩ v).cell? ⟨b, o, none⟩ = w.cell? ⟨b, o, none⟩ := fun hne => World.cell?_setCell_other _ _ _ _ (by intro e; injection e with _ h2; exact hne h2.symm)
  refine ⟨fun j hj => (far (by omega)).trans (h.ci j hj), fun j hj => (far (by omega)).trans (h.cs j hj), fun j hj => (far (by omega)).trans (h.cl j hj), fun j => by rw [World.frozen?_setCell]; exact h.z j, fun j hj => ?_⟩
  by_cases e : j = k
  · subst e
    simp only [if_true]
    exact World.cell?_setCell_same _ _ _ ((h.x j hk).trans hx)
  · simp only [if_neg e]
    exact (far e).trans (h.x j hj)
theorem nX_up (ms : Nat → Nat) (mb : Nat) {k g : Nat} (hk : k < 5) : (fun j => if j = 3072 + k then some (Value.pointer (some ⟨g, 0, none⟩)) else nX ms mb k j) = nX (upN ms k g) mb (k + 1) := by
  funext j
  unfold nX upN
  by_cases e : j = 3072 + k
  · subst e
    rw [if_pos rfl, if_neg (by omega), if_pos (by omega), if_pos (by omega), if_pos (by omega)]
  · rw [if_neg e]
    by_cases e2 : j = 3077
    · rw [if_pos e2, if_pos e2]
    · rw [if_neg e2, if_neg e2]
      by_cases h3 : 3072 ≤ j ∧ j < 3077
      · rw [if_pos h3, if_pos h3]
        by_cases h4 : j - 3072 < k
        · rw [if_pos h4, if_pos (by omega), if_neg (by omega)]
        · rw [if_neg h4, if_neg (by omega)]
      · rw [if_neg h3, if_neg h3]
theorem nX_five (ms : Nat → Nat) (mb : Nat) : nX ms mb 5 = extX ms mb := by
  funext j
  unfold nX extX
  by_cases e2 : j = 3077
  · rw [if_pos e2, if_pos e2]
  · rw [if_neg e2, if_neg e2]
    by_cases h3 : 3072 ≤ j ∧ j < 3077
    · rw [if_pos h3, if_pos h3, if_pos (by omega)]
    · rw [if_neg h3, if_neg h3]
end Wd
end Go.Proofs.Ytdaojohdmidemaa

/- What the laws ask of a memory, whoever keeps it. -/
namespace Go.Proofs.Ytdaojohdmidemaa
open Go.RowKit Go.Maps
set_option linter.unusedVariables false
namespace Wd
abbrev HAt := World → Nat → (Nat → Nat) → Hst → (Nat → Prop) → Prop
/-- what a call leaves: the memory H', in the blocks F' -/
abbrev Left (HA : HAt) (w w' : World) (p : Nat) (n : Nat → Nat) (H' : Hst) (F F' : Nat → Prop) : Prop := HA w' p n H' F' ∧ Ch F w w' ∧ Newer F F' w.heap.size
abbrev i64 (x : Int) : Prop := -9223372036854775808 ≤ x ∧ x ≤ 9223372036854775807
def cfgV (n : Nat → Nat) (p : Int) : Value := .agg #[.int .i64 (n 0 : Nat), .int .i64 (n 1 : Nat), .int .i64 (n 2 : Nat), .int .i64 (n 3 : Nat), .int .i64 (n 4 : Nat), .int .i64 p]
/-- what the laws ask of the package's memory: 'HA w p n H F': at block p a memory of n cells, it is H; it lies in the blocks F -/
structure HeapK (HA : HAt) : Prop where
  lt : ∀ {w p n H F}, HA w p n H F → ∀ k, F k → k < w.heap.size
  keep : ∀ {w w' p n H F}, HA w p n H F → w.heap.size ≤ w'.heap.size → (∀ k, F k → w'.heap[k]? = w.heap[k]?) → HA w' p n H F
  inv : ∀ {w p n H F}, HA w p n H F → HInv n H
  alloc : ∀ {w p n H F} (cl f : Int), HA w p n H F → i64 cl → i64 f → Calls Try.prog 7 #[.pointer (some ⟨p, 0, none⟩), .int .i64 cl, .int .i64 f] w fun e w' => ∃ F', e = .returned (.int .i64 (alcI H cl f)) ∧ Left HA w w' p n (alcH H cl f) F F'
  get : ∀ {w p n H F} (i j : Int), HA w p n H F → i64 i → i64 j → Calls Try.prog 14 #[.pointer (some ⟨p, 0, none⟩), .int .i64 i, .int .i64 j] w fun e w' => ∃ F', e = .returned (.tuple #[.int .u32 (getV H i j), .bool (getB H i j)]) ∧ Left HA w w' p n H F F'
  put : ∀ {w p n H F} (i j x : Int), HA w p n H F → i64 i → i64 j → 0 ≤ x → x ≤ 4294967295 → Calls Try.prog 8 #[.pointer (some ⟨p, 0, none⟩), .int .i64 i, .int .i64 j, .int .u32 x] w fun e w' => ∃ F', e = .returned (.bool (putB H i j x)) ∧ Left HA w w' p n (putH H i j x) F F'
  cls : ∀ {w p n H F} (i : Int), HA w p n H F → i64 i → Calls Try.prog 15 #[.pointer (some ⟨p, 0, none⟩), .int .i64 i] w fun e w' => ∃ F', e = .returned (.int .i64 (clsI H i)) ∧ Left HA w w' p n H F F'
  fld : ∀ {w p n H F} (i : Int), HA w p n H F → i64 i → Calls Try.prog 16 #[.pointer (some ⟨p, 0, none⟩), .int .i64 i] w fun e w' => ∃ F', e = .returned (.int .i64 (fldI H i)) ∧ Left HA w w' p n H F F'
  col : ∀ {w p n H F} (i : Int), HA w p n H F → i64 i → Calls Try.prog 32 #[.pointer (some ⟨p, 0, none⟩), .int .i64 i] w fun e w' => ∃ F', e = .returned (.int .i64 (colI H i)) ∧ Left HA w w' p n H F F'
  swap : ∀ {w p n H F} (i j : Int), HA w p n H F → i64 i → i64 j → Calls Try.prog 9 #[.pointer (some ⟨p, 0, none⟩), .int .i64 i, .int .i64 j] w fun e w' => ∃ F', e = .returned (.bool (swapB H.T i j)) ∧ Left HA w w' p n (swapH H i j) F F'
  hold : ∀ {w p n H F u l}, HA w p n H F → SW w u l → (∀ x ∈ l, 0 ≤ x ∧ x ≤ 4294967295) → l.length ≤ 1000 → (∀ g, u.ownBlock = some g → ¬ F g) → Calls Try.prog 10 #[.pointer (some ⟨p, 0, none⟩), u] w fun e w' => ∃ F', e = .returned (.tuple #[]) ∧ Left HA w w' p n (holdH H l) F F'
  scan : ∀ {w p n H F} (x : Int), HA w p n H F → i64 x → Calls Try.prog 11 #[.pointer (some ⟨p, 0, none⟩), .int .i64 x] w fun e w' => ∃ F', e = .returned (.int .i64 (scanR H x).1) ∧ Left HA w w' p n (scanR H x).2 F F'
  done : ∀ {w p n H F}, HA w p n H F → Calls Try.prog 12 #[.pointer (some ⟨p, 0, none⟩)] w fun e w' => ∃ F', e = .returned (.bool (doneB H)) ∧ Left HA w w' p n H F F'
  flip : ∀ {w p n H F}, HA w p n H F → Calls Try.prog 13 #[.pointer (some ⟨p, 0, none⟩)] w fun e w' => ∃ F', e = .returned (.int .i64 (flpI H)) ∧ Left HA w w' p n (flpH H) F F'
  ids : ∀ {w p n H F}, HA w p n H F → Calls Try.prog 19 #[.pointer (some ⟨p, 0, none⟩)] w fun e w' => ∃ u F', e = .returned u ∧ SL w' 3 u (idsT H.T) ∧ (∀ g, u.ownBlock = some g → w.heap.size ≤ g ∧ ¬ F' g) ∧ Left HA w w' p n H F F'
  cost : ∀ {w p n H F}, HA w p n H F → Calls Try.prog 46 #[.pointer (some ⟨p, 0, none⟩)] w fun e w' => ∃ a F', e = .returned (.pointer (some a)) ∧ Left HA w w' p n H F F'
  new : ∀ {w} (n : Nat → Nat) (p : Int), (∀ s, s < 5 → n s ≤ 512) → 1 ≤ n 0 + (n 1 + (n 2 + (n 3 + n 4))) → n 0 + (n 1 + (n 2 + (n 3 + n 4))) ≤ 1020 → 1 ≤ p → p ≤ 16 → Calls Try.prog 6 #[cfgV n p] w fun e w' => ∃ q F, e = .returned (.pointer (some ⟨q, 0, none⟩)) ∧ HA w' q n (newH n) F ∧ (∀ k, F k → w.heap.size ≤ k) ∧ Below w.heap.size w w'
  none' : ∀ {w} (p : Int), i64 p → Calls Try.prog 6 #[cfgV (fun _ => 0) p] w fun e w' => e = .returned (.pointer .none) ∧ Below w.heap.size w w'
section
variable {HA : HAt} {w0 wr w1 : World} {p b : Nat} {n : Nat → Nat} {H H' G G' : Hst} {F F' D D' : Nat → Prop} {wE : World} {E : Nat → Prop}
end
theorem drewN_bel (w : World) (q : Nat) : Below w.heap.size w (w.drewN q) := ⟨rfl, rfl, rfl, Nat.le_refl _, fun _ _ => rfl⟩
section
variable {w : World} {b : Nat} {n : Nat → Nat} {H : Hst} {F : Nat → Prop}
end
/-- one that is there, mostly -/
def idL (L : List Int) (x : Int) : Int := if L.length = 0 ∨ x.tmod 7 = 0 then x.tmod 50 else (L[(within x 0 ((L.length : Int) - 1)).toNat]?).getD 0
def idH (H : Hst) (x : Int) : Int := idL (idsT H.T) x
def valH (H : Hst) (x : Int) : Int := if x.tmod 3 = 0 then intW (x.tmod 1000) else if x.tmod 3 = 1 then 2 else oopW (idH H x)
theorem valH_bd (H : Hst) (x : Int) : 0 ≤ valH H x ∧ valH H x ≤ 4294967295 := by
  unfold valH
  split
  · exact intW_bd _
  · split
    · omega
    · exact oopW_bd _
theorem idsT_len9 (T : Tst) : (idsT T).length ≤ 1024 := idsK_len T 1024
theorem idH_bd (H : Hst) (x : Int) : i64 (idH H x) := by
  unfold idH idL i64
  split
  · have h1 := Int.tmod_lt_of_pos x (show (0 : Int) < 50 by omega)
    have h2 : -50 < x.tmod 50 := by have := Int.tmod_lt_of_pos (-x) (show (0 : Int) < 50 by omega); rw [Int.neg_tmod] at this; omega
    omega
  · cases hx : (idsT H.T)[(within x 0 (((idsT H.T).length : Int) - 1)).toNat]? with
    | none => simp
    | some y =>
      obtain ⟨k, rfl, hk, _⟩ := idsT_mem (List.mem_of_getElem? hx)
      simp only [Option.getD_some]
      omega
theorem ret_i {a b : Int} (h : a = b) : Ending.returned (Value.int .i64 a) = .returned (.int .i64 b) := by rw [h]
end Wd
end Go.Proofs.Ytdaojohdmidemaa

/- What the laws ask of a memory, whoever keeps it: same. -/
namespace Go.Proofs.Ytdaojohdmidemaa
open Go.RowKit Go.Maps
set_option linter.unusedVariables false
namespace Wd
section
variable {HA : HAt} {w0 wr w1 : World} {p b : Nat} {n : Nat → Nat} {H H' G G' : Hst} {F F' D D' : Nat → Prop} {wE wB : World} {E E2 : Nat → Prop}
theorem fldI_bd {n : Nat → Nat} {H : Hst} (h : HInv n H) (i : Int) : -1 ≤ fldI H i ∧ fldI H i ≤ 62 := by
  have h6 := h.len62 i
  unfold fsI at h6
  unfold fldI
  split
  · rename_i hh
    rw [if_pos hh] at h6
    omega
  · omega
theorem clsI_no {H : Hst} {i : Int} (h : hasT H.T i = false) : clsI H i = -1 := by unfold clsI; rw [h]; rfl
theorem fldI_no {H : Hst} {i : Int} (h : hasT H.T i = false) : fldI H i = -1 := by unfold fldI; rw [h]; rfl
theorem colI_no {H : Hst} {i : Int} (h : hasT H.T i = false) : colI H i = -1 := by unfold colI; rw [h]; rfl
theorem has3 {n : Nat → Nat} {H : Hst} (h : HInv n H) : hasT H.T 3 = false := by
  cases hh : hasT H.T 3 with
  | false => rfl
  | true =>
    obtain ⟨k, p, e, h4, _⟩ := h.has hh
    omega
end
end Wd
end Go.Proofs.Ytdaojohdmidemaa

/- What the laws ask of a memory, whoever keeps it: play. -/
namespace Go.Proofs.Ytdaojohdmidemaa
open Go.RowKit Go.Maps
set_option linter.unusedVariables false
namespace Wd
/-- the asks, as a play reads them: in the world at hand and in any that only grew -/
def Asks (w0 : World) (ad : Option Addr) (len : Nat) : Prop := ∀ wr, Below w0.heap.size w0 wr → ∀ k, k < len → ∃ (g off : Nat) (x y z v : Int), ad = some ⟨g, off, none⟩ ∧ i64 x ∧ i64 y ∧ i64 z ∧ i64 v ∧
  wr.cell? ⟨g, off + k * 4, none⟩ = some (.int .i64 x) ∧ wr.cell? ⟨g, off + k * 4 + 1, none⟩ = some (.int .i64 y) ∧ wr.cell? ⟨g, off + k * 4 + 2, none⟩ = some (.int .i64 z) ∧ wr.cell? ⟨g, off + k * 4 + 3, none⟩ = some (.int .i64 v)
theorem sw_made (w : World) (L : List Int) (C : Array Value) (hC : C.toList = wrds L) (hl : L.length ≤ maxLen) : SW (w.alloc (.cells C 29)) (.slice (some ⟨w.heap.size, 0, none⟩) L.length L.length) L := by
  have hs : C.size = L.length := by rw [← Array.length_toList, hC]; simp [wrds]
  exact ⟨by simp [wrds], Or.inr ⟨w.heap.size, L.length, C, rfl, Nat.zero_le _, heap_alloc_new w _, Nat.le_refl _, hl, by simpa using hs, by rw [hC, Nat.mul_one]; unfold wrds; exact List.take_of_length_le (by simp)⟩⟩
def Box4 (w : World) (B : Nat) (x y z v : Int) : Prop := w.cell? ⟨B, 0, none⟩ = some (.int .i64 x) ∧ w.cell? ⟨B, 1, none⟩ = some (.int .i64 y) ∧ w.cell? ⟨B, 2, none⟩ = some (.int .i64 z) ∧ w.cell? ⟨B, 3, none⟩ = some (.int .i64 v)
theorem Box4.of {wA w1 : World} {B : Nat} {x y z v : Int} (h : Box4 wA B x y z v) (hk : w1.heap[B]? = wA.heap[B]?) : Box4 w1 B x y z v :=
  ⟨(World.cell?_of_block (a := ⟨B, 0, none⟩) hk).trans h.1, (World.cell?_of_block (a := ⟨B, 1, none⟩) hk).trans h.2.1, (World.cell?_of_block (a := ⟨B, 2, none⟩) hk).trans h.2.2.1, (World.cell?_of_block (a := ⟨B, 3, none⟩) hk).trans h.2.2.2⟩
theorem Box4.drew {wA : World} {B : Nat} {x y z v : Int} (h : Box4 wA B x y z v) : Box4 wA.drew B x y z v := h
end Wd
end Go.Proofs.Ytdaojohdmidemaa

/- What chapter 9's runs come to, plainly. -/
namespace Go.Proofs.Ytdaojohdmidemaa
open Go.RowKit Go.Maps
set_option linter.unusedVariables false
namespace Wd
theorem HInv.alc_at {n : Nat → Nat} {H : Hst} (h : HInv n H) {cl f : Int} {s k : Nat} {i : Int} {Rw : List Int} (c0 : 0 ≤ cl) (c1 : cl ≤ 4095) (hf : fo f = s) (hR : H.M s 0 = i :: Rw) (hk : freeR H.T = some k) (hs : s < 5) :
    alcI H cl f = k ∧ alcH H cl f = { T := updT H.T k (some ((s : Int), i)), M := upM H.M s (firstA (H.M s) 0 1), C := upC H.C ((s : Int), i) (cl, List.replicate f.toNat 2) } := by
  have hs' : (fo f).toNat = s := by omega
  have hb : alcB H cl f = true := by
    unfold alcB
    rw [hs', hR, decide_eq_true ⟨c0, c1⟩, decide_eq_true (show 0 ≤ fo f by omega)]
    rfl
  have ep : alcP H f = ((s : Int), i) := by unfold alcP firstR; rw [hs', hR, hf]
  have ho := h.miss hs (show i ∈ H.M s 0 by rw [hR]; simp)
  refine ⟨?_, ?_⟩
  · unfold alcI
    rw [if_pos hb, ep]
    unfold takeI
    rw [ho, hk]; rfl
  · unfold alcH
    rw [if_pos hb, ep, hs']
    unfold takeT
    rw [ho, hk]; rfl
def nK : Nat → Nat := fun s => if s = 0 then 2 else if s = 1 then 1 else 0
def K0 : Hst := newH nK
def K1 : Hst := { T := updT K0.T 4 (some (0, 0)), M := upM K0.M 0 (firstA (K0.M 0) 0 1), C := upC K0.C (0, 0) (3, List.replicate 2 2) }
def K2 : Hst := { T := updT K1.T 5 (some (0, 1)), M := upM K1.M 0 (firstA (K1.M 0) 0 1), C := upC K1.C (0, 1) (4, List.replicate 1 2) }
def K3 : Hst := { T := updT K2.T 6 (some (1, 0)), M := upM K2.M 1 (firstA (K2.M 1) 0 1), C := upC K2.C (1, 0) (2, List.replicate 6 2) }
def K4 : Hst := putH K3 4 1 12
def K5 : Hst := flpH K4
def K6 : Hst := holdH K5 [8]
def K8 : Hst := (scanR K6 1).2
def K9 : Hst := (scanR K8 99).2
def K10 : Hst := flpH K9
theorem i0 : HInv nK K0 := HInv.new nK (fun s hs => by unfold nK; split <;> (try split) <;> omega) (by decide)
theorem k1 : alcI K0 3 2 = 4 ∧ alcH K0 3 2 = K1 := i0.alc_at (s := 0) (k := 4) (i := 0) (Rw := [1]) (by omega) (by omega) (by decide) (by kernel_rfl) (by kernel_rfl) (by omega)
theorem i1 : HInv nK K1 := by rw [← k1.2]; exact i0.alc _ _
theorem k2 : alcI K1 4 1 = 5 ∧ alcH K1 4 1 = K2 := i1.alc_at (s := 0) (k := 5) (i := 1) (Rw := []) (by omega) (by omega) (by decide) (by kernel_rfl) (by kernel_rfl) (by omega)
theorem i2 : HInv nK K2 := by rw [← k2.2]; exact i1.alc _ _
theorem k3 : alcI K2 5 0 = -1 ∧ alcH K2 5 0 = K2 := by
  have hb : alcB K2 5 0 = false := by kernel_rfl
  exact ⟨by unfold alcI; rw [hb]; rfl, by unfold alcH; rw [hb]; rfl⟩
theorem k4 : alcI K2 2 6 = 6 ∧ alcH K2 2 6 = K3 := i2.alc_at (s := 1) (k := 6) (i := 0) (Rw := []) (by omega) (by omega) (by decide) (by kernel_rfl) (by kernel_rfl) (by omega)
theorem i3 : HInv nK K3 := by rw [← k4.2]; exact i2.alc _ _
theorem k5 : putB K3 4 1 12 = true := by kernel_rfl
theorem k6 : flpI K4 = 0 := by kernel_rfl
theorem k7 : flpI K6 = -1 ∧ flpH K6 = K6 := by
  have hd : doneB K6 = false := by kernel_rfl
  exact ⟨by unfold flpI; rw [hd]; rfl, by unfold flpH; rw [hd]; rfl⟩
theorem k8 : (scanR K6 1).1 = 4 := by kernel_rfl
theorem k9 : (scanR K8 99).1 = 8 := by kernel_rfl
theorem k10 : flpI K9 = 1 := by kernel_rfl
theorem k11 : getV K10 4 1 = 12 ∧ getB K10 4 1 = true := ⟨by kernel_rfl, by kernel_rfl⟩
theorem k12 : clsI K10 4 = 3 := by kernel_rfl
theorem k13 : clsI K10 5 = -1 := by kernel_rfl
theorem k14 : fldI K10 6 = 6 := by kernel_rfl
theorem k15 : idsT K10.T = [4, 6] := by kernel_rfl
theorem k16 : doneB K10 = true := by kernel_rfl
theorem k17 : colI K10 5 = -1 := by kernel_rfl
theorem k18 : putB K10 4 2 2 = false ∧ putH K10 4 2 2 = K10 := by
  have hb : putB K10 4 2 2 = false := by kernel_rfl
  exact ⟨hb, by unfold putH; rw [hb]; rfl⟩
theorem k19 : putB K10 4 0 0 = false ∧ putH K10 4 0 0 = K10 := by
  have hb : putB K10 4 0 0 = false := by kernel_rfl
  exact ⟨hb, by unfold putH; rw [hb]; rfl⟩
end Wd
end Go.Proofs.Ytdaojohdmidemaa

/- What the laws ask of a memory, whoever keeps it: the chapter's runs. -/
namespace Go.Proofs.Ytdaojohdmidemaa
open Go.RowKit Go.Maps
set_option linter.unusedVariables false
namespace Wd
/-- the package's memory, of the call's own -/
structure PH (HA : HAt) (w0 wr : World) (p : Nat) (n : Nat → Nat) (H : Hst) (F : Nat → Prop) : Prop where
  ha : HA wr p n H F
  bel : Below w0.heap.size w0 wr
  fF : ∀ k, F k → w0.heap.size ≤ k
section
variable {HA : HAt} {w0 wr w1 : World} {p : Nat} {n : Nat → Nat} {H H' : Hst} {F F' : Nat → Prop}
theorem PH.keep (K : HeapK HA) (h : PH HA w0 wr p n H F) (g : Below wr.heap.size wr w1) : PH HA w0 w1 p n H F :=
  ⟨K.keep h.ha g.size (fun k hk => g.block k (K.lt h.ha k hk)), h.bel.trans (g.mono h.bel.size), h.fF⟩
theorem PH.step (h : PH HA w0 wr p n H F) (l : Left HA wr w1 p n H' F F') : PH HA w0 w1 p n H' F' := by
  obtain ⟨l1, l2, l3⟩ := l
  refine ⟨l1, below_ch h.bel l2 h.fF, fun k hk => ?_⟩
  rcases l3 k hk with h1 | h1
  · exact h.fF k h1
  · exact Nat.le_trans h.bel.size h1
end
theorem sl_made (w : World) (L : List Int) (C : Array Value) (hC : C.toList = ints L) (hl : L.length ≤ maxLen) : SL (w.alloc (.cells C 3)) 3 (.slice (some ⟨w.heap.size, 0, none⟩) L.length L.length) L := by
  have hs : C.size = L.length := by rw [← Array.length_toList, hC]; simp [ints]
  exact ⟨by simp [ints], Or.inr ⟨w.heap.size, L.length, C, rfl, Nat.zero_le _, heap_alloc_new w _, Nat.le_refl _, hl, by simpa using hs, by rw [hC, Nat.mul_one]; unfold ints; exact List.take_of_length_le (by simp)⟩⟩
set_option maxHeartbeats 16000000 in
set_option maxRecDepth 20000 in
theorem known_c {HA : HAt} (K : HeapK HA) (w : World) :
    Calls Try.prog 17 #[] w fun e w' => e = .returned (.bool true) ∧ Below w.heap.size w w' := by
  have KN := Lib.hid (fun (wX : World) => K.new (w := wX) nK 1 (fun s hs => by unfold nK; split <;> (try split) <;> omega) (by decide) (by decide) (by omega) (by omega))
  have KZ := Lib.hid (fun (wX : World) => K.none' (w := wX) 0 (by unfold i64; omega))
  have eN : cfgV nK 1 = .agg #[.int .i64 2, .int .i64 1, .int .i64 0, .int .i64 0, .int .i64 0, .int .i64 1] := rfl
  have eZ : cfgV (fun _ => 0) 0 = .agg #[.int .i64 0, .int .i64 0, .int .i64 0, .int .i64 0, .int .i64 0, .int .i64 0] := rfl
  rw [eN] at KN
  rw [eZ] at KZ
  clear eN eZ
  go_enter Try.func17, Try.ntmps17
  go_wp2_with fail
  refine (KN.out _).mono ?_
  rintro e w1 ⟨p, F, rfl, hm, hF, hb⟩
  have hs : Hid (PH HA w w1 p nK K0 F) := Lib.hid ⟨hm, hb, hF⟩
  clear hm hF hb KN
  go_wp2_with fail
  refine (KZ.out _).mono ?_
  rintro e w2 ⟨rfl, hb⟩
  replace hs := Lib.hid (hs.out.keep K hb)
  clear hb KZ
  go_wp2_with fail
  have P := K.alloc 3 2 hs.out.ha (by unfold i64; omega) (by unfold i64; omega)
  rw [k1.1, k1.2] at P
  refine P.mono ?_
  clear P
  rintro e y3 ⟨G3, rfl, hL⟩
  replace hs := Lib.hid (hs.out.step hL)
  clear hL
  go_wp2_with fail
  have P := K.alloc 4 1 hs.out.ha (by unfold i64; omega) (by unfold i64; omega)
  rw [k2.1, k2.2] at P
  refine P.mono ?_
  clear P
  rintro e y4 ⟨G4, rfl, hL⟩
  replace hs := Lib.hid (hs.out.step hL)
  clear hL
  go_wp2_with fail
  have P := K.alloc 5 0 hs.out.ha (by unfold i64; omega) (by unfold i64; omega)
  rw [k3.1, k3.2] at P
  refine P.mono ?_
  clear P
  rintro e y5 ⟨G5, rfl, hL⟩
  replace hs := Lib.hid (hs.out.step hL)
  clear hL
  go_wp2_with fail
  have P := K.alloc 2 6 hs.out.ha (by unfold i64; omega) (by unfold i64; omega)
  rw [k4.1, k4.2] at P
  refine P.mono ?_
  clear P
  rintro e y6 ⟨G6, rfl, hL⟩
  replace hs := Lib.hid (hs.out.step hL)
  clear hL
  go_wp2_with fail
  have P := K.put 4 1 12 hs.out.ha (by unfold i64; omega) (by unfold i64; omega) (by omega) (by omega)
  rw [k5, show putH K3 4 1 12 = K4 from rfl] at P
  refine P.mono ?_
  clear P
  rintro e y7 ⟨G7, rfl, hL⟩
  replace hs := Lib.hid (hs.out.step hL)
  clear hL
  go_wp2_with fail
  have P := K.flip hs.out.ha
  rw [k6, show flpH K4 = K5 from rfl] at P
  refine P.mono ?_
  clear P
  rintro e y8 ⟨G8, rfl, hL⟩
  replace hs := Lib.hid (hs.out.step hL)
  clear hL
  have hrow : ∀ wX : World, SW (wX.alloc (.cells #[.int .u32 8] 29)) (.slice (some ⟨wX.heap.size, 0, none⟩) 1 1) [8] := fun wX => sw_made wX [8] _ rfl (by simp [maxLen])
  go_wp2_with fail
  have hlt := K.lt hs.out.ha
  replace hs := Lib.hid (hs.out.keep K ((Below.refl _ _).alloc (Nat.le_refl _) (.cells #[.int .u32 8] 29)))
  have P := K.hold hs.out.ha (hrow _) (by simp) (by simp) (fun g hg hF => by simp [Value.ownBlock] at hg; subst hg; exact Nat.lt_irrefl _ (hlt _ hF))
  rw [show holdH K5 [8] = K6 from rfl] at P
  refine P.mono ?_
  clear P
  rintro e y20 ⟨G20, rfl, hL⟩
  replace hs := Lib.hid (hs.out.step hL)
  clear hL hrow hlt
  go_wp2_with fail
  have P := K.flip hs.out.ha
  rw [k7.1, k7.2] at P
  refine P.mono ?_
  clear P
  rintro e y9 ⟨G9, rfl, hL⟩
  replace hs := Lib.hid (hs.out.step hL)
  clear hL
  go_wp2_with fail
  have P := K.scan 1 hs.out.ha (by unfold i64; omega)
  rw [k8, show (scanR K6 1).2 = K8 from rfl] at P
  refine P.mono ?_
  clear P
  rintro e y10 ⟨G10, rfl, hL⟩
  replace hs := Lib.hid (hs.out.step hL)
  clear hL
  go_wp2_with fail
  have P := K.scan 99 hs.out.ha (by unfold i64; omega)
  rw [k9, show (scanR K8 99).2 = K9 from rfl] at P
  refine P.mono ?_
  clear P
  rintro e y11 ⟨G11, rfl, hL⟩
  replace hs := Lib.hid (hs.out.step hL)
  clear hL
  go_wp2_with fail
  have P := K.flip hs.out.ha
  rw [k10, show flpH K9 = K10 from rfl] at P
  refine P.mono ?_
  clear P
  rintro e y12 ⟨G12, rfl, hL⟩
  replace hs := Lib.hid (hs.out.step hL)
  clear hL
  go_wp2_with fail
  have P := K.get 4 1 hs.out.ha (by unfold i64; omega) (by unfold i64; omega)
  rw [k11.1, k11.2] at P
  refine P.mono ?_
  clear P
  rintro e y13 ⟨G13, rfl, hL⟩
  replace hs := Lib.hid (hs.out.step hL)
  clear hL
  go_wp2_with fail
  have P := K.cls 4 hs.out.ha (by unfold i64; omega)
  rw [k12] at P
  refine P.mono ?_
  clear P
  rintro e y14 ⟨G14, rfl, hL⟩
  replace hs := Lib.hid (hs.out.step hL)
  clear hL
  go_wp2_with fail
  have P := K.cls 5 hs.out.ha (by unfold i64; omega)
  rw [k13] at P
  refine P.mono ?_
  clear P
  rintro e y15 ⟨G15, rfl, hL⟩
  replace hs := Lib.hid (hs.out.step hL)
  clear hL
  go_wp2_with fail
  have P := K.fld 6 hs.out.ha (by unfold i64; omega)
  rw [k14] at P
  refine P.mono ?_
  clear P
  rintro e y16 ⟨G16, rfl, hL⟩
  replace hs := Lib.hid (hs.out.step hL)
  clear hL
  go_wp2_with fail
  refine (K.ids hs.out.ha).mono ?_
  rintro e y40 ⟨u, G40, rfl, hu, hfu, hL⟩
  rw [k15] at hu
  replace hs := Lib.hid (hs.out.step hL)
  clear hL hfu
  have hu2 := SL.keep hu ((Below.refl _ _).alloc (Nat.le_refl _) (.cells #[.int .i64 4, .int .i64 6] 3))
  have S1 := Lib.hid (same_ints [4, 6] [4, 6] u (.slice (some ⟨y40.heap.size, 0, none⟩) 2 2) _ hu2 (sl_made y40 [4, 6] #[.int .i64 4, .int .i64 6] rfl (by simp [maxLen])) (by simp) (by simp))
  replace hs := Lib.hid (hs.out.keep K ((Below.refl _ _).alloc (Nat.le_refl _) (.cells #[.int .i64 4, .int .i64 6] 3)))
  clear hu hu2
  go_wp2_with fail
  refine S1.out.mono ?_
  rintro e y41 ⟨he, q, hw3⟩
  replace he : e = .returned (.bool true) := by rw [he]; simp
  subst he hw3
  replace hs := Lib.hid (hs.out.keep K (drewN_bel _ q))
  clear S1
  go_wp2_with fail
  have P := K.done hs.out.ha
  rw [k16] at P
  refine P.mono ?_
  clear P
  rintro e y17 ⟨G17, rfl, hL⟩
  replace hs := Lib.hid (hs.out.step hL)
  clear hL
  go_wp2_with fail
  refine (K.cost hs.out.ha).mono ?_
  rintro e y42 ⟨a42, G42, rfl, hL⟩
  replace hs := Lib.hid (hs.out.step hL)
  clear hL
  go_wp2_with fail
  have P := K.col 5 hs.out.ha (by unfold i64; omega)
  rw [k17] at P
  refine P.mono ?_
  clear P
  rintro e y18 ⟨G18, rfl, hL⟩
  replace hs := Lib.hid (hs.out.step hL)
  clear hL
  go_wp2_with fail
  have P := K.put 4 2 2 hs.out.ha (by unfold i64; omega) (by unfold i64; omega) (by omega) (by omega)
  rw [k18.1, k18.2] at P
  refine P.mono ?_
  clear P
  rintro e y19 ⟨G19, rfl, hL⟩
  replace hs := Lib.hid (hs.out.step hL)
  clear hL
  go_wp2_with fail
  have P := K.put 4 0 0 hs.out.ha (by unfold i64; omega) (by unfold i64; omega) (by omega) (by omega)
  rw [k19.1, k19.2] at P
  refine P.mono ?_
  clear P
  rintro e y20 ⟨G20, rfl, hL⟩
  replace hs := Lib.hid (hs.out.step hL)
  clear hL
  go_wp2
  go_ret
  exact ⟨rfl, hs.out.bel⟩
end Wd
end Go.Proofs.Ytdaojohdmidemaa

/- What two identities lead to, plainly: put, swapped. -/
namespace Go.Proofs.Ytdaojohdmidemaa
open Go.RowKit Go.Maps
set_option linter.unusedVariables false
namespace Wd
section
variable {n : Nat → Nat} {H : Hst}
theorem upC_same {C : Pl → Int × List Int} {p : Pl} {x : Int × List Int} : upC C p x p = x := by unfold upC; rw [if_pos rfl]
theorem upC_ne {C : Pl → Int × List Int} {p q : Pl} {x : Int × List Int} (h : q ≠ p) : upC C p x q = C q := by unfold upC; rw [if_neg h]
theorem shI_T {i : Int} : (shI H i).T = H.T := by unfold shI sh; split <;> rfl
theorem shW_T {x : Int} : (shW H x).T = H.T := by unfold shW; split; exact shI_T; rfl
theorem holdH_T {l : List Int} : ∀ {H : Hst}, (holdH H l).T = H.T := by
  unfold holdH
  induction l with
  | nil => intro H; rfl
  | cons x l ih => intro H; rw [List.foldl_cons, ih, shW_T]
theorem swapH_T {a b : Int} : (swapH H a b).T = swapT H.T a b := by
  unfold swapH
  by_cases h : swapB H.T a b = true
  · rw [if_pos h]
    split
    · rw [shI_T, shI_T]; rfl
    · rfl
  · rw [if_neg h]
    unfold swapT
    rw [if_neg h]
theorem swapH_C {a b : Int} : (swapH H a b).C = H.C := by
  unfold swapH
  split
  · split
    · rw [shI_C, shI_C]; rfl
    · rfl
  · rfl
theorem odd_no {x : Int} (h : x % 2 = 1) : isOp x = false := by unfold isOp; simp; omega
theorem shW_odd {x : Int} (h : x % 2 = 1) : shW H x = H := by unfold shW; rw [odd_no h]; rfl
/-- an identity that leads to a cell -/
theorem at_id {k : Nat} {P : Pl} (hk : k < 1024) (h : H.T k = some P) : hasT H.T (k : Int) = true ∧ atP H.T (k : Int) = P ∧ clsI H k = (H.C P).1 ∧ fldI H k = (H.C P).2.length ∧ fsI H k = (H.C P).2 := by
  obtain ⟨h1, h2⟩ := atP_at h hk
  refine ⟨h2, h1, ?_, ?_, ?_⟩
  · unfold clsI; rw [if_pos h2, h1]
  · unfold fldI; rw [if_pos h2, h1]
  · unfold fsI; rw [if_pos h2, h1]
theorem put_odd {k : Nat} {P : Pl} {j : Nat} {x : Int} (hk : k < 1024) (h : H.T k = some P) (hj : j < (H.C P).2.length) (h0 : 0 < x) (hx : x % 2 = 1) :
    putB H k j x = true ∧ putH H k j x = { H with C := upC H.C P ((H.C P).1, (H.C P).2.set j x) } := by
  obtain ⟨a1, a2, a3, a4, a5⟩ := at_id hk h
  have hb : putB H k j x = true := by
    unfold putB
    rw [a5, decide_eq_true ⟨by omega, by omega⟩, decide_eq_true (by omega)]; rfl
  have e : putC H k j x = { H with C := upC H.C P ((H.C P).1, (H.C P).2.set j x) } := by unfold putC; rw [a2, a5]; simp
  refine ⟨hb, ?_⟩
  unfold putH
  rw [if_pos hb, shW_odd hx, e]
  split <;> rfl
/-- the identities 4 and 5 and what they lead to -/
structure TC2 (H : Hst) (P Q : Pl) (a b : Int × List Int) : Prop where
  t4 : H.T 4 = some P
  t5 : H.T 5 = some Q
  ne : P ≠ Q
  cp : H.C P = a
  cq : H.C Q = b
  t9 : H.T 99 = none
variable {P Q : Pl} {a b : Int × List Int}
theorem TC2.put4 (h : TC2 H P Q a b) {x : Int} (hl : 0 < a.2.length) (h0 : 0 < x) (hx : x % 2 = 1) : putB H 4 0 x = true ∧ TC2 (putH H 4 0 x) P Q (a.1, a.2.set 0 x) b := by
  obtain ⟨e1, e2⟩ := put_odd (k := 4) (j := 0) (by omega) h.t4 (by rw [h.cp]; exact hl) h0 hx
  refine ⟨e1, ?_⟩
  have e2' : putH H 4 0 x = { H with C := upC H.C P ((H.C P).1, (H.C P).2.set 0 x) } := e2
  rw [e2']
  exact ⟨h.t4, h.t5, h.ne, by show upC H.C P _ P = _; rw [upC_same, h.cp], by show upC H.C P _ Q = _; rw [upC_ne (fun e => h.ne e.symm)]; exact h.cq, h.t9⟩
theorem TC2.put5 (h : TC2 H P Q a b) {x : Int} (hl : 0 < b.2.length) (h0 : 0 < x) (hx : x % 2 = 1) : putB H 5 0 x = true ∧ TC2 (putH H 5 0 x) P Q a (b.1, b.2.set 0 x) := by
  obtain ⟨e1, e2⟩ := put_odd (k := 5) (j := 0) (by omega) h.t5 (by rw [h.cq]; exact hl) h0 hx
  refine ⟨e1, ?_⟩
  have e2' : putH H 5 0 x = { H with C := upC H.C Q ((H.C Q).1, (H.C Q).2.set 0 x) } := e2
  rw [e2']
  exact ⟨h.t4, h.t5, h.ne, by show upC H.C Q _ P = _; rw [upC_ne h.ne]; exact h.cp, by show upC H.C Q _ Q = _; rw [upC_same, h.cq], h.t9⟩
theorem swapB_at {T : Tst} {x y : Nat} {p q : Pl} (hx : T x = some p) (hy : T y = some q) (h1 : x < 1024) (h2 : y < 1024) : swapB T x y = true := (swapT_at hx hy h1 h2).1
theorem TC2.swap45 (h : TC2 H P Q a b) : swapB H.T 4 5 = true ∧ TC2 (swapH H 4 5) Q P b a := by
  obtain ⟨e1, e2⟩ := swapT_at (x := 4) (y := 5) h.t4 h.t5 (by omega) (by omega)
  have e2' : swapT H.T 4 5 = updT (updT H.T 4 (some Q)) 5 (some P) := e2
  refine ⟨e1, ?_⟩
  refine ⟨?_, ?_, fun e => h.ne e.symm, by rw [swapH_C]; exact h.cq, by rw [swapH_C]; exact h.cp, ?_⟩ <;> rw [swapH_T, e2'] <;> simp [updT, h.t9]
theorem TC2.swap54 (h : TC2 H P Q a b) : swapB H.T 5 4 = true ∧ TC2 (swapH H 5 4) Q P b a := by
  obtain ⟨e1, e2⟩ := swapT_at (x := 5) (y := 4) h.t5 h.t4 (by omega) (by omega)
  have e2' : swapT H.T 5 4 = updT (updT H.T 5 (some P)) 4 (some Q) := e2
  refine ⟨e1, ?_⟩
  refine ⟨?_, ?_, fun e => h.ne e.symm, by rw [swapH_C]; exact h.cq, by rw [swapH_C]; exact h.cp, ?_⟩ <;> rw [swapH_T, e2'] <;> simp [updT, h.t9]
theorem TC2.swap44 (h : TC2 H P Q a b) : swapB H.T 4 4 = true ∧ TC2 (swapH H 4 4) P Q a b := by
  obtain ⟨e1, e2⟩ := swapT_at (x := 4) (y := 4) h.t4 h.t4 (by omega) (by omega)
  have e2' : swapT H.T 4 4 = updT (updT H.T 4 (some P)) 4 (some P) := e2
  refine ⟨e1, ?_⟩
  refine ⟨?_, ?_, h.ne, by rw [swapH_C]; exact h.cp, by rw [swapH_C]; exact h.cq, ?_⟩ <;> rw [swapH_T, e2'] <;> simp [updT, h.t9, h.t5]
theorem TC2.swap9 (h : TC2 H P Q a b) : swapB H.T 4 99 = false ∧ swapH H 4 99 = H := by
  have h9 : hasT H.T 99 = false := by
    have : hasT H.T ((99 : Nat) : Int) = false := by rw [hasT_in (by omega)]; unfold inR; rw [h.t9]; rfl
    exact this
  have e : swapB H.T 4 99 = false := by unfold swapB; rw [h9]; simp
  exact ⟨e, by unfold swapH; rw [e]; rfl⟩
theorem TC2.v4 (h : TC2 H P Q a b) : clsI H 4 = a.1 ∧ fldI H 4 = a.2.length ∧ fsI H 4 = a.2 := by
  obtain ⟨_, _, e3, e4, e5⟩ := at_id (k := 4) (by omega) h.t4
  rw [h.cp] at e3 e4 e5
  exact ⟨e3, e4, e5⟩
theorem TC2.v5 (h : TC2 H P Q a b) : clsI H 5 = b.1 ∧ fldI H 5 = b.2.length ∧ fsI H 5 = b.2 := by
  obtain ⟨_, _, e3, e4, e5⟩ := at_id (k := 5) (by omega) h.t5
  rw [h.cq] at e3 e4 e5
  exact ⟨e3, e4, e5⟩
theorem get_0 {i : Int} {y : Int} {t : List Int} (h : fsI H i = y :: t) : getV H i 0 = y ∧ getB H i 0 = true := by
  unfold getV getB
  rw [h]
  simp
end
def nS : Nat → Nat := fun s => if s < 5 then 4 else 0
theorem row_of (m s : Nat) : (newH (fun _ => m)).M s 0 = rng m := by
  show startA _ 0 = _
  unfold startA upA
  rw [if_pos rfl]
theorem fo_pos {x : Int} (h0 : 0 ≤ x) (h1 : x ≤ 62) : ∃ s : Nat, s < 5 ∧ fo x = s := by
  rcases fo_cases x with ⟨h, e⟩ | ⟨h1, h2, e⟩ | ⟨h1, h2, e⟩ | ⟨h1, h2, e⟩ | ⟨h1, h2, e⟩ | ⟨h1, h2, e⟩
  · omega
  · exact ⟨0, by omega, e⟩
  · exact ⟨1, by omega, e⟩
  · exact ⟨2, by omega, e⟩
  · exact ⟨3, by omega, e⟩
  · exact ⟨4, by omega, e⟩
theorem free5 (p : Pl) : freeR (updT noT 4 (some p)) = some 5 := by
  unfold freeR
  refine firstIn_hit (by omega) (by omega) (fun j h1 h2 => ?_) ?_
  · have : j = 4 := by omega
    subst this
    simp [updT]
  · simp [updT, noT]
/-- two objects in a memory of four cells of each size -/
theorem two_made {n : Nat → Nat} (hi : HInv n (newH n)) (hn : ∀ s, s < 5 → n s = 4) {x y : Nat} (hx1 : x ≤ 62) (hy1 : y ≤ 62) :
    alcI (newH n) 7 x = 4 ∧ alcI (alcH (newH n) 7 x) 8 y = 5 ∧ ∃ P Q, TC2 (alcH (alcH (newH n) 7 x) 8 y) P Q (7, List.replicate x 2) (8, List.replicate y 2) := by
  obtain ⟨s, hs, es⟩ := fo_pos (x := (x : Int)) (by omega) (by omega)
  obtain ⟨t, ht, et⟩ := fo_pos (x := (y : Int)) (by omega) (by omega)
  have r0 : ∀ s, s < 5 → (newH n).M s 0 = [0, 1, 2, 3] := fun s hs => by
    show startA (n s) 0 = _
    rw [hn s hs]; rfl
  obtain ⟨a1, a2⟩ := hi.alc_at (cl := 7) (f := (x : Int)) (s := s) (k := 4) (i := 0) (Rw := [1, 2, 3]) (by omega) (by omega) es (r0 s hs) (by kernel_rfl) hs
  have i1 := hi.alc 7 x
  have fr : freeR (alcH (newH n) 7 x).T = some 5 := by rw [a2]; exact free5 _
  by_cases e : t = s
  · have r1 : (alcH (newH n) 7 x).M t 0 = [1, 2, 3] := by
      rw [a2]
      show upM _ s _ t 0 = _
      unfold upM
      rw [if_pos e]
      unfold firstA
      rw [r0 s hs]; rfl
    obtain ⟨b1, b2⟩ := i1.alc_at (cl := 8) (f := (y : Int)) (s := t) (k := 5) (i := 1) (Rw := [2, 3]) (by omega) (by omega) et r1 fr ht
    refine ⟨a1, b1, ((s : Int), 0), ((t : Int), 1), ?_⟩
    rw [b2, a2]
    refine ⟨?_, ?_, ?_, ?_, ?_, ?_⟩
    · simp [updT]
    · simp [updT]
    · intro h; have := congrArg Prod.snd h; simp at this
    · show upC (upC (newH n).C ((s : Int), 0) (7, List.replicate (x : Int).toNat 2)) ((t : Int), 1) (8, List.replicate (y : Int).toNat 2) ((s : Int), 0) = _
      rw [upC_ne (by intro h; have := congrArg Prod.snd h; simp at this), upC_same]; simp
    · show upC (upC (newH n).C ((s : Int), 0) (7, List.replicate (x : Int).toNat 2)) ((t : Int), 1) (8, List.replicate (y : Int).toNat 2) ((t : Int), 1) = _
      rw [upC_same]; simp
    · simp [updT, newH, noT]
  · have r1 : (alcH (newH n) 7 x).M t 0 = [0, 1, 2, 3] := by
      rw [a2]
      show upM _ s _ t 0 = _
      unfold upM
      rw [if_neg e]
      exact r0 t ht
    obtain ⟨b1, b2⟩ := i1.alc_at (cl := 8) (f := (y : Int)) (s := t) (k := 5) (i := 0) (Rw := [1, 2, 3]) (by omega) (by omega) et r1 fr ht
    have hne : ((s : Int), (0 : Int)) ≠ ((t : Int), (0 : Int)) := by intro h; have := congrArg Prod.fst h; simp at this; omega
    refine ⟨a1, b1, ((s : Int), 0), ((t : Int), 0), ?_⟩
    rw [b2, a2]
    refine ⟨?_, ?_, hne, ?_, ?_, ?_⟩
    · simp [updT]
    · simp [updT]
    · show upC (upC (newH n).C ((s : Int), 0) (7, List.replicate (x : Int).toNat 2)) ((t : Int), 0) (8, List.replicate (y : Int).toNat 2) ((s : Int), 0) = _
      rw [upC_ne hne, upC_same]; simp
    · show upC (upC (newH n).C ((s : Int), 0) (7, List.replicate (x : Int).toNat 2)) ((t : Int), 0) (8, List.replicate (y : Int).toNat 2) ((t : Int), 0) = _
      rw [upC_same]; simp
    · simp [updT, newH, noT]
theorem wor_odd {a : Int} (h0 : 0 ≤ a) (h1 : a ≤ 4294967295) : 0 < bits .or .u32 a 1 ∧ bits .or .u32 a 1 ≤ 4294967295 ∧ bits .or .u32 a 1 % 2 = 1 := by
  have e := u32_or a 1 h0 (by omega) (by decide) (by decide)
  have hb : (a.toNat ||| 1) < 2 ^ 32 := Nat.or_lt_two_pow (by omega) (by decide)
  have ho : (a.toNat ||| 1) % 2 = 1 := by
    rw [Nat.mod_two_eq_one_iff_testBit_zero]
    simp
  rw [e, show (1 : Int).toNat = 1 from rfl]
  omega
end Wd
end Go.Proofs.Ytdaojohdmidemaa

/- What is forgotten, plainly. -/
namespace Go.Proofs.Ytdaojohdmidemaa
open Go.RowKit Go.Maps
set_option linter.unusedVariables false
namespace Wd
/-- j cells of size s are Black, all others Free -/
structure FS (n : Nat → Nat) (H : Hst) (s j : Nat) : Prop where
  inv : HInv n H
  b1 : (H.M s 1).length = j
  o1 : ∀ t, t < 5 → t ≠ s → H.M t 1 = []
  e2 : ∀ t, t < 5 → H.M t 2 = []
  e3 : ∀ t, t < 5 → H.M t 3 = []
/-- j cells of size s are Ecru, all others Free -/
structure FS3 (n : Nat → Nat) (H : Hst) (s j : Nat) : Prop where
  inv : HInv n H
  b3 : (H.M s 3).length = j
  o3 : ∀ t, t < 5 → t ≠ s → H.M t 3 = []
  e1 : ∀ t, t < 5 → H.M t 1 = []
  e2 : ∀ t, t < 5 → H.M t 2 = []
section
variable {n : Nat → Nat} {H : Hst} {s j : Nat}
theorem FS.done (h : FS n H s j) : doneB H = true := by
  unfold doneB
  rw [all_step]
  intro t ht
  rw [h.e2 t ht]; rfl
theorem FS3.done (h : FS3 n H s j) : doneB H = true := by
  unfold doneB
  rw [all_step]
  intro t ht
  rw [h.e2 t ht]; rfl
theorem FS.alloc (h : FS n H s j) (hs : s < 5) (hn : n s = 16) (hj : j < 16) {cl f : Int} (c0 : 0 ≤ cl) (c1 : cl ≤ 4095) (hf : fo f = s) : 0 ≤ alcI H cl f ∧ FS n (alcH H cl f) s (j + 1) := by
  have hl := good_len (h.inv.good s hs)
  rw [h.b1, h.e2 s hs, h.e3 s hs, hn] at hl
  simp only [List.length_nil] at hl
  cases hR : H.M s 0 with
  | nil => rw [hR] at hl; simp at hl; omega
  | cons i R =>
    have hs' : (fo f).toNat = s := by omega
    have hb : alcB H cl f = true := by
      unfold alcB
      rw [hs', hR, decide_eq_true ⟨c0, c1⟩, decide_eq_true (show 0 ≤ fo f by omega)]
      rfl
    obtain ⟨s2, k, i2, R2, a1, a2, a3, a4, a5, a6, a7, a8, a9, a10, a11, a12⟩ := h.inv.alc_of hb
    have es : s2 = s := by omega
    subst es
    refine ⟨by omega, h.inv.alc cl f, ?_, fun t ht hts => ?_, fun t ht => ?_, fun t ht => ?_⟩ <;> rw [a12]
    · show (upM H.M s2 _ s2 1).length = _
      unfold upM
      rw [if_pos rfl]
      unfold firstA
      rw [a6]
      simp [upA, h.b1]
    · show upM H.M s2 _ t 1 = _
      unfold upM
      rw [if_neg hts]
      exact h.o1 t ht hts
    · show upM H.M s2 _ t 2 = _
      unfold upM
      split
      · rename_i e; subst e
        unfold firstA
        rw [a6]
        simp [upA, h.e2 t ht]
      · exact h.e2 t ht
    · show upM H.M s2 _ t 3 = _
      unfold upM
      split
      · rename_i e; subst e
        unfold firstA
        rw [a6]
        simp [upA, h.e3 t ht]
      · exact h.e3 t ht
theorem flipL_nil {H : Hst} (h : ∀ t, t < 5 → H.M t 3 = []) : ∀ k, k ≤ 5 → flipL H k = [] := by
  intro k hk
  induction k with
  | zero => rfl
  | succ k ih =>
    rw [flipL_succ, ih (by omega)]
    unfold flipS flipR
    rw [h k (by omega)]
    split <;> rfl
theorem FS.flip (h : FS n H s j) (hs : s < 5) : flpI H = 0 ∧ FS3 n (flpH H) s j := by
  have hd := h.done
  refine ⟨?_, h.inv.flp, ?_, fun t ht hts => ?_, fun t ht => ?_, fun t ht => ?_⟩
  · unfold flpI flpX
    rw [if_pos hd, flipL_nil h.e3 5 (by omega)]; rfl
  · rw [flpH_M hd hs]; simp [upA, h.b1]
  · rw [flpH_M hd ht]; simp [upA, h.o1 t ht hts]
  · rw [flpH_M hd ht]; simp [upA]
  · rw [flpH_M hd ht]; simp [upA, h.e2 t ht]
theorem flipL_one {H : Hst} {s : Nat} (hs : s < 5) (hd : doneB H = true) (h : ∀ t, t < 5 → t ≠ s → H.M t 3 = []) : flipL H 5 = (H.M s 3).map (fun c => ((s : Int), c)) := by
  have hS : ∀ t, t < 5 → flipS H t = (H.M t 3).map (fun c => ((t : Int), c)) := fun t ht => by
    unfold flipS flipR
    rw [if_pos (done_of hd t ht)]
  have e : flipL H 5 = flipS H 0 ++ (flipS H 1 ++ (flipS H 2 ++ (flipS H 3 ++ flipS H 4))) := by
    rw [flipL_succ, flipL_succ, flipL_succ, flipL_succ, flipL_succ]
    simp [flipL]
  rw [e, hS 0 (by omega), hS 1 (by omega), hS 2 (by omega), hS 3 (by omega), hS 4 (by omega)]
  rcases (show s = 0 ∨ s = 1 ∨ s = 2 ∨ s = 3 ∨ s = 4 by omega) with rfl | rfl | rfl | rfl | rfl
  · rw [h 1 (by omega) (by omega), h 2 (by omega) (by omega), h 3 (by omega) (by omega), h 4 (by omega) (by omega)]; simp
  · rw [h 0 (by omega) (by omega), h 2 (by omega) (by omega), h 3 (by omega) (by omega), h 4 (by omega) (by omega)]; simp
  · rw [h 0 (by omega) (by omega), h 1 (by omega) (by omega), h 3 (by omega) (by omega), h 4 (by omega) (by omega)]; simp
  · rw [h 0 (by omega) (by omega), h 1 (by omega) (by omega), h 2 (by omega) (by omega), h 4 (by omega) (by omega)]; simp
  · rw [h 0 (by omega) (by omega), h 1 (by omega) (by omega), h 2 (by omega) (by omega), h 3 (by omega) (by omega)]; simp
theorem ids_none {T : Tst} (h : ∀ k, T k = none) : idsT T = [] := by
  unfold idsT
  rw [List.filter_eq_nil_iff.2 (fun k _ => by rw [h k]; simp)]
  rfl
theorem FS3.flip (h : FS3 n H s j) (hs : s < 5) : flpI H = j ∧ FS n (flpH H) s 0 ∧ idsT (flpH H).T = [] := by
  have hd := h.done
  have hi := h.inv.flp
  have r1 : ∀ t, t < 5 → (flpH H).M t 1 = [] := fun t ht => by rw [flpH_M hd ht]; simp [upA]
  have r2 : ∀ t, t < 5 → (flpH H).M t 2 = [] := fun t ht => by rw [flpH_M hd ht]; simp [upA, h.e2 t ht]
  have r3 : ∀ t, t < 5 → (flpH H).M t 3 = [] := fun t ht => by rw [flpH_M hd ht]; simp [upA, h.e1 t ht]
  refine ⟨?_, ⟨hi, by rw [r1 s hs]; rfl, fun t ht _ => r1 t ht, r2, r3⟩, ids_none fun k => ?_⟩
  · unfold flpI flpX
    rw [if_pos hd, flipL_one hs hd h.o3]
    have hn3 := nd3 (h.inv.good s hs)
    rw [fold_count h.inv.inv 0 (nodup_map_on _ hn3 (fun a _ b _ e => by have := congrArg Prod.snd e; exact this)) (fun p hp => ?_)]
    · simp [h.b3]
    · obtain ⟨c, hc, rfl⟩ := List.mem_map.1 hp
      have hin := (good_mem (h.inv.good s hs)).1 (show c ∈ LL (H.M s) by unfold LL; simp [hc])
      exact h.inv.full s c hs hin.1 hin.2 (fun h0 => by have := good_apart (h.inv.good s hs) (x := 0) (y := 3) (by omega) (by omega) h0 hc; omega)
  · cases hT : (flpH H).T k with
    | none => rfl
    | some p =>
      exfalso
      obtain ⟨t, t1, t2, t3, t4, t5⟩ := hi.pl k p hT
      have hm := (good_mem (hi.good t t1)).2 ⟨t3, t4⟩
      unfold LL at hm
      rw [r1 t t1, r2 t t1, r3 t t1] at hm
      simp at hm
      exact t5 hm
end
end Wd
end Go.Proofs.Ytdaojohdmidemaa

/- One object that is held, plainly: what is put is there, whatever is made, put, swapped back, scanned, given back. -/
namespace Go.Proofs.Ytdaojohdmidemaa
open Go.RowKit Go.Maps
set_option linter.unusedVariables false
namespace Wd
/-- the identity 4 leads to P, of the class 5, its fields are L -/
structure Q4 (n : Nat → Nat) (H : Hst) (P : Pl) (L : List Int) : Prop where
  inv : HInv n H
  t : H.T 4 = some P
  c : H.C P = (5, L)
section
variable {n : Nat → Nat} {H : Hst} {P : Pl} {L : List Int}
theorem Q4.put (h : Q4 n H P L) {j : Nat} {x : Int} (hj : j < L.length) (h0 : 0 < x) (h1 : x ≤ 4294967295) (hx : x % 2 = 1) : putB H 4 j x = true ∧ Q4 n (putH H 4 j x) P (L.set j x) := by
  obtain ⟨e1, e2⟩ := put_odd (k := 4) (j := j) (x := x) (by omega) h.t (by rw [h.c]; exact hj) h0 hx
  have e2' : putH H 4 j x = { H with C := upC H.C P ((H.C P).1, (H.C P).2.set j x) } := e2
  refine ⟨e1, h.inv.put 4 j x (by omega), ?_, ?_⟩
  · rw [e2']; exact h.t
  · rw [e2']
    show upC H.C P _ P = _
    rw [upC_same, h.c]
theorem Q4.alloc (h : Q4 n H P L) (cl f : Int) : Q4 n (alcH H cl f) P L ∧ (alcI H cl f = -1 ∨ ∃ k : Nat, alcI H cl f = k ∧ 4 ≤ k ∧ k < 1024 ∧ k ≠ 4 ∧ ∃ Q, (alcH H cl f).T k = some Q) := by
  cases hb : alcB H cl f with
  | false =>
    have e1 : alcI H cl f = -1 := by unfold alcI; rw [hb]; rfl
    have e2 : alcH H cl f = H := by unfold alcH; rw [hb]; rfl
    rw [e1, e2]
    exact ⟨h, Or.inl rfl⟩
  | true =>
    obtain ⟨s, k, i, R, a1, a2, a3, a4, a5, a6, a7, a8, a9, a10, a11, a12⟩ := h.inv.alc_of hb
    have hk4 : k ≠ 4 := fun e => by subst e; rw [h.t] at a9; cases a9
    have hP : P ≠ ((s : Int), i) := fun e => by
      have hm := h.inv.miss (s := s) (i := i) a1 (by rw [a6]; simp)
      have := ofR_none h.inv.inv hm 4
      rw [h.t, e] at this
      exact this rfl
    refine ⟨⟨h.inv.alc cl f, ?_, ?_⟩, Or.inr ⟨k, a11, a7, a8, hk4, ((s : Int), i), ?_⟩⟩ <;> rw [a12]
    · show updT H.T k _ 4 = _
      unfold updT
      rw [if_neg (fun e => hk4 e.symm)]
      exact h.t
    · show upC H.C _ _ P = _
      rw [upC_ne hP]
      exact h.c
    · show updT H.T k _ k = _
      exact updT_self _
theorem Q4.swaps (h : Q4 n H P L) {k : Nat} (hk : k < 1024) (hk4 : k ≠ 4) {Q : Pl} (hQ : H.T k = some Q) : swapB H.T 4 k = true ∧ swapB (swapH H 4 k).T k 4 = true ∧ Q4 n (swapH (swapH H 4 k) k 4) P L := by
  obtain ⟨e1, e2⟩ := swapT_at (x := 4) (y := k) h.t hQ (by omega) hk
  have e2' : swapT H.T 4 k = updT (updT H.T 4 (some Q)) k (some P) := e2
  have t1 : (swapH H 4 k).T k = some P := by rw [swapH_T, e2']; simp [updT]
  have t2 : (swapH H 4 k).T 4 = some Q := by rw [swapH_T, e2']; simp only [updT]; rw [if_neg (fun e => hk4 e.symm)]; simp
  obtain ⟨e3, e4⟩ := swapT_at (x := k) (y := 4) t1 t2 hk (by omega)
  have e4' : swapT (swapH H 4 k).T k 4 = updT (updT (swapH H 4 k).T k (some Q)) 4 (some P) := e4
  refine ⟨e1, e3, (h.inv.swap 4 k).swap k 4, ?_, ?_⟩
  · rw [swapH_T, e4']; simp [updT]
  · rw [swapH_C, swapH_C]; exact h.c
theorem Q4.hold (h : Q4 n H P L) (l : List Int) : Q4 n (holdH H l) P L := ⟨h.inv.hold l, by rw [holdH_T]; exact h.t, by rw [holdH_C]; exact h.c⟩
theorem scanN_TC : ∀ (k : Nat) (w d : Int) (H : Hst), (scanN k w d H).2.T = H.T ∧ (scanN k w d H).2.C = H.C
  | 0, _, _, _ => ⟨rfl, rfl⟩
  | k + 1, w, d, H => by
    unfold scanN
    split
    · split
      · rename_i s _
        obtain ⟨h1, h2⟩ := scanN_TC k w (d + wd s) (scan1 H s)
        rw [h1, h2]
        unfold scan1
        rw [holdH_T, holdH_C]
        exact ⟨rfl, rfl⟩
      · exact ⟨rfl, rfl⟩
    · exact ⟨rfl, rfl⟩
theorem HInv.scanR (h : HInv n H) (x : Int) : HInv n (scanR H x).2 := HInv.scanN _ _ _ h
theorem Q4.scan (h : Q4 n H P L) (x : Int) : Q4 n (scanR H x).2 P L := by
  obtain ⟨h1, h2⟩ := scanN_TC 262145 (clampW x) 0 H
  exact ⟨h.inv.scanR x, by show (scanN _ _ _ _).2.T 4 = _; rw [h1]; exact h.t, by show (scanN _ _ _ _).2.C P = _; rw [h2]; exact h.c⟩
/-- what is shaded is not Ecru -/
theorem shade_not {A : Mst} (i : Int) : colorR (shadeA A i) i ≠ 3 := by
  unfold shadeA
  split
  · intro h
    have h2 : i ∈ upA (upA A 3 ((A 3).filter (· ≠ i))) 2 (A 2 ++ [i]) 2 := by simp [upA]
    unfold colorR at h
    by_cases m0 : i ∈ upA (upA A 3 ((A 3).filter (· ≠ i))) 2 (A 2 ++ [i]) 0
    · rw [if_pos m0] at h; omega
    · rw [if_neg m0] at h
      by_cases m1 : i ∈ upA (upA A 3 ((A 3).filter (· ≠ i))) 2 (A 2 ++ [i]) 1
      · rw [if_pos m1] at h; omega
      · rw [if_neg m1, if_pos h2] at h; omega
  · rename_i h
    exact h
theorem HInv.held (h : HInv n H) {k : Nat} {p : Pl} (hk : k < 1024) (ht : H.T k = some p) : colI (Wd.shI H k) k ≠ 3 := by
  obtain ⟨h1, h2⟩ := atP_at ht hk
  have e : Wd.shI H k = Wd.sh H p := by unfold Wd.shI; rw [if_pos h2, h1]
  rw [e]
  have hT : (Wd.sh H p).T = H.T := rfl
  unfold colI
  rw [hT, if_pos h2, h1]
  unfold colP
  show colorR (upM H.M (szP p) _ (szP p)) p.2 ≠ 3
  unfold upM
  rw [if_pos rfl]
  exact shade_not _
theorem Q4.held (h : Q4 n H P L) : colI (holdH H [8]) 4 ≠ 3 := by
  have e : holdH H [8] = shI H ((4 : Nat) : Int) := rfl
  rw [e]
  exact h.inv.held (by omega) h.t
/-- what is not Ecru stays -/
theorem HInv.stays (h : HInv n H) (hd : doneB H = true) {k : Nat} {p : Pl} (hk : k < 1024) (ht : H.T k = some p) (hc : colI H k ≠ 3) : (flpH H).T k = some p := by
  rw [h.flp_at hd k, if_neg]
  · exact ht
  · rintro ⟨s, hs, c, hc3, e⟩
    apply hc
    rw [ht] at e
    have e2 := Option.some.inj e
    obtain ⟨h1, h2⟩ := atP_at ht hk
    unfold colI
    rw [if_pos h2, h1, e2]
    unfold colP szP
    show colorR (H.M (((s : Int)).toNat)) c = 3
    rw [show ((s : Int)).toNat = s by simp]
    exact good_color (h.good s hs) (x := 3) (by omega) hc3
theorem Q4.flip (h : Q4 n H P L) (hd : doneB H = true) (hc : colI H 4 ≠ 3) : Q4 n (flpH H) P L :=
  ⟨h.inv.flp, h.inv.stays hd (k := 4) (by omega) h.t hc, by rw [flpH_C]; exact h.c⟩
theorem Q4.val (h : Q4 n H P L) {j : Nat} (hj : j < L.length) : getV H 4 j = L.getD j 0 ∧ getB H 4 j = true := by
  obtain ⟨_, _, _, _, e5⟩ := at_id (k := 4) (by omega) h.t
  have e5' : fsI H 4 = L := by rw [h.c] at e5; exact e5
  unfold getV getB
  rw [e5', if_pos ⟨by omega, by omega⟩, decide_eq_true ⟨by omega, by omega⟩]
  simp
theorem Q4.cf (h : Q4 n H P L) : clsI H 4 = 5 ∧ fldI H 4 = L.length := by
  obtain ⟨_, _, e3, e4, _⟩ := at_id (k := 4) (by omega) h.t
  rw [h.c] at e3 e4
  exact ⟨e3, e4⟩
def nI : Nat → Nat := fun s => if s = 0 then 20 else if s = 1 then 20 else if s = 2 then 10 else if s = 3 then 4 else if s = 4 then 2 else 0
theorem nI_inv : HInv nI (newH nI) := HInv.new nI (fun s hs => by rcases (show s = 0 ∨ s = 1 ∨ s = 2 ∨ s = 3 ∨ s = 4 by omega) with rfl | rfl | rfl | rfl | rfl <;> decide) (by decide)
theorem q4_start : alcI (newH nI) 5 4 = 4 ∧ Q4 nI (alcH (newH nI) 5 4) (1, 0) [2, 2, 2, 2] := by
  obtain ⟨a1, a2⟩ := nI_inv.alc_at (cl := 5) (f := 4) (s := 1) (k := 4) (i := 0) (Rw := (rng 20).tail) (by omega) (by omega) (by decide) (by kernel_rfl) (by kernel_rfl) (by omega)
  refine ⟨a1, nI_inv.alc 5 4, ?_, ?_⟩
  · rw [a2]; simp [updT]
  · rw [a2]
    show upC (newH nI).C ((1 : Int), 0) (5, List.replicate (4 : Int).toNat 2) ((1 : Int), 0) = _
    rw [upC_same]
    rfl
end
end Wd
end Go.Proofs.Ytdaojohdmidemaa
