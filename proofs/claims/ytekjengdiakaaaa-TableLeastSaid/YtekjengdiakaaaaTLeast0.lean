/- What the laws ask of a table of identities: TableLeast. -/
import Derived.Test.YtekjengdiakaaaaTBoth
import Derived.Maps.Own
import Derived.Maps.OwnOps
namespace Go.Proofs.Ytekjengdiakaaaa
open Go.RowKit Go.Maps
set_option linter.unusedVariables false
namespace Wd
def Nums (w0 : World) (ad : Option Addr) (len : Nat) : Prop := ∀ wr, Below w0.heap.size w0 wr → ∀ k, k < len → ∃ (g off : Nat) (x : Int), ad = some ⟨g, off, none⟩ ∧ (-9223372036854775808 ≤ x ∧ x ≤ 9223372036854775807) ∧ wr.cell? ⟨g, off + k, none⟩ = some (.int .i64 x)
/-- k identities were taken; those of X were given back, the first j of these were taken again -/
def TS (k : Nat) (X : List Int) (j : Nat) : Tst := fun id => if 4 ≤ id ∧ id < 4 + k then (if (id : Int) ∈ X then (if id < 4 + j then some (2, ((id - 4 : Nat) : Int)) else none) else some (1, ((id - 4 : Nat) : Int))) else none
theorem TS_zero : TS 0 [] 0 = noT := by
  funext id; unfold TS noT; rw [if_neg (by omega)]
theorem ofR_no {T : Tst} {p : Pl} (h : ∀ j, T j ≠ some p) : ofR T p = none := firstIn_none (fun j _ _ => by simpa using h j)
theorem TS_take1 {i : Nat} (hi : i < 1000) : takeI (TS i [] 0) (1, (i : Int)) = ((4 + i : Nat) : Int) ∧ takeT (TS i [] 0) (1, (i : Int)) = TS (i + 1) [] 0 := by
  have h1 : ofR (TS i [] 0) (1, (i : Int)) = none := ofR_no (fun j => by
    unfold TS
    split
    · intro e; simp at e; omega
    · simp)
  have h2 : freeR (TS i [] 0) = some (4 + i) := firstIn_hit (by omega) (by omega) (fun j a b => by simp [TS]; omega) (by simp [TS])
  have := takeI_hit h1 h2
  refine ⟨this.1, this.2.trans ?_⟩
  funext id
  unfold updT
  by_cases c : id = 4 + i
  · subst c; rw [if_pos rfl]; unfold TS; rw [if_pos (by omega)]; simp
  · rw [if_neg c]; unfold TS
    simp only [List.not_mem_nil, if_false]
    by_cases d : 4 ≤ id ∧ id < 4 + i
    · rw [if_pos d, if_pos (show 4 ≤ id ∧ id < 4 + (i + 1) by omega)]
    · rw [if_neg d, if_neg (show ¬ (4 ≤ id ∧ id < 4 + (i + 1)) by omega)]
theorem TS_give {k m : Nat} {X : List Int} (hk : k < 1000) (hm : m < k) : hasT (TS k X 0) ((4 + m : Nat) : Int) = !decide ((((4 + m : Nat) : Int)) ∈ X) ∧ giveT (TS k X 0) ((4 + m : Nat) : Int) = TS k (((4 + m : Nat) : Int) :: X) 0 := by
  have h1 : hasT (TS k X 0) ((4 + m : Nat) : Int) = !decide ((((4 + m : Nat) : Int)) ∈ X) := by
    rw [hasT_in (by omega)]
    unfold inR TS
    rw [if_pos (by omega), if_neg (show ¬ (4 + m < 4 + 0) by omega)]
    by_cases c : ((4 + m : Nat) : Int) ∈ X
    · rw [if_pos c, decide_eq_true c]; rfl
    · rw [if_neg c, decide_eq_false c]; rfl
  refine ⟨h1, ?_⟩
  unfold giveT
  rw [h1]
  by_cases c : ((4 + m : Nat) : Int) ∈ X
  · rw [decide_eq_true c, if_neg (by simp)]
    funext id
    unfold TS
    by_cases d : (id : Int) = ((4 + m : Nat) : Int)
    · have : (id : Int) ∈ X := d ▸ c
      simp only [List.mem_cons, d, c, or_true, if_true]
    · simp only [List.mem_cons, d, false_or]
  · rw [decide_eq_false c, if_pos (by simp), show (((4 + m : Nat) : Int)).toNat = 4 + m by omega]
    funext id
    unfold updT
    by_cases d : id = 4 + m
    · subst d
      rw [if_pos rfl]
      unfold TS
      rw [if_pos (by omega), if_pos (by simp), if_neg (by omega)]
    · rw [if_neg d]
      unfold TS
      have : ¬ ((id : Int) = ((4 + m : Nat) : Int)) := by omega
      simp only [List.mem_cons, this, false_or]
theorem TS_skip {k i : Nat} {X : List Int} (h : ((4 + i : Nat) : Int) ∉ X) : TS k X (i + 1) = TS k X i := by
  funext id
  unfold TS
  by_cases d : id = 4 + i
  · subst d; rw [if_neg h, if_neg h]
  · by_cases e : id < 4 + i
    · rw [if_pos (show id < 4 + (i + 1) by omega), if_pos e]
    · rw [if_neg (show ¬ id < 4 + (i + 1) by omega), if_neg e]
theorem TS_take2 {k i : Nat} {X : List Int} (hk : k < 1000) (hi : i < k) (h : ((4 + i : Nat) : Int) ∈ X) : takeI (TS k X i) (2, (i : Int)) = ((4 + i : Nat) : Int) ∧ takeT (TS k X i) (2, (i : Int)) = TS k X (i + 1) := by
  have h1 : ofR (TS k X i) (2, (i : Int)) = none := ofR_no (fun j => by
    unfold TS
    split
    · split
      · split
        · intro e; simp at e; omega
        · simp
      · intro e; simp at e
    · simp)
  have h2 : freeR (TS k X i) = some (4 + i) := by
    refine firstIn_hit (by omega) (by omega) (fun j a b => ?_) ?_
    · show (TS k X i j).isNone = false
      unfold TS
      rw [if_pos (by omega), if_pos b]
      split <;> rfl
    · show (TS k X i (4 + i)).isNone = true
      unfold TS
      rw [if_pos (by omega), if_pos h, if_neg (by omega)]
      rfl
  have := takeI_hit h1 h2
  refine ⟨this.1, this.2.trans ?_⟩
  funext id
  unfold updT
  by_cases c : id = 4 + i
  · subst c; rw [if_pos rfl]; unfold TS; rw [if_pos (by omega), if_pos h, if_pos (by omega)]; simp
  · rw [if_neg c]; unfold TS
    by_cases e : id < 4 + i
    · rw [if_pos (show id < 4 + (i + 1) by omega), if_pos e]
    · rw [if_neg (show ¬ id < 4 + (i + 1) by omega), if_neg e]
theorem TS_end {k : Nat} {X : List Int} (hk : k < 1000) : takeI (TS k X k) (3, 0) = ((4 + k : Nat) : Int) ∧ (idsT (TS k X k)).length = k := by
  have hin : ∀ j, inR (TS k X k) j = decide (4 ≤ j ∧ j < 4 + k) := by
    intro j
    unfold inR TS
    by_cases c : 4 ≤ j ∧ j < 4 + k
    · rw [if_pos c, if_pos c.2, decide_eq_true c]
      split <;> rfl
    · rw [if_neg c, decide_eq_false c]; rfl
  constructor
  · have h1 : ofR (TS k X k) (3, 0) = none := ofR_no (fun j => by
      unfold TS
      split
      · split
        · split
          · intro e; simp at e
          · simp
        · intro e; simp at e
      · simp)
    have h2 : freeR (TS k X k) = some (4 + k) := by
      refine firstIn_hit (by omega) (by omega) (fun j a b => ?_) ?_
      · have := hin j
        unfold inR at this
        rw [decide_eq_true (by omega)] at this
        cases hh : TS k X k j with
        | none => rw [hh] at this; cases this
        | some _ => rfl
      · have := hin (4 + k)
        unfold inR at this
        rw [decide_eq_false (by omega)] at this
        cases hh : TS k X k (4 + k) with
        | none => rfl
        | some _ => rw [hh] at this; cases this
    exact (takeI_hit h1 h2).1
  · have key : ∀ j, (idsK (TS k X k) j).length = if j ≤ 4 then 0 else (if j ≤ 4 + k then j - 4 else k) := by
      intro j
      induction j with
      | zero => rfl
      | succ j ih =>
        by_cases c : 4 ≤ j ∧ j < 4 + k
        · rw [idsK_in (by rw [hin, decide_eq_true c]), List.length_append, ih]
          simp only [List.length_cons, List.length_nil]
          split <;> split <;> (try split) <;> (try split) <;> omega
        · rw [idsK_out (by rw [hin, decide_eq_false c]), ih]
          split <;> split <;> (try split) <;> (try split) <;> omega
    have := key 1024
    rw [if_neg (by omega), if_neg (by omega)] at this
    exact this
/-- a map of the call's own: one at those of X -/
def MapX (w : World) (b n : Nat) (X : List Int) : Prop := ∃ D : DataW Nat, w.ownsMap Try.prog 3 (plainElem Try.prog 3) b n D ∧ ∀ x, (Lit.int .i64 x).wf = true → D.atKey (.int .i64 x) (.lit (.int .i64 0)) = .lit (.int .i64 (if x ∈ X then 1 else 0))
theorem zeroI (w : World) : (zeroValue 3).run Try.prog w = .ok (.int .i64 0) w := by
  obtain ⟨i0, hi0, hz0, hz1, hz2⟩ := info_parts info3
  simp [zeroValue, typeInfo, hi0, hz0]
section
variable {w w1 : World} {b n : Nat} {X : List Int}
theorem MapX.look (h : MapX w b n X) {x : Int} (hx : (Lit.int .i64 x).wf = true) : (Instr.lookup 42 (.map (some b)) (.int .i64 x) false).run Try.prog w = .ok (.int .i64 (if x ∈ X then 1 else 0)) w := by
  obtain ⟨D, hown, hD⟩ := h
  obtain ⟨c, hrun, hat, _⟩ := hown.lookup_int (int_keyed Try.underlying3) Try.underlying42 Try.underlying3 (zeroI w) (keyOf_int_mk Try.underlying3 hx)
  rw [hD x hx] at hat
  have : c = if x ∈ X then 1 else 0 := by
    injection hat with h1
    injection h1 with _ h2
    exact h2.symm
  rw [hrun, this]
theorem MapX.same (h : MapX w b n X) (hb : w1.heap[b]? = w.heap[b]?) : MapX w1 b n X := by
  obtain ⟨D, ⟨es, clock, h1, h2⟩, hD⟩ := h
  exact ⟨D, ⟨es, clock, hb.trans h1, h2⟩, hD⟩
theorem MapX.lt (h : MapX w b n X) : b < w.heap.size := by
  obtain ⟨D, hown, _⟩ := h
  exact hown.lt
theorem MapX.made (w : World) : MapX (w.alloc (.map #[] 0)) w.heap.size 0 [] := ⟨.map [], World.ownsMap_made _ _ _ _, fun x _ => rfl⟩
theorem MapX.put (h : MapX w b n X) (hn : n < maxLen) {x : Int} (hx : (Lit.int .i64 x).wf = true) : ∃ w', (Instr.mapUpdate 42 (.map (some b)) (.int .i64 x) (.int .i64 1)).run Try.prog w = .ok () w' ∧ MapX w' b (n + 1) (x :: X) ∧ w.grownBy w' (some b) := by
  obtain ⟨D, hown, hD⟩ := h
  have hk := keyOf_int_mk (P := Try.prog) Try.underlying3 hx
  have KY := int_keyed (P := Try.prog) Try.underlying3
  have hmap : IsMap D := by
    obtain ⟨es, clock, _, _, _, e⟩ := hown
    exact ⟨_, e⟩
  obtain ⟨w', hrun, h1, h2⟩ := hown.update KY Try.underlying42 hn hk (plainElem_int Try.underlying3 (a := 1) (by decide))
  refine ⟨w', hrun, ⟨_, h1, fun y hy => ?_⟩, h2⟩
  by_cases c : y = x
  · subst c
    rw [atKey_put_same hmap (KY.key hk), if_pos (by simp)]
  · rw [atKey_put_other (by intro e; injection e with _ h; exact c h), hD y hy]
    simp [c]
end
/-- the state while identities are given back -/
structure LeSt (TA : TAt) (w0 wr : World) (p b k n : Nat) (X : List Int) (j : Nat) (F : Nat → Prop) : Prop where
  pt : PT TA w0 wr p (TS k X j) F
  mp : MapX wr b n X
  nF : ¬ F b
  nb : w0.heap.size ≤ b
section
variable {TA : TAt} {w0 wr wA w1 w2 : World} {p b k n n' j j' : Nat} {X X' : List Int} {F F' : Nat → Prop}
theorem LeSt.keep (K : TableK TA) (h : LeSt TA w0 wr p b k n X j F) (g : Below wr.heap.size wr wA) : LeSt TA w0 wA p b k n X j F :=
  ⟨h.pt.keep K g, h.mp.same (g.block b h.mp.lt), h.nF, h.nb⟩
theorem LeSt.step (h : LeSt TA w0 wr p b k n X j F) (hm : TA w1 p (TS k X' j') F') (c : Ch F wr w1) (hn : Newer F F' wr.heap.size) : PT TA w0 w1 p (TS k X' j') F' ∧ MapX w1 b n X ∧ ¬ F' b := by
  refine ⟨h.pt.step hm c hn, h.mp.same (c.block b h.mp.lt h.nF), fun hF => ?_⟩
  rcases hn b hF with h' | h'
  · exact h.nF h'
  · have := h.mp.lt; omega
theorem LeSt.put (K : TableK TA) (hp : PT TA w0 w1 p (TS k X' j) F) (nF : ¬ F b) (nb : w0.heap.size ≤ b) (hm : MapX w2 b n' X') (g : w1.grownBy w2 (some b)) : LeSt TA w0 w2 p b k n' X' j F := by
  have c : Ch (fun k => k = b) w1 w2 := ⟨g.os, g.tape, g.output, g.size, fun q hq hne => g.block q hq (by intro e; cases e; exact hne rfl)⟩
  exact ⟨⟨K.keep hp.ta (fun q hq => c.block q (K.lt hp.ta q hq) (fun e => by subst e; exact nF hq)), below_ch hp.bel c (fun q hq => by subst hq; exact nb), hp.fF⟩, hm, nF, nb⟩
end
end Wd
end Go.Proofs.Ytekjengdiakaaaa
