/- A map of keys to numbers, of the call's own: what a look and a store do to it. -/
import Derived.Test.YtpilbpofikdkmaaYLaw
import Derived.Maps.Own
import Derived.Maps.OwnOps
import Derived.Maps.OwnSet
import Derived.DeepKeys4
namespace Go.Proofs.Ytpilbpofikdkmaa
open Go.RowKit Go.Maps
set_option linter.unusedVariables false
namespace Wd
abbrev Pl := Int × Int
def plOk (p : Pl) : Prop := I64 p.1 ∧ I64 p.2
def plV (p : Pl) : Value := .agg #[.int .i64 p.1, .int .i64 p.2]
theorem laidOutP : laidOutB Try.prog = true := by kernel_rfl
theorem rowPl : (32 : TypeId) < Try.prog.types.size := of_decide_eq_true (by kernel_rfl)
theorem widePl : (match Try.prog.underlying 32 with | some (.array _ _) | some (.struct _) => true | _ => false) = true := by rw [Try.underlying32]
theorem lawPl : WideMaps.KeyLaw Try.prog 32 := deep_law_laid laidOutP (m := 2) (by omega) rowPl (by kernel_rfl) widePl
theorem keyedPl : Keyed Try.prog 32 := Keyed.of_law lawPl
theorem cellsPl : Try.prog.cellsOf 32 = 2 := by kernel_rfl
theorem cellsI1 : Try.prog.cellsOf 3 = 1 := by kernel_rfl
theorem keyTypePl : Try.prog.keyType 32 = true := by kernel_rfl
def keyL (p : Pl) : Lit := .string (keyBytes [.int .i64 p.1, .int .i64 p.2])
theorem key_pl {p : Pl} (hp : plOk p) : keyOf Try.prog 32 (plV p) = some (keyL p) := by
  obtain ⟨a, c⟩ := p
  have wa : (Lit.int .i64 a).wf = true := WalkArith.wf_i64 ⟨hp.1.1, hp.1.2⟩
  have wc : (Lit.int .i64 c).wf = true := WalkArith.wf_i64 ⟨hp.2.1, hp.2.2⟩
  obtain ⟨m, hm⟩ : ∃ m, Try.prog.types.size = m + 1 := ⟨Try.prog.types.size - 1, by have h : 0 < Try.prog.types.size := Nat.lt_of_le_of_lt (Nat.zero_le _) rowPl; omega⟩
  unfold keyOf
  rw [Try.underlying32]
  simp only
  rw [if_pos (by simp [keyTypePl, plV, Value.formed, Try.underlying32, cellsPl]), hm]
  unfold Program.keyLits
  rw [Try.underlying32]
  simp [plV, Value.cells, cellsPl, cellsI1, Program.keyLits, Try.underlying3, wa, wc, keyL]
theorem keyL_inj {p q : Pl} (hp : plOk p) (hq : plOk q) (h : keyL p = keyL q) : p = q := by
  have h1 := key_pl hp
  have h2 := key_pl hq
  rw [h] at h1
  have := keyedPl.inj h1 h2
  obtain ⟨a, c⟩ := p
  obtain ⟨b, d⟩ := q
  unfold plV at this
  simp only [Value.agg.injEq, Array.mk.injEq, List.cons.injEq, Value.int.injEq, true_and, and_true] at this
  exact Prod.ext this.1 this.2
theorem infoI : (Try.prog.info? 3).map (fun i => i.zero) = some (some (.int .i64 0)) := by kernel_rfl
theorem zeroIP (w : World) : (zeroValue 3).run Try.prog w = .ok (.int .i64 0) w := by
  cases hi : Try.prog.info? 3 with
  | none => have := infoI; rw [hi] at this; cases this
  | some i0 =>
    have hz : i0.zero = some (.int .i64 0) := by have := infoI; rw [hi] at this; simpa using this
    simp [zeroValue, typeInfo, hi, hz]
/-- a map of places: M p is the number that p has; there are c entries -/
def MapP (w : World) (b c : Nat) (M : Pl → Option Int) : Prop := ∃ D : DataW Nat, w.ownsMap Try.prog 32 (plainElem Try.prog 3) b c D ∧ size D = c ∧
  ∀ p, plOk p → has D (keyL p) = (M p).isSome ∧ D.atKey (keyL p) (.lit (.int .i64 0)) = .lit (.int .i64 ((M p).getD 0))
def updM (M : Pl → Option Int) (p : Pl) (v : Option Int) : Pl → Option Int := fun q => if q = p then v else M q
section
variable {w w1 : World} {b c : Nat} {M : Pl → Option Int}
theorem MapP.made (w : World) : MapP (w.alloc (.map #[] 0)) w.heap.size 0 (fun _ => none) := ⟨.map [], World.ownsMap_made _ _ _ _, rfl, fun p _ => ⟨rfl, rfl⟩⟩
theorem MapP.lt (h : MapP w b c M) : b < w.heap.size := by
  obtain ⟨D, hown, _⟩ := h
  exact hown.lt
theorem MapP.same (h : MapP w b c M) (hb : w1.heap[b]? = w.heap[b]?) : MapP w1 b c M := by
  obtain ⟨D, ⟨es, clock, h1, h2⟩, hD⟩ := h
  exact ⟨D, ⟨es, clock, hb.trans h1, h2⟩, hD⟩
/-- 'id, in := m[p]' -/
theorem MapP.look_ok (h : MapP w b c M) {p : Pl} (hp : plOk p) : (Instr.lookup 30 (.map (some b)) (plV p) true).run Try.prog w = .ok (.tuple #[.int .i64 ((M p).getD 0), .bool (M p).isSome]) w := by
  obtain ⟨D, hown, _, hD⟩ := h
  obtain ⟨v, ps, hrun, hv⟩ := hown.look_ok keyedPl Try.underlying30 (zeroIP w) (plainElem_int Try.underlying3 (by decide)) (key_pl hp)
  rw [(hD p hp).1] at hrun
  rw [(hD p hp).2] at hv
  obtain ⟨x, rfl, hc, _⟩ := plainElem_int_inv Try.underlying3 hv
  simp only [Prod.mk.injEq] at hc
  have : x = (M p).getD 0 := by
    have := hc.1
    injection this with h1
    injection h1 with _ h2
    exact h2.symm
  rw [hrun, this]
/-- 'm[p]' -/
theorem MapP.look (h : MapP w b c M) {p : Pl} (hp : plOk p) : (Instr.lookup 30 (.map (some b)) (plV p) false).run Try.prog w = .ok (.int .i64 ((M p).getD 0)) w := by
  obtain ⟨D, hown, _, hD⟩ := h
  obtain ⟨x, hrun, hat, _⟩ := hown.lookup_int keyedPl Try.underlying30 Try.underlying3 (zeroIP w) (key_pl hp)
  rw [(hD p hp).2] at hat
  have : x = (M p).getD 0 := by
    injection hat with h1
    injection h1 with _ h2
    exact h2.symm
  rw [hrun, this]
theorem own_size {D : DataW Nat} {n : Nat} (h : w.ownsMap Try.prog 32 (plainElem Try.prog 3) b n D) : w.ownsMap Try.prog 32 (plainElem Try.prog 3) b (size D) D := by
  obtain ⟨es, clock, hb, F, hs, rfl⟩ := h
  exact ⟨es, clock, hb, F, by simp [size, length_sorted], rfl⟩
/-- 'm[p] = v' -/
theorem MapP.put (h : MapP w b c M) (hc : c < maxLen) {p : Pl} (hp : plOk p) {v : Int} (hv : (Lit.int .i64 v).wf = true) : ∃ w', (Instr.mapUpdate 30 (.map (some b)) (plV p) (.int .i64 v)).run Try.prog w = .ok () w' ∧ MapP w' b (if (M p).isSome then c else c + 1) (updM M p (some v)) ∧ w.grownBy w' (some b) ∧ w'.heap.size = w.heap.size := by
  obtain ⟨D, hown, hsz, hD⟩ := h
  have hk := key_pl hp
  obtain ⟨w', hrun, h1, h2⟩ := hown.update keyedPl Try.underlying30 hc hk (plainElem_int Try.underlying3 hv)
  obtain ⟨w2, hrun2, _, es, clock, es', clock', hb0, hw2⟩ := hown.store keyedPl Try.underlying30 hc hk (plainElem_int Try.underlying3 hv)
  have ew : w' = w2 := by
    rw [hrun] at hrun2
    injection hrun2
  have hsize : w'.heap.size = w.heap.size := by rw [ew, hw2]; simp [ChangeMaps.setBlock]
  have es2 : size (D.put (keyL p) (.lit (.int .i64 v))) = if (M p).isSome then c else c + 1 := by rw [size_put (hown.tidy keyedPl), (hD p hp).1, hsz]
  have h3 := own_size h1
  rw [es2] at h3
  refine ⟨w', hrun, ⟨_, h3, es2, fun q hq => ?_⟩, h2, hsize⟩
  · by_cases e : q = p
    · subst e
      rw [has_put_same hown.isMap (keyedPl.key hk), atKey_put_same hown.isMap (keyedPl.key hk)]
      simp [updM]
    · have hne : keyL q ≠ keyL p := fun h => e (keyL_inj hq hp h)
      rw [has_put_other hne, atKey_put_other hne, (hD q hq).1, (hD q hq).2]
      simp [updM, e]
/-- 'len(m)' -/
theorem MapP.len (h : MapP w b c M) (ty : TypeId) : (Builtin.len_ #[30] ty #[.map (some b)]).run Try.prog w = .ok (.int .i64 c) w := by
  obtain ⟨D, hown, hsz, _⟩ := h
  rw [← hsz]
  exact hown.len Try.underlying30 ty
end
end Wd
end Go.Proofs.Ytpilbpofikdkmaa
