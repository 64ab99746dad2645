/- A map of numbers to numbers, of the call's own. -/
import Derived.Test.YthlijmdohejheaaOTelA
import Derived.Maps.Own
import Derived.Maps.OwnOps
import Derived.Maps.OwnSet
import Derived.Maps.RangeWalk
namespace Go.Proofs.Ythlijmdohejheaa
open Go.RowKit Go.Maps
set_option linter.unusedVariables false
set_option maxRecDepth 20000
namespace Wd
theorem keyedI : Keyed Try.prog 3 := int_keyed Try.underlying3
theorem infoI : (Try.prog.info? 3).map (fun i => i.zero) = some (some (.int .i64 0)) := by kernel_rfl
theorem zeroI (w : World) : (zeroValue 3).run Try.prog w = .ok (.int .i64 0) w := by
  cases hi : Try.prog.info? 3 with
  | none => have := infoI; rw [hi] at this; cases this
  | some i0 =>
    have hz : i0.zero = some (.int .i64 0) := by have := infoI; rw [hi] at this; simpa using this
    simp [zeroValue, typeInfo, hi, hz]
theorem wfI {x : Int} (h : In64 x) : (Lit.int .i64 x).wf = true := WalkArith.wf_i64 ⟨h.1, h.2⟩
theorem keyI {x : Int} (h : In64 x) : keyOf Try.prog 3 (.int .i64 x) = some (.int .i64 x) := keyOf_int_mk Try.underlying3 (wfI h)
/-- a map of numbers: M x is the number that x has; there are c entries -/
def MapD (D : DataW Nat) (M : Int → Option Int) : Prop := ∀ x, In64 x → has D (.int .i64 x) = (M x).isSome ∧ D.atKey (.int .i64 x) (.lit (.int .i64 0)) = .lit (.int .i64 ((M x).getD 0))
def MapI (w : World) (b c : Nat) (M : Int → Option Int) : Prop := ∃ D : DataW Nat, w.ownsMap Try.prog 3 (plainElem Try.prog 3) b c D ∧ size D = c ∧ MapD D M
def updI (M : Int → Option Int) (x : Int) (v : Option Int) : Int → Option Int := fun q => if q = x then v else M q
section
variable {w w1 : World} {b c : Nat} {M : Int → Option Int}
theorem MapI.made (w : World) : MapI (w.alloc (.map #[] 0)) w.heap.size 0 (fun _ => none) := ⟨.map [], World.ownsMap_made _ _ _ _, rfl, fun p _ => ⟨rfl, rfl⟩⟩
theorem MapI.lt (h : MapI w b c M) : b < w.heap.size := by
  obtain ⟨D, hown, _⟩ := h
  exact hown.lt
theorem MapI.same (h : MapI w b c M) (hb : w1.heap[b]? = w.heap[b]?) : MapI w1 b c M := by
  obtain ⟨D, ⟨es, clock, h1, h2⟩, hD⟩ := h
  exact ⟨D, ⟨es, clock, hb.trans h1, h2⟩, hD⟩
/-- 'v, in := m[x]' -/
theorem MapI.look_ok (h : MapI w b c M) {x : Int} (hx : In64 x) : (Instr.lookup 57 (.map (some b)) (.int .i64 x) true).run Try.prog w = .ok (.tuple #[.int .i64 ((M x).getD 0), .bool (M x).isSome]) w := by
  obtain ⟨D, hown, _, hD⟩ := h
  obtain ⟨v, ps, hrun, hv⟩ := hown.look_ok keyedI Try.underlying57 (zeroI w) (plainElem_int Try.underlying3 (by decide)) (keyI hx)
  rw [(hD x hx).1] at hrun
  rw [(hD x hx).2] at hv
  obtain ⟨y, rfl, hc, _⟩ := plainElem_int_inv Try.underlying3 hv
  simp only [Prod.mk.injEq] at hc
  have : y = (M x).getD 0 := by
    have := hc.1
    injection this with h1
    injection h1 with _ h2
    exact h2.symm
  rw [hrun, this]
/-- 'len(m)' -/
theorem MapI.len (h : MapI w b c M) (ty : TypeId) : (Builtin.len_ #[57] ty #[.map (some b)]).run Try.prog w = .ok (.int .i64 c) w := by
  obtain ⟨D, hown, hsz, _⟩ := h
  rw [← hsz]
  exact hown.len Try.underlying57 ty
theorem own_size {D : DataW Nat} {n : Nat} (h : w.ownsMap Try.prog 3 (plainElem Try.prog 3) b n D) : w.ownsMap Try.prog 3 (plainElem Try.prog 3) b (size D) D := by
  obtain ⟨es, clock, hb, F, hs, rfl⟩ := h
  exact ⟨es, clock, hb, F, by simp [size, length_sorted], rfl⟩
/-- 'm[x] = v' -/
theorem MapI.put (h : MapI w b c M) (hc : c < maxLen) {x : Int} (hx : In64 x) {v : Int} (hv : In64 v) : ∃ w', (Instr.mapUpdate 57 (.map (some b)) (.int .i64 x) (.int .i64 v)).run Try.prog w = .ok () w' ∧ MapI w' b (if (M x).isSome then c else c + 1) (updI M x (some v)) ∧ w.grownBy w' (some b) ∧ w'.heap.size = w.heap.size := by
  obtain ⟨D, hown, hsz, hD⟩ := h
  have hk := keyI hx
  obtain ⟨w', hrun, h1, h2⟩ := hown.update keyedI Try.underlying57 hc hk (plainElem_int Try.underlying3 (wfI hv))
  obtain ⟨w2, hrun2, _, es, clock, es', clock', hb0, hw2⟩ := hown.store keyedI Try.underlying57 hc hk (plainElem_int Try.underlying3 (wfI hv))
  have ew : w' = w2 := by
    rw [hrun] at hrun2
    injection hrun2
  have hsize : w'.heap.size = w.heap.size := by rw [ew, hw2]; simp [ChangeMaps.setBlock]
  have es2 : size (D.put (.int .i64 x) (.lit (.int .i64 v))) = if (M x).isSome then c else c + 1 := by rw [size_put (hown.tidy keyedI), (hD x hx).1, hsz]
  have h3 := own_size h1
  rw [es2] at h3
  refine ⟨w', hrun, ⟨_, h3, es2, fun q hq => ?_⟩, h2, hsize⟩
  · by_cases e : q = x
    · subst e
      rw [has_put_same hown.isMap (keyedI.key hk), atKey_put_same hown.isMap (keyedI.key hk)]
      simp [updI]
    · have hne : (Lit.int .i64 q) ≠ .int .i64 x := fun h => e (by injection h)
      rw [has_put_other hne, atKey_put_other hne, (hD q hq).1, (hD q hq).2]
      simp [updI, e]
end
theorem mapI_at {M : Int → Option Int} {d : DataW Nat} (h : MapD d M) {x v : Int} (hx : In64 x) (hat : ∀ zd, d.atKey (.int .i64 x) zd = .lit (.int .i64 v)) : M x = some v := by
  obtain ⟨h1, h2⟩ := h x hx
  rw [has_true_of_atKey hat] at h1
  rw [hat] at h2
  cases hm : M x with
  | none => rw [hm] at h1; cases h1
  | some y =>
    rw [hm] at h2
    have hy : v = y := by injection h2 with h2; injection h2
    rw [hy]
/-- ops that want a literal, and of which kind -/
def wantM : Int → Option Int := updI (updI (updI (updI (updI (fun _ => none) 2 (some 3)) 12 (some 5)) 13 (some 5)) 20 (some 6)) 18 (some 7)
theorem want_in {s v : Int} (h : wantM s = some v) : (s = 2 ∧ v = 3) ∨ (s = 12 ∧ v = 5) ∨ (s = 13 ∧ v = 5) ∨ (s = 20 ∧ v = 6) ∨ (s = 18 ∧ v = 7) := by
  unfold wantM updI at h
  split at h
  · cases h; omega
  split at h
  · cases h; omega
  split at h
  · cases h; omega
  split at h
  · cases h; omega
  split at h
  · cases h; omega
  cases h
theorem rng_below {H : Type} {P : Program} {k : TypeId} {R : Value → Option (DataW H × List MemPlace)} {w w1 : World} {b r n cnt : Nat} {D : DataW H} {left : Lit → Bool} (h : w.ranges P k R b r n D left cnt) (g : Below w.heap.size w w1) : w1.ranges P k R b r n D left cnt :=
  h.kept (row := none) ⟨g.os, g.tape, g.output, g.size, fun i hi _ => g.block i hi⟩ (by simp) (by simp)
/-- the map is made -/
theorem want_map (W : World) : ∃ w1 w2 w3 w4 w5 : World,
    (Instr.mapUpdate 57 (.map (some W.heap.size)) (.int .i64 2) (.int .i64 3)).run Try.prog (W.alloc (.map #[] 0)) = .ok () w1 ∧
    (Instr.mapUpdate 57 (.map (some W.heap.size)) (.int .i64 12) (.int .i64 5)).run Try.prog w1 = .ok () w2 ∧
    (Instr.mapUpdate 57 (.map (some W.heap.size)) (.int .i64 13) (.int .i64 5)).run Try.prog w2 = .ok () w3 ∧
    (Instr.mapUpdate 57 (.map (some W.heap.size)) (.int .i64 20) (.int .i64 6)).run Try.prog w3 = .ok () w4 ∧
    (Instr.mapUpdate 57 (.map (some W.heap.size)) (.int .i64 18) (.int .i64 7)).run Try.prog w4 = .ok () w5 ∧ MapI w5 W.heap.size 5 wantM ∧ Below W.heap.size W w5 := by
  have i : ∀ x : Int, 0 ≤ x → x ≤ 100 → In64 x := fun x h0 h1 => in64_of (by omega) (by omega)
  have m0 := MapI.made W
  have b0 := (Below.refl W.heap.size W).alloc (Nat.le_refl _) (.map #[] 0)
  have hg : ∀ {wA wB : World}, Below W.heap.size W wA → wA.grownBy wB (some W.heap.size) → Below W.heap.size W wB := fun hA g => hA.grown g hA.size (fun k e => by cases e; exact Nat.le_refl _)
  obtain ⟨w1, r1, m1, g1, _⟩ := m0.put (by decide) (i 2 (by omega) (by omega)) (i 3 (by omega) (by omega))
  obtain ⟨w2, r2, m2, g2, _⟩ := m1.put (by decide) (i 12 (by omega) (by omega)) (i 5 (by omega) (by omega))
  obtain ⟨w3, r3, m3, g3, _⟩ := m2.put (by decide) (i 13 (by omega) (by omega)) (i 5 (by omega) (by omega))
  obtain ⟨w4, r4, m4, g4, _⟩ := m3.put (by decide) (i 20 (by omega) (by omega)) (i 6 (by omega) (by omega))
  obtain ⟨w5, r5, m5, g5, _⟩ := m4.put (by decide) (i 18 (by omega) (by omega)) (i 7 (by omega) (by omega))
  exact ⟨w1, w2, w3, w4, w5, r1, r2, r3, r4, r5, m5, hg (hg (hg (hg (hg b0 g1) g2) g3) g4) g5⟩
end Wd
end Go.Proofs.Ythlijmdohejheaa
