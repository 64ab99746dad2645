/- The landed cache's two maps: what delete and clear do to the one, all of the other. -/
import Derived.Test.YtpilbpofikdkmaaYMap
namespace Go.Proofs.Ytpilbpofikdkmaa
open Go.RowKit Go.Maps Go.ChangeMaps Go.MapKept
set_option linter.unusedVariables false
set_option maxRecDepth 20000
namespace Wd
section
variable {w w1 : World} {b c : Nat} {M : Pl → Option Int}
/-- 'delete(m, p)' -/
theorem MapP.drop (h : MapP w b c M) {p : Pl} (hp : plOk p) (hin : (M p).isSome = true) (ty : TypeId) : ∃ w', (Builtin.delete_ #[30, 32] ty #[.map (some b), plV p]).run Try.prog w = .ok (.tuple #[]) w' ∧ MapP w' b (c - 1) (updM M p none) ∧ w.grownBy w' (some b) ∧ w'.heap.size = w.heap.size := by
  obtain ⟨D, hown, hsz, hD⟩ := h
  have hk := key_pl hp
  obtain ⟨w', hrun, h1, h2⟩ := hown.drop keyedPl Try.underlying30 hk ty
  have hsize : w'.heap.size = w.heap.size := by
    obtain ⟨es, clock, es', clock', hb0, hw2⟩ := h2
    rw [hw2]; simp [setBlock]
  have es2 : size (D.del (keyL p)) = c - 1 := by
    have := size_del (k := keyL p) (hown.tidy keyedPl)
    rw [(hD p hp).1, if_pos hin, hsz] at this
    omega
  have h3 := own_size h1
  rw [es2] at h3
  refine ⟨w', hrun, ⟨_, h3, es2, fun q hq => ?_⟩, h2.grown, hsize⟩
  by_cases e : q = p
  · subst e
    rw [has_del_same, atKey_del_same]
    simp [updM]
  · have hne : keyL q ≠ keyL p := fun h => e (keyL_inj hq hp h)
    rw [has_del_other hne, atKey_del_other hne, (hD q hq).1, (hD q hq).2]
    simp [updM, e]
/-- 'clear(m)' of a map whatever -/
theorem own_clear {H : Type} {P : Program} {k e t : TypeId} {R : Value → Option (DataW H × List MemPlace)} {n : Nat} {D : DataW H} (h : w.ownsMap P k R b n D) (ht : P.underlying t = some (.map k e)) (ty : TypeId) :
    ∃ w', (Builtin.clear_ #[t] ty #[.map (some b)]).run P w = .ok (.tuple #[]) w' ∧ w'.ownsMap P k R b 0 (.map []) ∧ w.grownBy w' (some b) ∧ w'.heap.size = w.heap.size := by
  obtain ⟨es, clock, hb, F, _⟩ := h
  refine ⟨setBlock w b (.map #[] clock), ?_, ⟨#[], clock, heap_setBlock_same hb _, ⟨by simp, stamped_empty clock, by simp⟩, Nat.le_refl _, rfl⟩, World.mapTurned.grown ⟨es, clock, #[], clock, hb, rfl⟩, by simp [setBlock]⟩
  simp [Builtin.clear_, run_underlying ht, Go.MapKept.run_getObj_map hb, Go.MapKept.run_setObj_map _ hb, Result.andThen, setBlock]
theorem MapP.clear (h : MapP w b c M) (ty : TypeId) : ∃ w', (Builtin.clear_ #[30] ty #[.map (some b)]).run Try.prog w = .ok (.tuple #[]) w' ∧ MapP w' b 0 (fun _ => none) ∧ w.grownBy w' (some b) ∧ w'.heap.size = w.heap.size := by
  obtain ⟨D, hown, hsz, hD⟩ := h
  obtain ⟨w', hrun, h1, h2, h3⟩ := own_clear hown Try.underlying30 ty
  exact ⟨w', hrun, ⟨_, h1, rfl, fun p _ => ⟨rfl, rfl⟩⟩, h2, h3⟩
end
theorem keyedI : Keyed Try.prog 3 := int_keyed Try.underlying3
theorem wfI {x : Int} (h : I64 x) : (Lit.int .i64 x).wf = true := WalkArith.wf_i64 ⟨h.1, h.2⟩
theorem keyI {x : Int} (h : I64 x) : keyOf Try.prog 3 (.int .i64 x) = some (.int .i64 x) := keyOf_int_mk Try.underlying3 (wfI h)
theorem infoK : (Try.prog.info? 32).map (fun i => i.zero) = some (some (plV (0, 0))) := by kernel_rfl
theorem run_zeroK (w : World) : (zeroValue 32).run Try.prog w = .ok (plV (0, 0)) w := by
  have h := infoK
  cases hi : Try.prog.info? 32 with
  | none => rw [hi] at h; cases h
  | some i =>
    rw [hi] at h
    have hz : i.zero = some (plV (0, 0)) := by simpa using h
    simp [zeroValue, typeInfo, hi, hz]
/-- how a key reads: as itself -/
def RV : Value → Option (DataW Value × List MemPlace) := fun v => some (.held v, [])
/-- a map of lines: M x is the key that x has; there are c entries -/
def MapQ (w : World) (b c : Nat) (M : Int → Option Pl) : Prop := ∃ D : DataW Value, w.ownsMap Try.prog 3 RV b c D ∧ size D = c ∧
  ∀ x, I64 x → has D (.int .i64 x) = (M x).isSome ∧ ∀ z, D.atKey (.int .i64 x) (.held (plV z)) = .held (plV ((M x).getD z))
def updQ (M : Int → Option Pl) (x : Int) (v : Option Pl) : Int → Option Pl := fun q => if q = x then v else M q
section
variable {w w1 : World} {b c : Nat} {M : Int → Option Pl}
theorem MapQ.made (w : World) : MapQ (w.alloc (.map #[] 0)) w.heap.size 0 (fun _ => none) := ⟨.map [], World.ownsMap_made _ _ _ _, rfl, fun p _ => ⟨rfl, fun z => rfl⟩⟩
theorem MapQ.lt (h : MapQ w b c M) : b < w.heap.size := by
  obtain ⟨D, hown, _⟩ := h
  exact hown.lt
theorem MapQ.same (h : MapQ w b c M) (hb : w1.heap[b]? = w.heap[b]?) : MapQ w1 b c M := by
  obtain ⟨D, ⟨es, clock, h1, h2⟩, hD⟩ := h
  exact ⟨D, ⟨es, clock, hb.trans h1, h2⟩, hD⟩
/-- 'k, in := m[x]' -/
theorem MapQ.look_ok (h : MapQ w b c M) {x : Int} (hx : I64 x) : (Instr.lookup 45 (.map (some b)) (.int .i64 x) true).run Try.prog w = .ok (.tuple #[plV ((M x).getD (0, 0)), .bool (M x).isSome]) w := by
  obtain ⟨D, hown, _, hD⟩ := h
  obtain ⟨v, ps, hrun, hv⟩ := hown.look_ok keyedI Try.underlying45 (run_zeroK w) (zd := .held (plV (0, 0))) (zp := []) rfl (keyI hx)
  rw [(hD x hx).1] at hrun
  rw [(hD x hx).2] at hv
  unfold RV at hv
  simp only [Option.some.injEq, Prod.mk.injEq, DataW.held.injEq] at hv
  rw [hrun, hv.1]
theorem own_sizeQ {D : DataW Value} {n : Nat} (h : w.ownsMap Try.prog 3 RV b n D) : w.ownsMap Try.prog 3 RV b (size D) D := by
  obtain ⟨es, clock, hb, F, hs, rfl⟩ := h
  exact ⟨es, clock, hb, F, by simp [size, length_sorted], rfl⟩
/-- 'm[x] = k' -/
theorem MapQ.put (h : MapQ w b c M) (hc : c < maxLen) {x : Int} (hx : I64 x) (v : Pl) : ∃ w', (Instr.mapUpdate 45 (.map (some b)) (.int .i64 x) (plV v)).run Try.prog w = .ok () w' ∧ MapQ w' b (if (M x).isSome then c else c + 1) (updQ M x (some v)) ∧ w.grownBy w' (some b) ∧ w'.heap.size = w.heap.size := by
  obtain ⟨D, hown, hsz, hD⟩ := h
  have hk := keyI hx
  obtain ⟨w', hrun, h1, h2⟩ := hown.store keyedI Try.underlying45 hc hk (d := .held (plV v)) (ps := []) (val := plV v) rfl
  have hsize : w'.heap.size = w.heap.size := by
    obtain ⟨es, clock, es', clock', hb0, hw2⟩ := h2
    rw [hw2]; simp [setBlock]
  have es2 : size (D.put (.int .i64 x) (.held (plV v))) = if (M x).isSome then c else c + 1 := by rw [size_put (hown.tidy keyedI), (hD x hx).1, hsz]
  have h3 := own_sizeQ h1
  rw [es2] at h3
  refine ⟨w', hrun, ⟨_, h3, es2, fun q hq => ?_⟩, h2.grown, hsize⟩
  by_cases e : q = x
  · subst e
    rw [has_put_same hown.isMap (keyedI.key hk)]
    refine ⟨by simp [updQ], fun z => ?_⟩
    rw [atKey_put_same hown.isMap (keyedI.key hk)]
    simp [updQ]
  · have hne : (Lit.int .i64 q) ≠ .int .i64 x := fun h => e (by injection h)
    rw [has_put_other hne, (hD q hq).1]
    refine ⟨by simp [updQ, e], fun z => ?_⟩
    rw [atKey_put_other hne, (hD q hq).2]
    simp [updQ, e]
/-- 'len(m)' -/
theorem MapQ.len (h : MapQ w b c M) (ty : TypeId) : (Builtin.len_ #[45] ty #[.map (some b)]).run Try.prog w = .ok (.int .i64 c) w := by
  obtain ⟨D, hown, hsz, _⟩ := h
  rw [← hsz]
  exact hown.len Try.underlying45 ty
theorem MapQ.clear (h : MapQ w b c M) (ty : TypeId) : ∃ w', (Builtin.clear_ #[45] ty #[.map (some b)]).run Try.prog w = .ok (.tuple #[]) w' ∧ MapQ w' b 0 (fun _ => none) ∧ w.grownBy w' (some b) ∧ w'.heap.size = w.heap.size := by
  obtain ⟨D, hown, hsz, hD⟩ := h
  obtain ⟨w', hrun, h1, h2, h3⟩ := own_clear hown Try.underlying45 ty
  exact ⟨w', hrun, ⟨_, h1, rfl, fun p _ => ⟨rfl, fun z => rfl⟩⟩, h2, h3⟩
end
end Wd
end Go.Proofs.Ytpilbpofikdkmaa
