/- A map of keys to numbers, of the call's own: what a look and a store do to it. -/
import Derived.Test.YtbefmkkmkjogcaaIKp
import Derived.Maps.Own
import Derived.Maps.OwnOps
import Derived.Maps.OwnSet
import Derived.DeepKeys4
namespace Go.Proofs.Ytbefmkkmkjogcaa
open Go.RowKit Go.Maps
set_option linter.unusedVariables false
set_option maxRecDepth 20000
namespace Wd
theorem laidOutP : laidOutB Try.prog = true := by kernel_rfl
theorem rowKy : (33 : TypeId) < Try.prog.types.size := of_decide_eq_true (by kernel_rfl)
theorem wideKy : (match Try.prog.underlying 33 with | some (.array _ _) | some (.struct _) => true | _ => false) = true := by rw [Try.underlying33]
theorem lawKy : WideMaps.KeyLaw Try.prog 33 := deep_law_laid laidOutP (m := 2) (by omega) rowKy (by kernel_rfl) wideKy
theorem keyedKy : Keyed Try.prog 33 := Keyed.of_law lawKy
theorem cellsKy : Try.prog.cellsOf 33 = 16 := by kernel_rfl
theorem cellsU8 : Try.prog.cellsOf 5 = 1 := by kernel_rfl
theorem keyTypeKy : Try.prog.keyType 33 = true := by kernel_rfl
theorem wf8 (L : List UInt8) (i : Nat) : (Lit.int .u8 (kz L i)).wf = true := by
  have := kz_bd L i
  have h1 : IntKind.u8.min = 0 := rfl
  have h2 : IntKind.u8.max = 255 := rfl
  simp [Lit.wf, h1, h2]
  omega
def keyL (L : List UInt8) : Lit := .string (keyBytes [.int .u8 (kz L 0), .int .u8 (kz L 1), .int .u8 (kz L 2), .int .u8 (kz L 3), .int .u8 (kz L 4), .int .u8 (kz L 5), .int .u8 (kz L 6), .int .u8 (kz L 7), .int .u8 (kz L 8), .int .u8 (kz L 9), .int .u8 (kz L 10), .int .u8 (kz L 11), .int .u8 (kz L 12), .int .u8 (kz L 13), .int .u8 (kz L 14), .int .u8 (kz L 15)])
theorem key_ky (L : List UInt8) : keyOf Try.prog 33 (.agg (keyA L)) = some (keyL L) := by
  have w0 := wf8 L 0
  have w1 := wf8 L 1
  have w2 := wf8 L 2
  have w3 := wf8 L 3
  have w4 := wf8 L 4
  have w5 := wf8 L 5
  have w6 := wf8 L 6
  have w7 := wf8 L 7
  have w8 := wf8 L 8
  have w9 := wf8 L 9
  have w10 := wf8 L 10
  have w11 := wf8 L 11
  have w12 := wf8 L 12
  have w13 := wf8 L 13
  have w14 := wf8 L 14
  have w15 := wf8 L 15
  have hr : List.range 16 = [0, 1, 2, 3, 4, 5, 6, 7, 8, 9, 10, 11, 12, 13, 14, 15] := rfl
  obtain ⟨m, hm⟩ : ∃ m, Try.prog.types.size = m + 1 := ⟨Try.prog.types.size - 1, by have h : 0 < Try.prog.types.size := Nat.lt_of_le_of_lt (Nat.zero_le _) rowKy; omega⟩
  unfold keyOf
  rw [Try.underlying33]
  simp only
  rw [if_pos (by simp [keyTypeKy, keyA, Value.formed, Try.underlying33, cellsKy]), hm]
  unfold Program.keyLits
  rw [Try.underlying33]
  simp [hr, keyA, Value.cells, cellsKy, cellsU8, Program.keyLits, Try.underlying5, w0, w1, w2, w3, w4, w5, w6, w7, w8, w9, w10, w11, w12, w13, w14, w15, keyL]
theorem keyL_inj {A B : List UInt8} (hA : ∀ x ∈ A, x ≠ 0) (hB : ∀ x ∈ B, x ≠ 0) (hAl : A.length ≤ 16) (hBl : B.length ≤ 16) (h : keyL A = keyL B) : A = B := by
  have h1 := key_ky A
  have h2 := key_ky B
  rw [h] at h1
  have := keyedKy.inj h1 h2
  have hq := key_eqR hA hB hAl hBl default
  rw [this] at hq
  have hq2 := key_eqR hB hB hBl hBl default
  rw [hq2, decide_eq_true rfl] at hq
  injection hq with hq
  exact of_decide_eq_true hq.symm
theorem infoI : (Try.prog.info? 3).map (fun i => i.zero) = some (some (.int .i64 0)) := by kernel_rfl
theorem zeroI (w : World) : (zeroValue 3).run Try.prog w = .ok (.int .i64 0) w := by
  cases hi : Try.prog.info? 3 with
  | none => have := infoI; rw [hi] at this; cases this
  | some i0 =>
    have hz : i0.zero = some (.int .i64 0) := by have := infoI; rw [hi] at this; simpa using this
    simp [zeroValue, typeInfo, hi, hz]
/-- names as keys: no nought, sixteen bytes at most -/
def Kk (L : List UInt8) : Prop := (∀ x ∈ L, x ≠ 0) ∧ L.length ≤ 16
/-- a map of keys: M k is the number that k has; there are c entries -/
def MapK (w : World) (b c : Nat) (M : List UInt8 → Option Int) : Prop := ∃ D : DataW Nat, w.ownsMap Try.prog 33 (plainElem Try.prog 3) b c D ∧ size D = c ∧
  ∀ p, Kk p → has D (keyL p) = (M p).isSome ∧ D.atKey (keyL p) (.lit (.int .i64 0)) = .lit (.int .i64 ((M p).getD 0))
def updM (M : List UInt8 → Option Int) (p : List UInt8) (v : Option Int) : List UInt8 → Option Int := fun q => if q = p then v else M q
section
variable {w w1 : World} {b c : Nat} {M : List UInt8 → Option Int}
theorem MapK.made (w : World) : MapK (w.alloc (.map #[] 0)) w.heap.size 0 (fun _ => none) := ⟨.map [], World.ownsMap_made _ _ _ _, rfl, fun p _ => ⟨rfl, rfl⟩⟩
theorem MapK.lt (h : MapK w b c M) : b < w.heap.size := by
  obtain ⟨D, hown, _⟩ := h
  exact hown.lt
theorem MapK.same (h : MapK w b c M) (hb : w1.heap[b]? = w.heap[b]?) : MapK w1 b c M := by
  obtain ⟨D, ⟨es, clock, h1, h2⟩, hD⟩ := h
  exact ⟨D, ⟨es, clock, hb.trans h1, h2⟩, hD⟩
theorem MapK.eq {M' : List UInt8 → Option Int} (h : MapK w b c M) (e : ∀ p, Kk p → M' p = M p) : MapK w b c M' := by
  obtain ⟨D, hown, hs, hD⟩ := h
  exact ⟨D, hown, hs, fun p hp => by rw [e p hp]; exact hD p hp⟩
/-- 'i, ok := m[k]' -/
theorem MapK.look_ok (h : MapK w b c M) {p : List UInt8} (hp : Kk p) : (Instr.lookup 40 (.map (some b)) (.agg (keyA p)) true).run Try.prog w = .ok (.tuple #[.int .i64 ((M p).getD 0), .bool (M p).isSome]) w := by
  obtain ⟨D, hown, _, hD⟩ := h
  obtain ⟨v, ps, hrun, hv⟩ := hown.look_ok keyedKy Try.underlying40 (zeroI w) (plainElem_int Try.underlying3 (by decide)) (key_ky p)
  rw [(hD p hp).1] at hrun
  rw [(hD p hp).2] at hv
  obtain ⟨x, rfl, hc, _⟩ := plainElem_int_inv Try.underlying3 hv
  simp only [Prod.mk.injEq] at hc
  have : x = (M p).getD 0 := by
    have := hc.1
    injection this with h1
    injection h1 with _ h2
    exact h2.symm
  rw [hrun, this]
theorem own_size {D : DataW Nat} {n : Nat} (h : w.ownsMap Try.prog 33 (plainElem Try.prog 3) b n D) : w.ownsMap Try.prog 33 (plainElem Try.prog 3) b (size D) D := by
  obtain ⟨es, clock, hb, F, hs, rfl⟩ := h
  exact ⟨es, clock, hb, F, by simp [size, length_sorted], rfl⟩
/-- 'm[k] = v' -/
theorem MapK.put (h : MapK w b c M) (hc : c < maxLen) {p : List UInt8} (hp : Kk p) {v : Int} (hv : (Lit.int .i64 v).wf = true) : ∃ w', (Instr.mapUpdate 40 (.map (some b)) (.agg (keyA p)) (.int .i64 v)).run Try.prog w = .ok () w' ∧ MapK w' b (if (M p).isSome then c else c + 1) (updM M p (some v)) ∧ w.grownBy w' (some b) ∧ w'.heap.size = w.heap.size := by
  obtain ⟨D, hown, hsz, hD⟩ := h
  have hk := key_ky p
  obtain ⟨w', hrun, h1, h2⟩ := hown.update keyedKy Try.underlying40 hc hk (plainElem_int Try.underlying3 hv)
  obtain ⟨w2, hrun2, _, es, clock, es', clock', hb0, hw2⟩ := hown.store keyedKy Try.underlying40 hc hk (plainElem_int Try.underlying3 hv)
  have ew : w' = w2 := by
    rw [hrun] at hrun2
    injection hrun2
  have hsize : w'.heap.size = w.heap.size := by rw [ew, hw2]; simp [ChangeMaps.setBlock]
  have es2 : size (D.put (keyL p) (.lit (.int .i64 v))) = if (M p).isSome then c else c + 1 := by rw [size_put (hown.tidy keyedKy), (hD p hp).1, hsz]
  have h3 := own_size h1
  rw [es2] at h3
  refine ⟨w', hrun, ⟨_, h3, es2, fun q hq => ?_⟩, h2, hsize⟩
  by_cases e : q = p
  · subst e
    rw [has_put_same hown.isMap (keyedKy.key hk), atKey_put_same hown.isMap (keyedKy.key hk)]
    simp [updM]
  · have hne : keyL q ≠ keyL p := fun h => e (keyL_inj hq.1 hp.1 hq.2 hp.2 h)
    rw [has_put_other hne, atKey_put_other hne, (hD q hq).1, (hD q hq).2]
    simp [updM, e]
end
end Wd
end Go.Proofs.Ytbefmkkmkjogcaa
