/- Methods, plainly: instructions, whether they are right. -/
import Derived.Test.YthlijmdohejheaaKX
import Derived.Deep.DeepCutAuto
namespace Go.Proofs.Ythlijmdohejheaa
open Go.RowKit
set_option linter.unusedVariables false
set_option maxRecDepth 20000
namespace Wd
/-- a method, by value -/
structure MeV (w : World) (v : Value) (m : MethA) : Prop where
  mk ::
  ex : ∃ la lc ca cc, v = .agg #[.int .i64 m.args, .int .i64 m.temps, .slice la m.lits.length lc, .slice ca m.code.length cc] ∧ PrV w (.slice la m.lits.length lc) m.lits ∧ ByV w (.slice ca m.code.length cc) m.code
  a64 : In64 m.args
  t64 : In64 m.temps
theorem PrV.le {w : World} {v : Value} {L : List (Int × Int)} (h : PrV w v L) : L.length ≤ maxLen := by
  obtain ⟨ad, cap, _, h1, h2, _⟩ := h.ex; omega
theorem ByV.form {w : World} {v : Value} {L : List Int} (h : ByV w v L) : ∃ ad cap, v = .slice ad L.length cap ∧ L.length ≤ cap ∧ cap ≤ maxLen := by
  obtain ⟨ad, cap, e, h1, h2, h3⟩ := h.ex
  exact ⟨ad, cap, e, h1, h2⟩
theorem ByV.le {w : World} {v : Value} {L : List Int} (h : ByV w v L) : L.length ≤ maxLen := by
  obtain ⟨ad, cap, _, h1, h2⟩ := h.form; omega
theorem ByV.at {w : World} {ad : Option Addr} {n cap : Nat} {L : List Int} (h : ByV w (.slice ad n cap) L) {k : Nat} {x : Int} (hk : L[k]? = some x) : (0 ≤ x ∧ x ≤ 255) ∧ ∃ g off, ad = some ⟨g, off, none⟩ ∧ w.cell? ⟨g, off + k, none⟩ = some (.int .u8 x) := by
  obtain ⟨ad', cap', e, h1, h2, h3⟩ := h.ex
  cases e
  exact h3 k x hk
theorem ByV.take {w : World} {ad : Option Addr} {n cap : Nat} {L : List Int} (h : ByV w (.slice ad n cap) L) (k : Nat) (hk : k ≤ L.length) : ByV w (.slice ad k cap) (L.take k) := by
  obtain ⟨ad', cap', e, h1, h2, h3⟩ := h.ex
  cases e
  have hl : (L.take k).length = k := by rw [List.length_take]; omega
  refine ⟨ad, cap, by rw [hl], by omega, h2, fun j x hx => h3 j x ?_⟩
  rw [List.getElem?_take] at hx
  split at hx
  · exact hx
  · cases hx
theorem MeV.up {w w1 : World} {v : Value} {m : MethA} (h : MeV w v m) (b : Below w.heap.size w w1) : MeV w1 v m := by
  obtain ⟨la, lc, ca, cc, e, h1, h2⟩ := h.ex
  exact ⟨⟨la, lc, ca, cc, e, h1.up b, h2.up b⟩, h.a64, h.t64⟩
/-- a byte -/
def byAt (C : List Int) (k : Nat) : Int := C.getD k 0
theorem byAt_some {C : List Int} {k : Nat} (h : k < C.length) : C[k]? = some (byAt C k) := by
  unfold byAt
  rw [List.getD_eq_getElem?_getD, List.getElem?_eq_getElem h]; rfl
def fetR (C : List Int) (pc : Int) : Int × Int × Bool := if pc < 0 ∨ pc % 2 ≠ 0 ∨ pc > (C.length : Int) - 2 then (0, 0, false) else (byAt C pc.toNat, byAt C (pc.toNat + 1), true)
def takL : List Int := [2, 2, 2, 2, 2, 2, 1, 1, 2, 3, 1, 1, 2, 2, 0, 1, 1, 0, 1, 3, 2, 0, 1, 0]
def takR (p : Int) : Int := if p < 0 ∨ p > 23 then -1 else takL.getD p.toNat 0
def namL : List ByteArray := [⟨#[112, 117, 115, 104, 116, 101, 109, 112]⟩, ⟨#[112, 117, 115, 104, 102, 105, 101, 108, 100]⟩, ⟨#[112, 117, 115, 104, 108, 105, 116]⟩, ⟨#[112, 117, 115, 104, 115, 101, 108, 102]⟩, ⟨#[112, 117, 115, 104, 110, 105, 108]⟩, ⟨#[112, 117, 115, 104, 116, 114, 117, 101]⟩, ⟨#[112, 117, 115, 104, 102, 97, 108, 115, 101]⟩, ⟨#[112, 117, 115, 104, 110, 117, 109]⟩, ⟨#[112, 111, 112]⟩, ⟨#[100, 117, 112]⟩, ⟨#[115, 116, 111, 114, 101, 116, 101, 109, 112]⟩, ⟨#[115, 116, 111, 114, 101, 102, 105, 101, 108, 100]⟩, ⟨#[115, 101, 110, 100]⟩, ⟨#[115, 117, 112, 101, 114]⟩, ⟨#[114, 101, 116, 117, 114, 110]⟩, ⟨#[106, 117, 109, 112]⟩, ⟨#[98, 97, 99, 107]⟩, ⟨#[105, 102, 102, 97, 108, 115, 101]⟩, ⟨#[98, 108, 111, 99, 107]⟩, ⟨#[104, 111, 109, 101]⟩, ⟨#[110, 101, 119]⟩, ⟨#[112, 114, 105, 109]⟩]
def namR (p : Int) : ByteArray := if p < 0 ∨ p > 21 then ⟨#[]⟩ else namL.getD p.toNat ⟨#[]⟩
def litAt (L : List (Int × Int)) (i : Int) : Int × Int := L.getD i.toNat (0, 0)
def hasLit (L : List (Int × Int)) (i kind : Int) : Bool := decide (i < (L.length : Int)) && decide ((litAt L i).1 = kind)
/-- an instruction at pc, of so many bytes -/
def insR (m : MethA) (pc op arg : Int) : Bool :=
  if op = 0 ∨ op = 10 then decide (arg < m.args + m.temps)
  else if op = 1 ∨ op = 11 then decide (arg < 62)
  else if op = 2 then hasLit m.lits arg 3
  else if op = 12 ∨ op = 13 then hasLit m.lits arg 5
  else if op = 20 then hasLit m.lits arg 6 && decide ((litAt m.lits arg).2 > 1)
  else if op = 18 then hasLit m.lits arg 7
  else if op = 15 ∨ op = 17 then decide (pc + 2 + 2 * arg < (m.code.length : Int))
  else if op = 16 then decide (2 * arg ≤ pc)
  else if op = 21 then decide (arg ≤ 23)
  else decide (op ≤ 21)
def litR (x : Int × Int) (nn nc nm : Nat) : Bool :=
  if x.1 = 3 then decide (-1073741824 ≤ x.2) && decide (x.2 ≤ 1073741823)
  else if x.1 = 5 then decide (0 ≤ x.2) && decide (x.2 < (nn : Int))
  else if x.1 = 6 then decide (0 ≤ x.2) && decide (x.2 < (nc : Int))
  else if x.1 = 7 then decide (0 ≤ x.2) && decide (x.2 < (nm : Int))
  else false
/-- the instructions from pc on -/
def insF (m : MethA) : Nat → Nat → Bool
  | 0, _ => true
  | f + 1, pc => insR m (pc : Int) (byAt m.code pc) (byAt m.code (pc + 1)) && insF m f (pc + 2)
def metR (m : MethA) (nn nc nm : Nat) : Int :=
  if m.code.length > 128 ∨ m.lits.length > 16 ∨ m.args < 0 ∨ m.temps < 0 ∨ m.args > 8 ∨ m.temps > 8 - m.args then 3
  else if m.code.length < 2 ∨ m.code.length % 2 ≠ 0 then 12
  else if byAt m.code (m.code.length - 2) ≠ 14 ∧ byAt m.code (m.code.length - 2) ≠ 19 ∧ byAt m.code (m.code.length - 2) ≠ 16 then 12
  else if m.lits.all (fun x => litR x nn nc nm) = false then 12
  else if insF m (m.code.length / 2) 0 = false then 12
  else 0
theorem fet_no {C : List Int} {pc : Int} (h : pc < 0 ∨ pc % 2 ≠ 0 ∨ pc > (C.length : Int) - 2) : fetR C pc = (0, 0, false) := if_pos h
theorem fet_yes {C : List Int} {pc : Int} (h0 : 0 ≤ pc) (h1 : pc % 2 = 0) (h2 : pc ≤ (C.length : Int) - 2) : fetR C pc = (byAt C pc.toNat, byAt C (pc.toNat + 1), true) := if_neg (by omega)
theorem tak_at : ∀ j, (hj : j < 24) → ([Value.int .i64 2, .int .i64 2, .int .i64 2, .int .i64 2, .int .i64 2, .int .i64 2, .int .i64 1, .int .i64 1, .int .i64 2, .int .i64 3, .int .i64 1, .int .i64 1, .int .i64 2, .int .i64 2, .int .i64 0, .int .i64 1, .int .i64 1, .int .i64 0, .int .i64 1, .int .i64 3, .int .i64 2, .int .i64 0, .int .i64 1, .int .i64 0] : List Value)[j]'hj = .int .i64 (takL.getD j 0) := by
  intro j hj
  rcases (show j = 0 ∨ j = 1 ∨ j = 2 ∨ j = 3 ∨ j = 4 ∨ j = 5 ∨ j = 6 ∨ j = 7 ∨ j = 8 ∨ j = 9 ∨ j = 10 ∨ j = 11 ∨ j = 12 ∨ j = 13 ∨ j = 14 ∨ j = 15 ∨ j = 16 ∨ j = 17 ∨ j = 18 ∨ j = 19 ∨ j = 20 ∨ j = 21 ∨ j = 22 ∨ j = 23 by omega) with rfl | rfl | rfl | rfl | rfl | rfl | rfl | rfl | rfl | rfl | rfl | rfl | rfl | rfl | rfl | rfl | rfl | rfl | rfl | rfl | rfl | rfl | rfl | rfl <;> rfl
theorem nam_at : ∀ j, (hj : j < 22) → ([Value.string ⟨#[112, 117, 115, 104, 116, 101, 109, 112]⟩, Value.string ⟨#[112, 117, 115, 104, 102, 105, 101, 108, 100]⟩, Value.string ⟨#[112, 117, 115, 104, 108, 105, 116]⟩, Value.string ⟨#[112, 117, 115, 104, 115, 101, 108, 102]⟩, Value.string ⟨#[112, 117, 115, 104, 110, 105, 108]⟩, Value.string ⟨#[112, 117, 115, 104, 116, 114, 117, 101]⟩, Value.string ⟨#[112, 117, 115, 104, 102, 97, 108, 115, 101]⟩, Value.string ⟨#[112, 117, 115, 104, 110, 117, 109]⟩, Value.string ⟨#[112, 111, 112]⟩, Value.string ⟨#[100, 117, 112]⟩, Value.string ⟨#[115, 116, 111, 114, 101, 116, 101, 109, 112]⟩, Value.string ⟨#[115, 116, 111, 114, 101, 102, 105, 101, 108, 100]⟩, Value.string ⟨#[115, 101, 110, 100]⟩, Value.string ⟨#[115, 117, 112, 101, 114]⟩, Value.string ⟨#[114, 101, 116, 117, 114, 110]⟩, Value.string ⟨#[106, 117, 109, 112]⟩, Value.string ⟨#[98, 97, 99, 107]⟩, Value.string ⟨#[105, 102, 102, 97, 108, 115, 101]⟩, Value.string ⟨#[98, 108, 111, 99, 107]⟩, Value.string ⟨#[104, 111, 109, 101]⟩, Value.string ⟨#[110, 101, 119]⟩, Value.string ⟨#[112, 114, 105, 109]⟩] : List Value)[j]'hj = .string (namL.getD j ⟨#[]⟩) := by
  intro j hj
  rcases (show j = 0 ∨ j = 1 ∨ j = 2 ∨ j = 3 ∨ j = 4 ∨ j = 5 ∨ j = 6 ∨ j = 7 ∨ j = 8 ∨ j = 9 ∨ j = 10 ∨ j = 11 ∨ j = 12 ∨ j = 13 ∨ j = 14 ∨ j = 15 ∨ j = 16 ∨ j = 17 ∨ j = 18 ∨ j = 19 ∨ j = 20 ∨ j = 21 by omega) with rfl | rfl | rfl | rfl | rfl | rfl | rfl | rfl | rfl | rfl | rfl | rfl | rfl | rfl | rfl | rfl | rfl | rfl | rfl | rfl | rfl | rfl <;> rfl
theorem mod2 {n : Nat} : Int.tmod (n : Int) 2 = ((n % 2 : Nat) : Int) := by
  show Int.tmod _ ((2 : Nat) : Int) = _
  rw [← Int.ofNat_tmod]
end Wd
end Go.Proofs.Ythlijmdohejheaa
