/- Classes, plainly: chains, what is right. -/
import Derived.Test.YtlbekicalinglaaKV
namespace Go.Proofs.Ytlbekicalinglaa
open Go.RowKit
set_option linter.unusedVariables false
set_option maxRecDepth 20000
namespace Wd
theorem ba_beq (a b : ByteArray) : (a == b) = decide (a = b) := by
  obtain ⟨⟨x⟩⟩ := a
  obtain ⟨⟨y⟩⟩ := b
  show ((⟨x⟩ : Array UInt8) == ⟨y⟩) = _
  simp only [ByteArray.mk.injEq, Array.mk.injEq]
  by_cases h : x = y
  · simp [h]
  · simp [h]
theorem ba_ne {a b : ByteArray} (h : ¬ a = b) : (a == b) = false := by rw [ba_beq]; simp [h]
theorem ba_eq {a b : ByteArray} (h : a = b) : (a == b) = true := by rw [ba_beq]; simp [h]
theorem bl_ne {a b : ByteArray} (h : ¬ a = b) : (a.toList == b.toList) = false := (beq_toListBytes a b).symm.trans (ba_ne h)
theorem bl_eq {a b : ByteArray} (h : a = b) : (a.toList == b.toList) = true := (beq_toListBytes a b).symm.trans (ba_eq h)
/-- a class, its super, and so on -/
def chainR (L : List ClassA) : Int → Nat → List Int
  | _, 0 => []
  | i, f + 1 => if 0 ≤ i then (match L[i.toNat]? with | some c => i :: chainR L c.super f | none => []) else []
def chain (L : List ClassA) (i : Int) : List Int := chainR L i 8
theorem chainR_on {L : List ClassA} {k f : Nat} {c : ClassA} (h : L[k]? = some c) : chainR L (k : Int) (f + 1) = (k : Int) :: chainR L c.super f := by
  have h0 : (0 : Int) ≤ (k : Int) := by omega
  rw [chainR, if_pos h0, Int.toNat_natCast, h]
theorem chainR_neg {L : List ClassA} {i : Int} (f : Nat) (h : i < 0) : chainR L i f = [] := by
  cases f with
  | zero => rfl
  | succ f => rw [chainR, if_neg (by omega)]
theorem chainR_over {L : List ClassA} {i : Int} (f : Nat) (h : (L.length : Int) ≤ i) : chainR L i f = [] := by
  cases f with
  | zero => rfl
  | succ f => rw [chainR, if_pos (by omega), List.getElem?_eq_none (by omega)]
theorem chainR_len (L : List ClassA) : ∀ (f : Nat) (i : Int), (chainR L i f).length ≤ f
  | 0, _ => Nat.le_refl _
  | f + 1, i => by
    unfold chainR
    split
    · split
      · rename_i c _
        have := chainR_len L f c.super
        simp; omega
      · simp
    · simp
theorem chain_len (L : List ClassA) (i : Int) : (chain L i).length ≤ 8 := chainR_len L 8 i
/-- is a text one that may be -/
def textOk (b : ByteArray) : Bool := decide (1 ≤ b.size) && decide (b.size ≤ 16)
/-- how many there are, going up, when all supers are lesser -/
def deep (L : List ClassA) : Nat → Int → Nat
  | 0, _ => 0
  | f + 1, i => if 0 ≤ i then (match L[i.toNat]? with | some c => deep L f c.super + 1 | none => 0) else 0
def superF (L : List ClassA) (s : Int) : Int := match L[s.toNat]? with | some c => c.fields | none => 0
/-- is a class right, those ahead of it being so -/
def classOk (L : List ClassA) (i : Nat) (c : ClassA) : Bool :=
  decide (-1 ≤ c.super) && decide (c.super < i) && decide (0 ≤ c.fields) && decide (c.fields ≤ 62) && decide (deep L (i + 1) c.super + 1 ≤ 8) && (decide (c.super < 0) || decide (superF L c.super ≤ c.fields))
def bindOk (names methods : Int) (b : Int × Int) : Bool := decide (0 ≤ b.1) && decide (b.1 < names) && decide (0 ≤ b.2) && decide (b.2 < methods)
/-- no two of one name -/
def selsApart : List (Int × Int) → Bool
  | [] => true
  | b :: B => B.all (fun x => decide (x.1 ≠ b.1)) && selsApart B
def bindsOk (B : List (Int × Int)) (names methods : Int) : Bool := B.all (bindOk names methods) && decide ((B.map (·.1)).Nodup) && decide (B.length ≤ 16)
/-- what is wrong with the classes from i on -/
def shapeFrom (L : List ClassA) (names methods : Int) : Nat → List ClassA → Int
  | _, [] => 0
  | i, c :: R => if textOk c.nm = false then 13 else if (L.take i).any (fun x => decide (x.nm = c.nm)) = true then 13 else if classOk L i c = false then 14 else if bindsOk c.binds names methods = false then 15 else shapeFrom L names methods (i + 1) R
def headOk (L : List ClassA) : Bool :=
  match L with
  | a :: b :: _ => decide (a.super = -1) && decide (b.super = -1) && decide (a.fields = 4) && decide (b.fields = 0)
  | _ => false
/-- what is wrong with classes; 0: nothing -/
def shapeR (L : List ClassA) (names methods : Int) : Int :=
  if L.length < 2 ∨ 12 < L.length then 3 else if headOk L = false then 14 else shapeFrom L names methods 0 L
end Wd
end Go.Proofs.Ytlbekicalinglaa
