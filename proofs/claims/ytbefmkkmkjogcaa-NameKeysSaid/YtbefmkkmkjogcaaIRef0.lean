/- Names, judged by the document: which byte is of which kind. -/
import Derived.Test.YtbefmkkmkjogcaaRows
import Derived.WalkKit
import Derived.WalkSpells
import Derived.WalkLawsBesides
import Derived.Handy
import Derived.Lib.Hide
import Derived.BigQuiet
namespace Go.Proofs.Ytbefmkkmkjogcaa
open Go.RowKit
set_option linter.unusedVariables false
set_option maxRecDepth 20000
namespace Wd
/-- a byte is one of the text's -/
def inR (c : Nat) (b : ByteArray) : Bool := b.data.toList.any fun x => x.toNat == c
/-- none ahead of k -/
def NotIn (c : Nat) (b : ByteArray) (k : Nat) : Prop := ∀ j, j < k → ∀ x, b.data.toList[j]? = some x → x.toNat ≠ c
theorem NotIn.start (c : Nat) (b : ByteArray) : NotIn c b 0 := fun j hj => by omega
theorem ba_at {b : ByteArray} {k : Nat} (h : k < b.size) : b.data.toList[k]? = some b[k] := by
  rw [List.getElem?_eq_getElem (by simpa using h)]; rfl
theorem NotIn.step {c : Nat} {b : ByteArray} {k : Nat} (h : NotIn c b k) (hk : k < b.size) (e : b[k].toNat ≠ c) : NotIn c b (k + 1) := by
  intro j hj x hx
  rcases (show j < k ∨ j = k by omega) with hj | rfl
  · exact h j hj x hx
  · rw [ba_at hk] at hx; cases hx; exact e
theorem NotIn.last {c : Nat} {b : ByteArray} {k : Nat} (h : NotIn c b k) (hk : ¬ k < b.size) : inR c b = false := by
  unfold inR
  rw [List.any_eq_false]
  intro x hx
  obtain ⟨j, hj⟩ := List.getElem?_of_mem hx
  have hl := (List.getElem?_eq_some_iff.1 hj).1
  have hs : b.data.toList.length = b.size := Array.length_toList
  have := h j (by omega) x hj
  simpa using this
theorem inR_at {c : Nat} {b : ByteArray} {k : Nat} (hk : k < b.size) (e : b[k].toNat = c) : inR c b = true := by
  unfold inR
  rw [List.any_eq_true]
  exact ⟨b[k], List.mem_of_getElem? (ba_at hk), by simpa using e⟩
theorem in_c (c : Nat) (b : ByteArray) (hb : b.size < 1000) (w : World) :
    Calls Try.prog 27 #[.int .u8 c, .string b] w fun e w' => e = .returned (.bool (inR c b)) ∧ w' = w := by
  have hst := Lib.hid (NotIn.start c b)
  go_enter Try.func27, Try.ntmps27
  go_wp2
  go_loopw [5] (fun i5 wr => ∃ (k : Nat), k ≤ b.size ∧ i5 = .int .i64 k ∧ Hid (NotIn c b k) ∧ wr = w) (fun i5 _ => b.size - (intOf i5).toNat)
  case atStart => exact ⟨0, by omega, rfl, hst, rfl⟩
  case round =>
    obtain ⟨k, hk, rfl, hN, rfl⟩ := hrel
    by_cases h : k < b.size
    · have h' : (k : Int) < (b.size : Int) := by omega
      by_cases he : b[k].toNat = c
      · have e := Lib.hid (inR_at h he)
        have he' : ((b[k].toNat : Int) == (c : Int)) = true := by simp [he]
        clear he
        go_wp2
        go_ret
        exact ⟨congrArg (fun b => Ending.returned (Value.bool b)) e.out.symm, rfl⟩
      · have hN' := Lib.hid (hN.out.step h he)
        have he' : ((b[k].toNat : Int) == (c : Int)) = false := by
          rw [beq_eq_false_iff_ne]; intro e; exact he (by omega)
        clear he
        go_wp2
        go_roundw
        case rel => exact ⟨k + 1, by omega, by go_num, hN', trivial⟩
        case measure => simp [intOf]; omega
    · have e := Lib.hid (hN.out.last h)
      have h' : ¬ (k : Int) < (b.size : Int) := by omega
      go_wp2
      go_ret
      exact ⟨congrArg (fun b => Ending.returned (Value.bool b)) e.out.symm, rfl⟩
def letterR (c : Nat) : Bool := decide (97 ≤ c ∧ c ≤ 122 ∨ 65 ≤ c ∧ c ≤ 90)
theorem letter_c (c : Nat) (w : World) :
    Calls Try.prog 28 #[.int .u8 c] w fun e w' => e = .returned (.bool (letterR c)) ∧ w' = w := by
  unfold letterR
  by_cases h1 : 97 ≤ c <;> by_cases h2 : c ≤ 122 <;> by_cases h3 : 65 ≤ c <;> by_cases h4 : c ≤ 90 <;> (try omega) <;> (
    have h1' : decide ((97 : Int) ≤ (c : Int)) = decide (97 ≤ c) := by simp <;> omega
    have h2' : decide ((c : Int) ≤ 122) = decide (c ≤ 122) := by simp <;> omega
    have h3' : decide ((65 : Int) ≤ (c : Int)) = decide (65 ≤ c) := by simp <;> omega
    have h4' : decide ((c : Int) ≤ 90) = decide (c ≤ 90) := by simp <;> omega
    simp only [h1, h2, h3, h4] at *
    go_enter Try.func28, Try.ntmps28
    go_wp2
    go_ret
    exact ⟨rfl, rfl⟩)
theorem text1_c (b : ByteArray) (w : World) :
    Calls Try.prog 26 #[.string b] w fun e w' => e = .returned (.bool (decide (1 ≤ b.size ∧ b.size ≤ 16))) ∧ w' = w := by
  by_cases h1 : 1 ≤ b.size
  · have h1' : (1 : Int) ≤ (b.size : Int) := by omega
    by_cases h2 : b.size ≤ 16
    · have e : decide (1 ≤ b.size ∧ b.size ≤ 16) = true := by simp [h1, h2]
      rw [e]; clear e
      have h2' : (b.size : Int) ≤ 16 := by omega
      go_enter Try.func26, Try.ntmps26
      go_wp2
      go_ret
      exact ⟨rfl, rfl⟩
    · have e : decide (1 ≤ b.size ∧ b.size ≤ 16) = false := by simp [h2]
      rw [e]; clear e
      have h2' : ¬ (b.size : Int) ≤ 16 := by omega
      go_enter Try.func26, Try.ntmps26
      go_wp2
      go_ret
      exact ⟨rfl, rfl⟩
  · have e : decide (1 ≤ b.size ∧ b.size ≤ 16) = false := by simp [h1]
    rw [e]; clear e
    have h1' : ¬ (1 : Int) ≤ (b.size : Int) := by omega
    go_enter Try.func26, Try.ntmps26
    go_wp2
    go_ret
    exact ⟨rfl, rfl⟩
end Wd
end Go.Proofs.Ytbefmkkmkjogcaa
