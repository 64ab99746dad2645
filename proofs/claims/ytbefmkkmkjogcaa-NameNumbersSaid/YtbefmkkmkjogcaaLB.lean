/- The landed names: letters, digits, signs; words and rows of signs. -/
import Derived.Test.YtbefmkkmkjogcaaIKp
import Derived.Lib.BytesEntry
import Derived.Lib.IndexLaws
namespace Go.Proofs.Ytbefmkkmkjogcaa
open Go.RowKit
set_option linter.unusedVariables false
set_option maxRecDepth 20000
namespace Wd
theorem slib_c (s : ByteArray) (c : Int) (w : World) :
    Calls Try.prog 41 #[.string s, .int .u8 c] w fun e w' => e = .returned (.int .i64 (Lib.indexByte s.data.toList c.toNat.toUInt8)) ∧ w' = w := by
  go_enter Try.func41, Try.ntmps41
  go_wp2
  rw [run_callFunc_extern Try.func45 (by kernel_rfl) (by kernel_rfl) (by kernel_rfl) (e := Extern.BytealgIndexByte.indexByte) (by kernel_rfl), Lib.run_indexByteString]
  simp only [Result.andThen]
  rw [Oper.upon_value]
  go_wp2
  go_ret
  exact ⟨rfl, rfl⟩
theorem sib_c (s : ByteArray) (c : Int) (w : World) :
    Calls Try.prog 32 #[.string s, .int .u8 c] w fun e w' => e = .returned (.int .i64 (Lib.indexByte s.data.toList c.toNat.toUInt8)) ∧ w' = w := by
  have P := slib_c s c w
  go_enter Try.func32, Try.ntmps32
  go_wp2_with fail
  refine P.mono ?_
  rintro e w1 ⟨rfl, hw⟩
  subst w1
  clear P
  go_wp2
  go_ret
  exact ⟨rfl, rfl⟩
def sgnB : ByteArray := ⟨#[43, 45, 42, 47, 60, 62, 61, 126, 38, 124, 37]⟩
def sgB (x : UInt8) : Bool := inR x.toNat sgnB
def ltB (x : UInt8) : Bool := letterR x.toNat
def dgB (x : UInt8) : Bool := decide (48 ≤ x.toNat ∧ x.toNat ≤ 57)
def okB (x : UInt8) : Bool := ltB x || dgB x || decide (x.toNat = 58)
theorem index_in (l : List UInt8) (x : UInt8) : decide (0 ≤ Lib.indexByte l x) = l.any fun y => y.toNat == x.toNat := by
  have hge := Lib.indexByte_ge l x
  by_cases h : 0 ≤ Lib.indexByte l x
  · obtain ⟨o, ho⟩ : ∃ o : Nat, Lib.indexByte l x = o := ⟨(Lib.indexByte l x).toNat, by omega⟩
    rw [decide_eq_true h]
    have := (Lib.indexByte_some ho).1
    exact (List.any_eq_true.2 ⟨x, List.mem_of_getElem? this, by simp⟩).symm
  · have h1 : Lib.indexByte l x = -1 := by omega
    rw [decide_eq_false h]
    symm
    rw [List.any_eq_false]
    intro y hy
    have e : ¬ y = x := by
      rintro rfl
      obtain ⟨k, hk⟩ := List.getElem?_of_mem hy
      exact Lib.indexByte_none h1 k hk
    intro h2
    exact e (UInt8.toNat_inj.1 (by simpa using h2))
theorem sign_c (x : UInt8) (w : World) :
    Calls Try.prog 24 #[.int .u8 (x.toNat : Nat)] w fun e w' => e = .returned (.bool (sgB x)) ∧ w' = w := by
  have P := sib_c ⟨#[43, 45, 42, 47, 60, 62, 61, 126, 38, 124, 37]⟩ (x.toNat : Nat) w
  have hi : decide (0 ≤ Lib.indexByte [43, 45, 42, 47, 60, 62, 61, 126, 38, 124, 37] x) = sgB x := index_in _ x
  rw [show ((x.toNat : Nat) : Int).toNat.toUInt8 = x by simp] at P
  change Calls _ _ _ _ (fun e w' => e = .returned (.int .i64 (Lib.indexByte [43, 45, 42, 47, 60, 62, 61, 126, 38, 124, 37] x)) ∧ w' = w) at P
  generalize Lib.indexByte [43, 45, 42, 47, 60, 62, 61, 126, 38, 124, 37] x = i at *
  generalize sgB x = b at *
  generalize ((x.toNat : Nat) : Int) = xi at *
  go_enter Try.func24, Try.ntmps24
  go_wp2_with fail
  refine P.mono ?_
  rintro e w1 ⟨rfl, hw⟩
  subst w1
  clear P
  go_wp2
  go_ret
  exact ⟨rfl, rfl⟩
theorem let_c (x : UInt8) (w : World) :
    Calls Try.prog 29 #[.int .u8 (x.toNat : Nat)] w fun e w' => e = .returned (.bool (ltB x)) ∧ w' = w := by
  unfold ltB letterR
  generalize x.toNat = c
  by_cases h1 : 97 ≤ c <;> by_cases h2 : c ≤ 122 <;> by_cases h3 : 65 ≤ c <;> by_cases h4 : c ≤ 90 <;> (try omega) <;> (
    have h1' : decide ((97 : Int) ≤ (c : Int)) = decide (97 ≤ c) := by simp <;> omega
    have h2' : decide ((c : Int) ≤ 122) = decide (c ≤ 122) := by simp <;> omega
    have h3' : decide ((65 : Int) ≤ (c : Int)) = decide (65 ≤ c) := by simp <;> omega
    have h4' : decide ((c : Int) ≤ 90) = decide (c ≤ 90) := by simp <;> omega
    simp only [h1, h2, h3, h4] at *
    go_enter Try.func29, Try.ntmps29
    go_wp2
    go_ret
    exact ⟨rfl, rfl⟩)
theorem dig_c (x : UInt8) (w : World) :
    Calls Try.prog 30 #[.int .u8 (x.toNat : Nat)] w fun e w' => e = .returned (.bool (dgB x)) ∧ w' = w := by
  unfold dgB
  generalize x.toNat = c
  by_cases h1 : 48 ≤ c <;> by_cases h2 : c ≤ 57 <;> (try omega) <;> (
    have h1' : decide ((48 : Int) ≤ (c : Int)) = decide (48 ≤ c) := by simp <;> omega
    have h2' : decide ((c : Int) ≤ 57) = decide (c ≤ 57) := by simp <;> omega
    simp only [h1, h2] at *
    go_enter Try.func30, Try.ntmps30
    go_wp2
    go_ret
    exact ⟨rfl, rfl⟩)
/-- so far: each is of the kind -/
def AllB (p : UInt8 → Bool) (b : ByteArray) (k : Nat) : Prop := ∀ j, j < k → ∀ x, b.data.toList[j]? = some x → p x = true
theorem AllB.start (p : UInt8 → Bool) (b : ByteArray) : AllB p b 0 := fun j hj => by omega
section
variable {p : UInt8 → Bool} {b : ByteArray} {k : Nat}
theorem AllB.step (h : AllB p b k) (hk : k < b.size) (e : p b[k] = true) : AllB p b (k + 1) := by
  intro j hj x hx
  rcases (show j < k ∨ j = k by omega) with hj | rfl
  · exact h j hj x hx
  · rw [ba_at hk] at hx; cases hx; exact e
theorem AllB.last (h : AllB p b k) (hk : ¬ k < b.size) : b.data.toList.all p = true := by
  rw [List.all_eq_true]
  intro x hx
  obtain ⟨j, hj⟩ := List.getElem?_of_mem hx
  have hl := (List.getElem?_eq_some_iff.1 hj).1
  have hs : b.data.toList.length = b.size := Array.length_toList
  exact h j (by omega) x hj
theorem all_bad (hk : k < b.size) (e : p b[k] = false) : b.data.toList.all p = false := by
  rw [List.all_eq_false]
  exact ⟨b[k], List.mem_of_getElem? (ba_at hk), by rw [e]; decide⟩
end
def headB (p : UInt8 → Bool) (b : ByteArray) : Bool := match b.data.toList with | [] => false | x :: _ => p x
theorem headB_eq {b : ByteArray} (p : UInt8 → Bool) (h : 0 < b.size) : headB p b = p b[0] := by
  have := ba_at h
  unfold headB
  cases hL : b.data.toList with
  | nil => rw [hL] at this; simp at this
  | cons x R => rw [hL] at this; simp at this; simp [this]
def wordB (b : ByteArray) : Bool := headB ltB b && b.data.toList.all okB
def signsB (b : ByteArray) : Bool := b.data.toList.all sgB && decide (b.size ≤ 2)
set_option maxHeartbeats 4000000 in
theorem word_c (b : ByteArray) (h1 : 1 ≤ b.size) (h16 : b.size ≤ 16) (w : World) :
    Calls Try.prog 21 #[.string b] w fun e w' => e = .returned (.bool (wordB b)) ∧ w' = w := by
  have hst := Lib.hid (AllB.start okB b)
  have h0 : 0 < b.size := h1
  have P0 := Lib.hid (let_c b[0])
  cases hl : ltB b[0] with
  | false =>
    have hr : Hid (wordB b = false) := Lib.hid (by unfold wordB; rw [headB_eq _ h0, hl, Bool.false_and])
    rw [hl] at P0
    clear hl hst
    go_enter Try.func21, Try.ntmps21
    go_wp2_with (first | (go_at_call 29; ((with_reducible refine (P0.out _).mono ?_); rintro e1 w2 ⟨rfl, hw2⟩; subst w2)))
    go_ret
    exact ⟨congrArg (fun b => Ending.returned (Value.bool b)) hr.out.symm, rfl⟩
  | true =>
    have hhd : Hid (headB ltB b = true) := Lib.hid (by rw [headB_eq _ h0, hl])
    rw [hl] at P0
    clear hl
    go_enter Try.func21, Try.ntmps21
    go_wp2_with (first | (go_at_call 29; ((with_reducible refine (P0.out _).mono ?_); rintro e1 w2 ⟨rfl, hw2⟩; subst w2)))
    clear P0
    go_loopw [11] (fun i wr => ∃ (k : Nat), k ≤ b.size ∧ i = .int .i64 k ∧ Hid (AllB okB b k) ∧ wr = w) (fun i _ => b.size - (intOf i).toNat)
    case atStart => exact ⟨0, by omega, rfl, hst, rfl⟩
    case round =>
      obtain ⟨k, hk, rfl, hA, rfl⟩ := hrel
      by_cases h : k < b.size
      · have h' : (k : Int) < (b.size : Int) := by omega
        have PL := Lib.hid (let_c b[k])
        have PD := Lib.hid (dig_c b[k])
        by_cases hok : okB b[k] = true
        · have hA' := Lib.hid (hA.out.step h hok)
          unfold okB at hok
          cases hl : ltB b[k] with
          | true =>
            rw [hl] at PL
            clear hok hl
            go_wp2_with (first | (go_at_call 29; ((with_reducible refine (PL.out _).mono ?_); rintro e1 w2 ⟨rfl, hw2⟩; subst w2)) | (go_at_call 30; ((with_reducible refine (PD.out _).mono ?_); rintro e1 w2 ⟨rfl, hw2⟩; subst w2)))
            go_roundw
            case rel => exact ⟨k + 1, by omega, by go_num, hA', trivial⟩
            case measure => simp [intOf]; omega
          | false =>
            rw [hl] at PL
            cases hd : dgB b[k] with
            | true =>
              rw [hd] at PD
              clear hok hl hd
              go_wp2_with (first | (go_at_call 29; ((with_reducible refine (PL.out _).mono ?_); rintro e1 w2 ⟨rfl, hw2⟩; subst w2)) | (go_at_call 30; ((with_reducible refine (PD.out _).mono ?_); rintro e1 w2 ⟨rfl, hw2⟩; subst w2)))
              go_roundw
              case rel => exact ⟨k + 1, by omega, by go_num, hA', trivial⟩
              case measure => simp [intOf]; omega
            | false =>
              rw [hd] at PD
              rw [hl, hd] at hok
              have hx : b[k].toNat = 58 := by simpa using hok
              have hx' : ((b[k].toNat : Int) == 58) = true := by simp [hx]
              have hx2 : ((b[k].toNat : Int) != 58) = false := by simp [hx]
              clear hok hl hd hx
              go_wp2_with (first | (go_at_call 29; ((with_reducible refine (PL.out _).mono ?_); rintro e1 w2 ⟨rfl, hw2⟩; subst w2)) | (go_at_call 30; ((with_reducible refine (PD.out _).mono ?_); rintro e1 w2 ⟨rfl, hw2⟩; subst w2)))
              go_roundw
              case rel => exact ⟨k + 1, by omega, by go_num, hA', trivial⟩
              case measure => simp [intOf]; omega
        · rw [Bool.not_eq_true] at hok
          have hr : Hid (wordB b = false) := Lib.hid (by unfold wordB; rw [all_bad h hok, Bool.and_false])
          unfold okB at hok
          rw [Bool.or_eq_false_iff, Bool.or_eq_false_iff] at hok
          obtain ⟨⟨hl, hd⟩, hx⟩ := hok
          have hx0 : ¬ b[k].toNat = 58 := by simpa using hx
          have hx' : ((b[k].toNat : Int) == 58) = false := by rw [beq_eq_false_iff_ne]; omega
          have hx2 : ((b[k].toNat : Int) != 58) = true := by rw [bne_iff_ne]; omega
          rw [hl] at PL
          rw [hd] at PD
          clear hl hd hx hx0
          go_wp2_with (first | (go_at_call 29; ((with_reducible refine (PL.out _).mono ?_); rintro e1 w2 ⟨rfl, hw2⟩; subst w2)) | (go_at_call 30; ((with_reducible refine (PD.out _).mono ?_); rintro e1 w2 ⟨rfl, hw2⟩; subst w2)))
          go_ret
          exact ⟨congrArg (fun b => Ending.returned (Value.bool b)) hr.out.symm, rfl⟩
      · have hr : Hid (wordB b = true) := Lib.hid (by unfold wordB; rw [hA.out.last h, hhd.out]; rfl)
        have h' : ¬ (k : Int) < (b.size : Int) := by omega
        go_wp2
        go_ret
        exact ⟨congrArg (fun b => Ending.returned (Value.bool b)) hr.out.symm, rfl⟩
set_option maxHeartbeats 4000000 in
theorem signs_c (b : ByteArray) (h16 : b.size ≤ 16) (w : World) :
    Calls Try.prog 22 #[.string b] w fun e w' => e = .returned (.bool (signsB b)) ∧ w' = w := by
  have hst := Lib.hid (AllB.start sgB b)
  go_enter Try.func22, Try.ntmps22
  go_wp2
  go_loopw [6] (fun i wr => ∃ (k : Nat), k ≤ b.size ∧ i = .int .i64 k ∧ Hid (AllB sgB b k) ∧ wr = w) (fun i _ => b.size - (intOf i).toNat)
  case atStart => exact ⟨0, by omega, rfl, hst, rfl⟩
  case round =>
    obtain ⟨k, hk, rfl, hA, rfl⟩ := hrel
    by_cases h : k < b.size
    · have h' : (k : Int) < (b.size : Int) := by omega
      have PS := Lib.hid (sign_c b[k])
      cases hs : sgB b[k] with
      | true =>
        have hA' := Lib.hid (hA.out.step h hs)
        rw [hs] at PS
        clear hs
        go_wp2_with (first | (go_at_call 24; ((with_reducible refine (PS.out _).mono ?_); rintro e1 w2 ⟨rfl, hw2⟩; subst w2)))
        go_roundw
        case rel => exact ⟨k + 1, by omega, by go_num, hA', trivial⟩
        case measure => simp [intOf]; omega
      | false =>
        have hr : Hid (signsB b = false) := Lib.hid (by unfold signsB; rw [all_bad h hs, Bool.false_and])
        rw [hs] at PS
        clear hs
        go_wp2_with (first | (go_at_call 24; ((with_reducible refine (PS.out _).mono ?_); rintro e1 w2 ⟨rfl, hw2⟩; subst w2)))
        go_ret
        exact ⟨congrArg (fun b => Ending.returned (Value.bool b)) hr.out.symm, rfl⟩
    · have h' : ¬ (k : Int) < (b.size : Int) := by omega
      have hr : Hid (signsB b = decide ((b.size : Int) ≤ 2)) := Lib.hid (by unfold signsB; rw [hA.out.last h, Bool.true_and]; exact decide_eq_decide.2 (by omega))
      go_wp2
      go_ret
      exact ⟨congrArg (fun b => Ending.returned (Value.bool b)) hr.out.symm, rfl⟩
end Wd
end Go.Proofs.Ytbefmkkmkjogcaa
