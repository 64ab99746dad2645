/- Texts joined: VA, LB, LR, VB, SLaw, QBase. -/
import Derived.Test.YtgfnelhbdhbklaaGreatJ1
import Derived.Test.YtgfnelhbdhbklaaGreatJ3
import Derived.Lib.BytesEntry
import Derived.Lib.IndexLaws
import Derived.Lib.CountLaws
/- The landed programs: one of so many, how much of each, a value, fields, the class of an object. -/
namespace Go.Proofs.YtgfnelhbdhbklaaGreat
open Go.RowKit
set_option linter.unusedVariables false
set_option maxRecDepth 20000
namespace Wd
theorem uisOne_c (x n : Int) (w : World) : Calls Tryz.prog 63 #[.int .i64 x, .int .i64 n] w fun e w' => e = .returned (.bool (decide (0 ≤ x) && decide (x < n))) ∧ w' = w := by
  by_cases h : 0 ≤ x
  · have d1 : decide (x ≥ 0) = true := by simpa using h
    rw [decide_eq_true h]
    go_enter Tryz.func63, Tryz.ntmps63
    go_wp2
    go_ret
    exact ⟨rfl, rfl⟩
  · have d1 : decide (x ≥ 0) = false := by simpa using h
    rw [decide_eq_false h]
    go_enter Tryz.func63, Tryz.ntmps63
    go_wp2
    go_ret
    exact ⟨rfl, rfl⟩
set_option maxHeartbeats 8000000 in
theorem uval_c (kx x : Int) (no : Nat) (w : World) : Calls Tryz.prog 117 #[.agg #[.int .i64 kx, .int .i64 x], .int .i64 (no : Int)] w fun e w' => e = .returned (.bool (fldOk (kx, x) no)) ∧ Below w.heap.size w w' := by
  have hB := Lib.hid ((Below.refl w.heap.size w).alloc (Nat.le_refl _) (.cells #[.int .i64 kx, .int .i64 x] 68))
  by_cases k012 : kx = 0 ∨ kx = 1 ∨ kx = 2
  · have ef := Lib.hid (fld_012 (x := x) no k012)
    generalize fldOk (kx, x) no = r at *
    rcases k012 with rfl | rfl | rfl <;> (
      go_enter Tryz.func117, Tryz.ntmps117
      go_wp2
      go_ret
      exact ⟨congrArg (fun b => Ending.returned (Value.bool b)) ef.out.symm, hB.out⟩)
  by_cases k3 : kx = 3
  · subst k3
    clear k012
    have ef := Lib.hid (fld_3 x no)
    generalize fldOk (3, x) no = r at *
    unfold num30 at ef
    by_cases h : -1073741824 ≤ x
    · have d1 : decide (x ≥ -1073741824) = true := by simpa using h
      rw [decide_eq_true h, Bool.true_and] at ef
      go_enter Tryz.func117, Tryz.ntmps117
      go_wp2
      go_ret
      exact ⟨congrArg (fun b => Ending.returned (Value.bool b)) ef.out.symm, hB.out⟩
    · have d1 : decide (x ≥ -1073741824) = false := by simpa using h
      rw [decide_eq_false h, Bool.false_and] at ef
      go_enter Tryz.func117, Tryz.ntmps117
      go_wp2
      go_ret
      exact ⟨congrArg (fun b => Ending.returned (Value.bool b)) ef.out.symm, hB.out⟩
  by_cases k4 : kx = 4
  · subst k4
    clear k012 k3
    have ef := Lib.hid (fld_4 x no)
    generalize fldOk (4, x) no = r at *
    unfold inN at ef
    have PI := Lib.hid (uisOne_c x (no : Int))
    go_enter Tryz.func117, Tryz.ntmps117
    go_wp2_with (first | (go_at_call 63; ((with_reducible refine (PI.out _).mono ?_); rintro e1 w2 ⟨rfl, hw2⟩; subst w2)))
    go_ret
    exact ⟨congrArg (fun b => Ending.returned (Value.bool b)) ef.out.symm, hB.out⟩
  have ef := Lib.hid (fld_no (x := x) no k012 k3 k4)
  have f0 : (kx == 0) = false := by rw [beq_eq_false_iff_ne]; exact fun h => k012 (Or.inl h)
  have f1 : (kx == 1) = false := by rw [beq_eq_false_iff_ne]; exact fun h => k012 (Or.inr (Or.inl h))
  have f2 : (kx == 2) = false := by rw [beq_eq_false_iff_ne]; exact fun h => k012 (Or.inr (Or.inr h))
  have f3 : (kx == 3) = false := by simpa using k3
  have f4 : (kx == 4) = false := by simpa using k4
  generalize fldOk (kx, x) no = r at *
  clear k012 k3 k4
  go_enter Tryz.func117, Tryz.ntmps117
  go_wp2
  go_ret
  exact ⟨congrArg (fun b => Ending.returned (Value.bool b)) ef.out.symm, hB.out⟩
set_option maxHeartbeats 8000000 in
theorem ufields_c {w : World} {v : Value} {L : List (Int × Int)} (h : PrV w v L) (no : Nat) : Calls Tryz.prog 95 #[v, .int .i64 (no : Int)] w fun e w' => e = .returned (.bool (L.all (fldOk · no))) ∧ Below w.heap.size w w' := by
  obtain ⟨ad, cap, rfl, hc1, hc2⟩ := h.form
  have hle := len_le (Nat.le_trans hc1 hc2)
  obtain ⟨n, hn⟩ : ∃ n, n = L.length := ⟨_, rfl⟩
  have hn' := Lib.hid hn
  rw [← hn] at h hle ⊢
  replace h := Lib.hid h
  have hst := Lib.hid (FdR.start L no)
  clear hn hc1 hc2
  go_enter Tryz.func95, Tryz.ntmps95
  go_wp2
  go_loopw [9] (fun i9 wr => ∃ (j : Nat), j ≤ n ∧ i9 = .int .i64 j ∧ Hid (FdR L no j) ∧ Hid (Below w.heap.size w wr)) (fun i9 _ => n - (intOf i9).toNat)
  case atStart => exact ⟨0, by omega, rfl, hst, Lib.hid (Below.refl _ _)⟩
  case round =>
    clear hst
    obtain ⟨j, hj, rfl, hR, hB⟩ := hrel
    by_cases hlt : j < n
    · have hlt' : decide ((j : Int) < (n : Int)) = true := by simp; omega
      have p0 : (0 : Int) ≤ (j : Int) := by omega
      have p1 : (j : Int) < (n : Int) := by omega
      obtain ⟨⟨kx, x⟩, hx⟩ : ∃ x, L[j]? = some x := ⟨L[j]'(by have := hn'.out; omega), by simp⟩
      obtain ⟨_, _, g, off, rfl, c0, c1⟩ := PrV.at (h.out.up hB.out) hx
      simp only at c0 c1
      have hx' := Lib.hid hx
      have hB2 := Lib.hid (hB.out.alloc hB.out.size (.cells #[.int .i64 kx, .int .i64 x] 68))
      have PV := Lib.hid (uval_c kx x no)
      clear hx hlt
      cases hv : fldOk (kx, x) no with
      | true =>
        have hR' := Lib.hid (hR.out.step hx'.out hv)
        rw [hv] at PV
        clear hv
        go_wp2_with (first | (go_at_call 117; ((with_reducible refine (PV.out _).mono ?_); rintro e1 w2 ⟨rfl, hb⟩)))
        go_roundw
        case rel => exact ⟨j + 1, by omega, by go_num, hR', Lib.hid (hB2.out.trans (hb.mono hB2.out.size))⟩
        case measure => simp [intOf]; omega
      | false =>
        have e := Lib.hid (fd_bad hx'.out hv)
        rw [hv] at PV
        clear hv
        go_wp2_with (first | (go_at_call 117; ((with_reducible refine (PV.out _).mono ?_); rintro e1 w2 ⟨rfl, hb⟩)))
        go_ret
        exact ⟨congrArg (fun b => Ending.returned (Value.bool b)) e.out.symm, hB2.out.trans (hb.mono hB2.out.size)⟩
    · have e : Hid (L.all (fldOk · no) = true) := Lib.hid (FdR.last (by have := hR.out; rw [show j = L.length by have := hn'.out; omega] at this; exact this))
      have hlt' : decide ((j : Int) < (n : Int)) = false := by simp; omega
      go_wp2
      go_ret
      exact ⟨congrArg (fun b => Ending.returned (Value.bool b)) e.out.symm, hB.out⟩
end Wd
end Go.Proofs.YtgfnelhbdhbklaaGreat

/- The landed names: letters, digits, signs; words and rows of signs. -/
namespace Go.Proofs.YtgfnelhbdhbklaaGreat
open Go.RowKit
set_option linter.unusedVariables false
set_option maxRecDepth 20000
namespace Wd
theorem slib_c (s : ByteArray) (c : Int) (w : World) :
    Calls Tryz.prog 138 #[.string s, .int .u8 c] w fun e w' => e = .returned (.int .i64 (Lib.indexByte s.data.toList c.toNat.toUInt8)) ∧ w' = w := by
  go_enter Tryz.func138, Tryz.ntmps138
  go_wp2
  rw [run_callFunc_extern Tryz.func140 (by kernel_rfl) (by kernel_rfl) (by kernel_rfl) (e := Extern.BytealgIndexByte.indexByte) (by kernel_rfl), Lib.run_indexByteString]
  simp only [Result.andThen]
  rw [Oper.upon_value]
  go_wp2
  go_ret
  exact ⟨rfl, rfl⟩
theorem sib_c (s : ByteArray) (c : Int) (w : World) :
    Calls Tryz.prog 128 #[.string s, .int .u8 c] w fun e w' => e = .returned (.int .i64 (Lib.indexByte s.data.toList c.toNat.toUInt8)) ∧ w' = w := by
  have P := slib_c s c w
  go_enter Tryz.func128, Tryz.ntmps128
  go_wp2_with fail
  refine P.mono ?_
  rintro e w1 ⟨rfl, hw⟩
  subst w1
  clear P
  go_wp2
  go_ret
  exact ⟨rfl, rfl⟩
def sgnB : ByteArray := ⟨#[43, 45, 42, 47, 60, 62, 61, 126, 38, 124, 37]⟩
def sgB (x : UInt8) : Bool := inR x.toNat sgnB
def ltB (x : UInt8) : Bool := letterR x.toNat
def dgB (x : UInt8) : Bool := decide (48 ≤ x.toNat ∧ x.toNat ≤ 57)
def okB (x : UInt8) : Bool := ltB x || dgB x || decide (x.toNat = 58)
theorem index_in (l : List UInt8) (x : UInt8) : decide (0 ≤ Lib.indexByte l x) = l.any fun y => y.toNat == x.toNat := by
  have hge := Lib.indexByte_ge l x
  by_cases h : 0 ≤ Lib.indexByte l x
  · obtain ⟨o, ho⟩ : ∃ o : Nat, Lib.indexByte l x = o := ⟨(Lib.indexByte l x).toNat, by omega⟩
    rw [decide_eq_true h]
    have := (Lib.indexByte_some ho).1
    exact (List.any_eq_true.2 ⟨x, List.mem_of_getElem? this, by simp⟩).symm
  · have h1 : Lib.indexByte l x = -1 := by omega
    rw [decide_eq_false h]
    symm
    rw [List.any_eq_false]
    intro y hy
    have e : ¬ y = x := by
      rintro rfl
      obtain ⟨k, hk⟩ := List.getElem?_of_mem hy
      exact Lib.indexByte_none h1 k hk
    intro h2
    exact e (UInt8.toNat_inj.1 (by simpa using h2))
theorem sign_c (x : UInt8) (w : World) :
    Calls Tryz.prog 120 #[.int .u8 (x.toNat : Nat)] w fun e w' => e = .returned (.bool (sgB x)) ∧ w' = w := by
  have P := sib_c ⟨#[43, 45, 42, 47, 60, 62, 61, 126, 38, 124, 37]⟩ (x.toNat : Nat) w
  have hi : decide (0 ≤ Lib.indexByte [43, 45, 42, 47, 60, 62, 61, 126, 38, 124, 37] x) = sgB x := index_in _ x
  rw [show ((x.toNat : Nat) : Int).toNat.toUInt8 = x by simp] at P
  change Calls _ _ _ _ (fun e w' => e = .returned (.int .i64 (Lib.indexByte [43, 45, 42, 47, 60, 62, 61, 126, 38, 124, 37] x)) ∧ w' = w) at P
  generalize Lib.indexByte [43, 45, 42, 47, 60, 62, 61, 126, 38, 124, 37] x = i at *
  generalize sgB x = b at *
  generalize ((x.toNat : Nat) : Int) = xi at *
  go_enter Tryz.func120, Tryz.ntmps120
  go_wp2_with fail
  refine P.mono ?_
  rintro e w1 ⟨rfl, hw⟩
  subst w1
  clear P
  go_wp2
  go_ret
  exact ⟨rfl, rfl⟩
theorem let_c (x : UInt8) (w : World) :
    Calls Tryz.prog 118 #[.int .u8 (x.toNat : Nat)] w fun e w' => e = .returned (.bool (ltB x)) ∧ w' = w := by
  unfold ltB letterR
  generalize x.toNat = c
  by_cases h1 : 97 ≤ c <;> by_cases h2 : c ≤ 122 <;> by_cases h3 : 65 ≤ c <;> by_cases h4 : c ≤ 90 <;> (try omega) <;> (
    have h1' : decide ((97 : Int) ≤ (c : Int)) = decide (97 ≤ c) := by simp <;> omega
    have h2' : decide ((c : Int) ≤ 122) = decide (c ≤ 122) := by simp <;> omega
    have h3' : decide ((65 : Int) ≤ (c : Int)) = decide (65 ≤ c) := by simp <;> omega
    have h4' : decide ((c : Int) ≤ 90) = decide (c ≤ 90) := by simp <;> omega
    simp only [h1, h2, h3, h4] at *
    go_enter Tryz.func118, Tryz.ntmps118
    go_wp2
    go_ret
    exact ⟨rfl, rfl⟩)
theorem dig_c (x : UInt8) (w : World) :
    Calls Tryz.prog 119 #[.int .u8 (x.toNat : Nat)] w fun e w' => e = .returned (.bool (dgB x)) ∧ w' = w := by
  unfold dgB
  generalize x.toNat = c
  by_cases h1 : 48 ≤ c <;> by_cases h2 : c ≤ 57 <;> (try omega) <;> (
    have h1' : decide ((48 : Int) ≤ (c : Int)) = decide (48 ≤ c) := by simp <;> omega
    have h2' : decide ((c : Int) ≤ 57) = decide (c ≤ 57) := by simp <;> omega
    simp only [h1, h2] at *
    go_enter Tryz.func119, Tryz.ntmps119
    go_wp2
    go_ret
    exact ⟨rfl, rfl⟩)
/-- so far: each is of the kind -/
def AllB (p : UInt8 → Bool) (b : ByteArray) (k : Nat) : Prop := ∀ j, j < k → ∀ x, b.data.toList[j]? = some x → p x = true
theorem AllB.start (p : UInt8 → Bool) (b : ByteArray) : AllB p b 0 := fun j hj => by omega
section
variable {p : UInt8 → Bool} {b : ByteArray} {k : Nat}
theorem AllB.step (h : AllB p b k) (hk : k < b.size) (e : p b[k] = true) : AllB p b (k + 1) := by
  intro j hj x hx
  rcases (show j < k ∨ j = k by omega) with hj | rfl
  · exact h j hj x hx
  · rw [ba_at hk] at hx; cases hx; exact e
theorem AllB.last (h : AllB p b k) (hk : ¬ k < b.size) : b.data.toList.all p = true := by
  rw [List.all_eq_true]
  intro x hx
  obtain ⟨j, hj⟩ := List.getElem?_of_mem hx
  have hl := (List.getElem?_eq_some_iff.1 hj).1
  have hs : b.data.toList.length = b.size := Array.length_toList
  exact h j (by omega) x hj
theorem all_bad (hk : k < b.size) (e : p b[k] = false) : b.data.toList.all p = false := by
  rw [List.all_eq_false]
  exact ⟨b[k], List.mem_of_getElem? (ba_at hk), by rw [e]; decide⟩
end
def headB (p : UInt8 → Bool) (b : ByteArray) : Bool := match b.data.toList with | [] => false | x :: _ => p x
theorem headB_eq {b : ByteArray} (p : UInt8 → Bool) (h : 0 < b.size) : headB p b = p b[0] := by
  have := ba_at h
  unfold headB
  cases hL : b.data.toList with
  | nil => rw [hL] at this; simp at this
  | cons x R => rw [hL] at this; simp at this; simp [this]
def wordB (b : ByteArray) : Bool := headB ltB b && b.data.toList.all okB
def signsB (b : ByteArray) : Bool := b.data.toList.all sgB && decide (b.size ≤ 2)
set_option maxHeartbeats 4000000 in
theorem word_c (b : ByteArray) (h1 : 1 ≤ b.size) (h16 : b.size ≤ 16) (w : World) :
    Calls Tryz.prog 103 #[.string b] w fun e w' => e = .returned (.bool (wordB b)) ∧ w' = w := by
  have hst := Lib.hid (AllB.start okB b)
  have h0 : 0 < b.size := h1
  have P0 := Lib.hid (let_c b[0])
  cases hl : ltB b[0] with
  | false =>
    have hr : Hid (wordB b = false) := Lib.hid (by unfold wordB; rw [headB_eq _ h0, hl, Bool.false_and])
    rw [hl] at P0
    clear hl hst
    go_enter Tryz.func103, Tryz.ntmps103
    go_wp2_with (first | (go_at_call 118; ((with_reducible refine (P0.out _).mono ?_); rintro e1 w2 ⟨rfl, hw2⟩; subst w2)))
    go_ret
    exact ⟨congrArg (fun b => Ending.returned (Value.bool b)) hr.out.symm, rfl⟩
  | true =>
    have hhd : Hid (headB ltB b = true) := Lib.hid (by rw [headB_eq _ h0, hl])
    rw [hl] at P0
    clear hl
    go_enter Tryz.func103, Tryz.ntmps103
    go_wp2_with (first | (go_at_call 118; ((with_reducible refine (P0.out _).mono ?_); rintro e1 w2 ⟨rfl, hw2⟩; subst w2)))
    clear P0
    go_loopw [11] (fun i wr => ∃ (k : Nat), k ≤ b.size ∧ i = .int .i64 k ∧ Hid (AllB okB b k) ∧ wr = w) (fun i _ => b.size - (intOf i).toNat)
    case atStart => exact ⟨0, by omega, rfl, hst, rfl⟩
    case round =>
      obtain ⟨k, hk, rfl, hA, rfl⟩ := hrel
      by_cases h : k < b.size
      · have h' : (k : Int) < (b.size : Int) := by omega
        have PL := Lib.hid (let_c b[k])
        have PD := Lib.hid (dig_c b[k])
        by_cases hok : okB b[k] = true
        · have hA' := Lib.hid (hA.out.step h hok)
          unfold okB at hok
          cases hl : ltB b[k] with
          | true =>
            rw [hl] at PL
            clear hok hl
            go_wp2_with (first | (go_at_call 118; ((with_reducible refine (PL.out _).mono ?_); rintro e1 w2 ⟨rfl, hw2⟩; subst w2)) | (go_at_call 119; ((with_reducible refine (PD.out _).mono ?_); rintro e1 w2 ⟨rfl, hw2⟩; subst w2)))
            go_roundw
            case rel => exact ⟨k + 1, by omega, by go_num, hA', trivial⟩
            case measure => simp [intOf]; omega
          | false =>
            rw [hl] at PL
            cases hd : dgB b[k] with
            | true =>
              rw [hd] at PD
              clear hok hl hd
              go_wp2_with (first | (go_at_call 118; ((with_reducible refine (PL.out _).mono ?_); rintro e1 w2 ⟨rfl, hw2⟩; subst w2)) | (go_at_call 119; ((with_reducible refine (PD.out _).mono ?_); rintro e1 w2 ⟨rfl, hw2⟩; subst w2)))
              go_roundw
              case rel => exact ⟨k + 1, by omega, by go_num, hA', trivial⟩
              case measure => simp [intOf]; omega
            | false =>
              rw [hd] at PD
              rw [hl, hd] at hok
              have hx : b[k].toNat = 58 := by simpa using hok
              have hx' : ((b[k].toNat : Int) == 58) = true := by simp [hx]
              have hx2 : ((b[k].toNat : Int) != 58) = false := by simp [hx]
              clear hok hl hd hx
              go_wp2_with (first | (go_at_call 118; ((with_reducible refine (PL.out _).mono ?_); rintro e1 w2 ⟨rfl, hw2⟩; subst w2)) | (go_at_call 119; ((with_reducible refine (PD.out _).mono ?_); rintro e1 w2 ⟨rfl, hw2⟩; subst w2)))
              go_roundw
              case rel => exact ⟨k + 1, by omega, by go_num, hA', trivial⟩
              case measure => simp [intOf]; omega
        · rw [Bool.not_eq_true] at hok
          have hr : Hid (wordB b = false) := Lib.hid (by unfold wordB; rw [all_bad h hok, Bool.and_false])
          unfold okB at hok
          rw [Bool.or_eq_false_iff, Bool.or_eq_false_iff] at hok
          obtain ⟨⟨hl, hd⟩, hx⟩ := hok
          have hx0 : ¬ b[k].toNat = 58 := by simpa using hx
          have hx' : ((b[k].toNat : Int) == 58) = false := by rw [beq_eq_false_iff_ne]; omega
          have hx2 : ((b[k].toNat : Int) != 58) = true := by rw [bne_iff_ne]; omega
          rw [hl] at PL
          rw [hd] at PD
          clear hl hd hx hx0
          go_wp2_with (first | (go_at_call 118; ((with_reducible refine (PL.out _).mono ?_); rintro e1 w2 ⟨rfl, hw2⟩; subst w2)) | (go_at_call 119; ((with_reducible refine (PD.out _).mono ?_); rintro e1 w2 ⟨rfl, hw2⟩; subst w2)))
          go_ret
          exact ⟨congrArg (fun b => Ending.returned (Value.bool b)) hr.out.symm, rfl⟩
      · have hr : Hid (wordB b = true) := Lib.hid (by unfold wordB; rw [hA.out.last h, hhd.out]; rfl)
        have h' : ¬ (k : Int) < (b.size : Int) := by omega
        go_wp2
        go_ret
        exact ⟨congrArg (fun b => Ending.returned (Value.bool b)) hr.out.symm, rfl⟩
set_option maxHeartbeats 4000000 in
theorem signs_c (b : ByteArray) (h16 : b.size ≤ 16) (w : World) :
    Calls Tryz.prog 104 #[.string b] w fun e w' => e = .returned (.bool (signsB b)) ∧ w' = w := by
  have hst := Lib.hid (AllB.start sgB b)
  go_enter Tryz.func104, Tryz.ntmps104
  go_wp2
  go_loopw [6] (fun i wr => ∃ (k : Nat), k ≤ b.size ∧ i = .int .i64 k ∧ Hid (AllB sgB b k) ∧ wr = w) (fun i _ => b.size - (intOf i).toNat)
  case atStart => exact ⟨0, by omega, rfl, hst, rfl⟩
  case round =>
    obtain ⟨k, hk, rfl, hA, rfl⟩ := hrel
    by_cases h : k < b.size
    · have h' : (k : Int) < (b.size : Int) := by omega
      have PS := Lib.hid (sign_c b[k])
      cases hs : sgB b[k] with
      | true =>
        have hA' := Lib.hid (hA.out.step h hs)
        rw [hs] at PS
        clear hs
        go_wp2_with (first | (go_at_call 120; ((with_reducible refine (PS.out _).mono ?_); rintro e1 w2 ⟨rfl, hw2⟩; subst w2)))
        go_roundw
        case rel => exact ⟨k + 1, by omega, by go_num, hA', trivial⟩
        case measure => simp [intOf]; omega
      | false =>
        have hr : Hid (signsB b = false) := Lib.hid (by unfold signsB; rw [all_bad h hs, Bool.false_and])
        rw [hs] at PS
        clear hs
        go_wp2_with (first | (go_at_call 120; ((with_reducible refine (PS.out _).mono ?_); rintro e1 w2 ⟨rfl, hw2⟩; subst w2)))
        go_ret
        exact ⟨congrArg (fun b => Ending.returned (Value.bool b)) hr.out.symm, rfl⟩
    · have h' : ¬ (k : Int) < (b.size : Int) := by omega
      have hr : Hid (signsB b = decide ((b.size : Int) ≤ 2)) := Lib.hid (by unfold signsB; rw [hA.out.last h, Bool.true_and]; exact decide_eq_decide.2 (by omega))
      go_wp2
      go_ret
      exact ⟨congrArg (fun b => Ending.returned (Value.bool b)) hr.out.symm, rfl⟩
end Wd
end Go.Proofs.YtgfnelhbdhbklaaGreat

/- The landed names: which are right, how many arguments they take. -/
namespace Go.Proofs.YtgfnelhbdhbklaaGreat
open Go.RowKit
set_option linter.unusedVariables false
set_option maxRecDepth 20000
namespace Wd
theorem sg_ok {x : UInt8} (h : sgB x = true) : okB x = false := by
  have key : ∀ n, n < 256 → inR n sgnB = true → (letterR n || decide (48 ≤ n ∧ n ≤ 57) || decide (n = 58)) = false := by decide
  exact key x.toNat x.toNat_lt h
theorem from_in : ∀ (L : List UInt8) (i s c : Nat), 0 < i → argsFrom L i s c = if L.all (fun x => sgB x || okB x) = true then some (s + L.countP sgB, c + L.count 58) else none
  | [], i, s, c, h => by simp [argsFrom]
  | x :: L, i, s, c, h => by
    rw [argsFrom]
    by_cases hs : sgB x = true
    · have h58 : ¬ x = 58 := by rintro rfl; exact absurd hs (by decide)
      have hs' : inR x.toNat ⟨#[43, 45, 42, 47, 60, 62, 61, 126, 38, 124, 37]⟩ = true := hs
      rw [if_pos hs', from_in L (i + 1) (s + 1) c (by omega)]
      have e1 : (x :: L).countP sgB = L.countP sgB + 1 := List.countP_cons_of_pos hs
      have e2 : (x :: L).count 58 = L.count 58 := List.count_cons_of_ne h58
      rw [e1, e2, List.all_cons, hs, Bool.true_or, Bool.true_and, show s + 1 + L.countP sgB = s + (L.countP sgB + 1) by omega]
    · have hs' : ¬ inR x.toNat ⟨#[43, 45, 42, 47, 60, 62, 61, 126, 38, 124, 37]⟩ = true := hs
      rw [if_neg hs']
      rw [Bool.not_eq_true] at hs
      by_cases h58 : x.toNat = 58
      · have e : x = 58 := UInt8.toNat_inj.1 h58
        have ho : okB x = true := by rw [e]; decide
        rw [if_pos ⟨h58, h⟩, from_in L (i + 1) s (c + 1) (by omega)]
        have e1 : (x :: L).countP sgB = L.countP sgB := List.countP_cons_of_neg (by rw [hs]; decide)
        have e2 : (x :: L).count 58 = L.count 58 + 1 := by rw [e]; exact List.count_cons_self
        rw [e1, e2, List.all_cons, ho, Bool.or_true, Bool.true_and, show c + 1 + L.count 58 = c + (L.count 58 + 1) by omega]
      · have h58' : ¬ x = 58 := fun e => h58 (by rw [e]; rfl)
        rw [if_neg (fun h => h58 h.1)]
        by_cases hk : letterR x.toNat = true ∨ 0 < i ∧ 48 ≤ x.toNat ∧ x.toNat ≤ 57
        · have ho : okB x = true := by
            unfold okB ltB dgB
            rcases hk with hk | hk
            · rw [hk]; rfl
            · rw [decide_eq_true hk.2]; simp
          rw [if_pos hk, from_in L (i + 1) s c (by omega)]
          have e1 : (x :: L).countP sgB = L.countP sgB := List.countP_cons_of_neg (by rw [hs]; decide)
          have e2 : (x :: L).count 58 = L.count 58 := List.count_cons_of_ne h58'
          rw [e1, e2, List.all_cons, ho, Bool.or_true, Bool.true_and]
        · have ho : okB x = false := by
            unfold okB ltB dgB
            rw [decide_eq_false h58, Bool.or_false, Bool.or_eq_false_iff]
            exact ⟨by rw [← Bool.not_eq_true]; exact fun h => hk (Or.inl h), decide_eq_false (fun h' => hk (Or.inr ⟨h, h'⟩))⟩
          rw [if_neg hk]
          simp [ho, hs]
def rightB (b : ByteArray) : Bool := decide (1 ≤ b.size ∧ b.size ≤ 16) && (wordB b || signsB b)
def cntB (b : ByteArray) : Nat := b.data.toList.count 58
/-- what the landed package says of arguments -/
def argsL (b : ByteArray) : Int := if rightB b = true then (if headB sgB b = true then 1 else (cntB b : Int)) else -1
theorem all_sg : ∀ {L : List UInt8}, L.all sgB = true ↔ L.countP sgB = L.length := by
  intro L
  rw [List.all_eq_true, List.countP_eq_length]
theorem args_eq (b : ByteArray) : argsR b = argsL b := by
  rcases Classical.em (1 ≤ b.size ∧ b.size ≤ 16) with hz | hz
  case inr =>
    rw [args_short hz]
    unfold argsL rightB
    rw [decide_eq_false hz]; rfl
  have hs : b.data.toList.length = b.size := Array.length_toList
  unfold argsR argsL rightB wordB signsB cntB
  rw [if_pos hz, decide_eq_true hz, Bool.true_and]
  obtain ⟨x, R, hL⟩ : ∃ x R, b.data.toList = x :: R := by
    cases hL : b.data.toList with
    | nil => rw [hL] at hs; simp at hs; omega
    | cons x R => exact ⟨x, R, rfl⟩
  have h1 : ∀ p, headB p b = p x := fun p => by unfold headB; rw [hL]
  rw [h1, h1, hL, argsFrom]
  rw [hL] at hs
  generalize b.size = n at *
  clear hL h1
  simp only [List.length_cons] at hs
  by_cases hx : sgB x = true
  · have hx' : inR x.toNat ⟨#[43, 45, 42, 47, 60, 62, 61, 126, 38, 124, 37]⟩ = true := hx
    have hok := sg_ok hx
    have hlt : ltB x = false := by unfold okB at hok; simp at hok; exact hok.1.1
    rw [if_pos hx', from_in R 1 1 0 (by omega), hlt, if_pos hx]
    simp only [Bool.false_and, Bool.false_or, List.all_cons, hx, Bool.true_and]
    by_cases ha : R.all sgB = true
    · have hc := all_sg.1 ha
      have hb : R.all (fun x => sgB x || okB x) = true := by
        rw [List.all_eq_true] at ha ⊢
        intro y hy; rw [ha y hy]; rfl
      rw [if_pos hb, ha, hc]
      simp only [Bool.true_and, decide_eq_true_eq]
      by_cases h2 : n ≤ 2
      · rw [if_pos (by omega), if_pos h2]
      · rw [if_neg (by omega), if_neg h2, if_pos (by omega)]
    · have hc : ¬ R.countP sgB = R.length := fun h => ha (all_sg.2 h)
      rw [Bool.not_eq_true] at ha
      rw [ha, Bool.false_and, if_neg Bool.false_ne_true]
      by_cases hb : R.all (fun x => sgB x || okB x) = true
      · rw [if_pos hb]
        simp only
        rw [if_neg (by omega), if_pos (by omega)]
      · rw [if_neg hb]
  · have hx' : ¬ inR x.toNat ⟨#[43, 45, 42, 47, 60, 62, 61, 126, 38, 124, 37]⟩ = true := hx
    rw [if_neg hx', if_neg (by omega)]
    rw [if_neg hx]
    rw [Bool.not_eq_true] at hx
    simp only [List.all_cons, hx, Bool.false_and, Bool.or_false]
    by_cases hl : ltB x = true
    · have hl' : letterR x.toNat = true ∨ 0 < 0 ∧ 48 ≤ x.toNat ∧ x.toNat ≤ 57 := Or.inl hl
      have ho : okB x = true := by unfold okB; rw [hl]; rfl
      have h58 : ¬ x = 58 := by rintro rfl; exact absurd hl (by decide)
      rw [if_pos hl', from_in R 1 0 0 (by omega), hl, ho]
      simp only [Bool.true_and, Nat.zero_add, List.count_cons_of_ne h58]
      by_cases ha : R.all okB = true
      · have hc : R.countP sgB = 0 := by
          rw [List.countP_eq_zero]
          intro y hy hys
          have := sg_ok hys
          rw [List.all_eq_true.1 ha y hy] at this
          cases this
        have hb : R.all (fun x => sgB x || okB x) = true := by
          rw [List.all_eq_true] at ha ⊢
          intro y hy; rw [ha y hy, Bool.or_true]
        rw [if_pos hb, if_pos ha, hc]
        simp only
        rw [if_neg (by omega), if_neg (by omega)]
      · rw [if_neg ha]
        by_cases hb : R.all (fun x => sgB x || okB x) = true
        · rw [if_pos hb]
          have hc : R.countP sgB ≠ 0 := by
            intro h0
            apply ha
            rw [List.all_eq_true] at hb ⊢
            intro y hy
            have := hb y hy
            rw [List.countP_eq_zero] at h0
            have h0 := h0 y hy
            simp only [Bool.or_eq_true] at this
            exact this.resolve_left h0
          have hle : R.countP sgB ≤ R.length := List.countP_le_length
          simp only
          rw [if_neg (by omega), if_pos (by omega)]
        · rw [if_neg hb]
    · have hl' : ¬ (letterR x.toNat = true ∨ 0 < 0 ∧ 48 ≤ x.toNat ∧ x.toNat ≤ 57) := fun h => by
        rcases h with h | h
        · exact hl h
        · omega
      rw [Bool.not_eq_true] at hl
      rw [if_neg hl', hl]
      simp
theorem right_eq (b : ByteArray) : rightB b = decide (0 ≤ argsR b) := by
  rw [args_eq]
  unfold argsL
  by_cases h : rightB b = true
  · rw [if_pos h, h]
    split
    · rfl
    · symm; rw [decide_eq_true_eq]; omega
  · rw [if_neg h]
    rw [Bool.not_eq_true] at h
    rw [h]; rfl
theorem right_c (b : ByteArray) (w : World) : Calls Tryz.prog 88 #[.string b] w fun e w' => e = .returned (.bool (decide (0 ≤ argsR b))) ∧ w' = w := by
  rw [← right_eq]
  unfold rightB
  by_cases h1 : 1 ≤ b.size
  · have h1' : (1 : Int) ≤ (b.size : Int) := by omega
    by_cases h2 : b.size ≤ 16
    · have h2' : (b.size : Int) ≤ 16 := by omega
      have PW := Lib.hid (word_c b h1 h2)
      have PS := Lib.hid (signs_c b h2)
      rw [decide_eq_true ⟨h1, h2⟩, Bool.true_and]
      generalize signsB b = y at *
      cases hx : wordB b with
      | true =>
        rw [hx] at PW
        clear hx
        go_enter Tryz.func88, Tryz.ntmps88
        go_wp2_with (first | (go_at_call 103; ((with_reducible refine (PW.out _).mono ?_); rintro e1 w2 ⟨rfl, hw2⟩; subst w2)) | (go_at_call 104; ((with_reducible refine (PS.out _).mono ?_); rintro e1 w2 ⟨rfl, hw2⟩; subst w2)))
        go_ret
        exact ⟨rfl, rfl⟩
      | false =>
        rw [hx] at PW
        clear hx
        go_enter Tryz.func88, Tryz.ntmps88
        go_wp2_with (first | (go_at_call 103; ((with_reducible refine (PW.out _).mono ?_); rintro e1 w2 ⟨rfl, hw2⟩; subst w2)) | (go_at_call 104; ((with_reducible refine (PS.out _).mono ?_); rintro e1 w2 ⟨rfl, hw2⟩; subst w2)))
        go_ret
        exact ⟨rfl, rfl⟩
    · have h2' : ¬ (b.size : Int) ≤ 16 := by omega
      rw [decide_eq_false (fun h => h2 h.2), Bool.false_and]
      go_enter Tryz.func88, Tryz.ntmps88
      go_wp2
      go_ret
      exact ⟨rfl, rfl⟩
  · have h1' : ¬ (1 : Int) ≤ (b.size : Int) := by omega
    rw [decide_eq_false (fun h => h1 h.1), Bool.false_and]
    go_enter Tryz.func88, Tryz.ntmps88
    go_wp2
    go_ret
    exact ⟨rfl, rfl⟩
theorem cnt_c (b : ByteArray) (w : World) : Calls Tryz.prog 127 #[.string b, .string ⟨#[58]⟩] w fun e w' => e = .returned (.int .i64 (cntB b : Nat)) ∧ w' = w := by
  go_enter Tryz.func127, Tryz.ntmps127
  go_wp2
  rw [run_callFunc_extern Tryz.func136 (by kernel_rfl) (by kernel_rfl) (by kernel_rfl) (e := Extern.BytealgCount.count) (by kernel_rfl), Lib.run_countString]
  simp only [Result.andThen]
  rw [Oper.upon_value]
  go_wp2
  go_ret
  exact ⟨rfl, rfl⟩
theorem kargs_c (b : ByteArray) (w : World) : Calls Tryz.prog 116 #[.string b] w fun e w' => e = .returned (.int .i64 (argsR b)) ∧ w' = w := by
  have PR := Lib.hid (right_c b)
  have PC := Lib.hid (cnt_c b)
  rw [← right_eq] at PR
  rw [args_eq]
  cases hr : rightB b with
  | false =>
    have e : argsL b = -1 := by unfold argsL; rw [hr]; rfl
    rw [hr] at PR
    rw [e]
    clear e hr
    go_enter Tryz.func116, Tryz.ntmps116
    go_wp2_with (first | (go_at_call 88; ((with_reducible refine (PR.out _).mono ?_); rintro e1 w2 ⟨rfl, hw2⟩; subst w2)))
    go_ret
    exact ⟨rfl, rfl⟩
  | true =>
    have h0 : 0 < b.size := by
      unfold rightB at hr
      rw [Bool.and_eq_true, decide_eq_true_eq] at hr
      exact hr.1.1
    have PS := Lib.hid (sign_c b[0])
    rw [hr] at PR
    cases hx : sgB b[0] with
    | true =>
      have e : argsL b = 1 := by unfold argsL; rw [hr, headB_eq _ h0, hx]; rfl
      rw [hx] at PS
      rw [e]
      clear e hr hx
      go_enter Tryz.func116, Tryz.ntmps116
      go_wp2_with (first | (go_at_call 88; ((with_reducible refine (PR.out _).mono ?_); rintro e1 w2 ⟨rfl, hw2⟩; subst w2)) | (go_at_call 120; ((with_reducible refine (PS.out _).mono ?_); rintro e1 w2 ⟨rfl, hw2⟩; subst w2)))
      go_ret
      exact ⟨rfl, rfl⟩
    | false =>
      have e : argsL b = (cntB b : Nat) := by unfold argsL; rw [hr, headB_eq _ h0, hx]; rfl
      rw [hx] at PS
      rw [e]
      clear e hr hx
      generalize cntB b = c at *
      go_enter Tryz.func116, Tryz.ntmps116
      go_wp2_with (first | (go_at_call 88; ((with_reducible refine (PR.out _).mono ?_); rintro e1 w2 ⟨rfl, hw2⟩; subst w2)) | (go_at_call 120; ((with_reducible refine (PS.out _).mono ?_); rintro e1 w2 ⟨rfl, hw2⟩; subst w2)) | (go_at_call 127; ((with_reducible refine (PC.out _).mono ?_); rintro e1 w2 ⟨rfl, hw2⟩; subst w2)))
      go_ret
      exact ⟨rfl, rfl⟩
end Wd
end Go.Proofs.YtgfnelhbdhbklaaGreat

/- The landed programs: the class of an object; is a text there; the names; how much of each. -/
namespace Go.Proofs.YtgfnelhbdhbklaaGreat
open Go.RowKit
set_option linter.unusedVariables false
set_option maxRecDepth 20000
namespace Wd
set_option maxHeartbeats 8000000 in
theorem uclass_c {w : World} {v cv : Value} {o : ObjA} {C : List ClassA} (h : ObK w v o) (hC : ClV w cv C) (h62 : ∀ c ∈ C, c.fields ≤ 62) :
    Calls Tryz.prog 94 #[v, cv] w fun e w' => e = .returned (.bool (objHead o C)) ∧ Below w.heap.size w w' := by
  obtain ⟨fa, fc, rfl, hf⟩ := h.ex
  obtain ⟨ca, cc, rfl, hc1, hc2⟩ := hC.form
  have hle := len_le (Nat.le_trans hc1 hc2)
  obtain ⟨c0, c1⟩ := h.c64
  have hB := Lib.hid ((Below.refl w.heap.size w).alloc (Nat.le_refl _) (.cells #[.int .i64 o.cls, .slice fa o.flds.length fc] 55))
  have PI := Lib.hid (uisOne_c o.cls (C.length : Int))
  by_cases h0 : o.cls < 1 ∨ (C.length : Int) ≤ o.cls
  · have e : Hid (objHead o C = false) := Lib.hid (by rcases h0 with h0 | h0; exact head_low h0; exact head_high h0)
    generalize objHead o C = r at *
    by_cases hz : o.cls = 0 ∧ 0 < C.length
    · obtain ⟨hz1, hz2⟩ := hz
      rw [hz1, show decide ((0 : Int) ≤ 0) = true from rfl, decide_eq_true (show (0 : Int) < (C.length : Int) by omega)] at PI
      rw [hz1] at hB ⊢
      clear h0 hz1 hz2 h hf hC h62 c0 c1
      go_enter Tryz.func94, Tryz.ntmps94
      go_wp2_with (first | (go_at_call 63; ((with_reducible refine (PI.out _).mono ?_); rintro e1 w2 ⟨rfl, hw2⟩; subst w2)))
      go_ret
      exact ⟨congrArg (fun b => Ending.returned (Value.bool b)) e.out.symm, hB.out⟩
    · have hx : (decide (0 ≤ o.cls) && decide (o.cls < (C.length : Int))) = false := by
        rw [Bool.and_eq_false_iff, decide_eq_false_iff_not, decide_eq_false_iff_not]; omega
      rw [hx] at PI
      clear h0 hz h hf hC h62 c0 c1 hx
      go_enter Tryz.func94, Tryz.ntmps94
      go_wp2_with (first | (go_at_call 63; ((with_reducible refine (PI.out _).mono ?_); rintro e1 w2 ⟨rfl, hw2⟩; subst w2)))
      go_ret
      exact ⟨congrArg (fun b => Ending.returned (Value.bool b)) e.out.symm, hB.out⟩
  have g0 : 1 ≤ o.cls := by omega
  have g1 : o.cls < (C.length : Int) := by omega
  rw [decide_eq_true (show (0 : Int) ≤ o.cls by omega), decide_eq_true g1] at PI
  have n0 : (o.cls == 0) = false := by simp; omega
  by_cases h1 : o.cls = 1
  · have n1 : (o.cls == 1) = true := by simpa using h1
    have e : Hid (objHead o C = decide (o.flds.length ≤ 62)) := Lib.hid (by unfold objHead; rw [if_neg h0, if_neg (by omega)])
    have e2 : Hid (objHead o C = decide ((o.flds.length : Int) ≤ 62)) := Lib.hid (by rw [e.out]; exact decide_eq_decide.2 (by omega))
    generalize objHead o C = r at *
    clear h0 h1 h hf hC h62 c0 c1 e g0 g1
    go_enter Tryz.func94, Tryz.ntmps94
    go_wp2_with (first | (go_at_call 63; ((with_reducible refine (PI.out _).mono ?_); rintro e1 w2 ⟨rfl, hw2⟩; subst w2)))
    go_ret
    exact ⟨congrArg (fun b => Ending.returned (Value.bool b)) e2.out.symm, hB.out⟩
  · have n1 : (o.cls == 1) = false := by simpa using h1
    obtain ⟨q, hq⟩ : ∃ q : Nat, o.cls = (q : Int) := ⟨o.cls.toNat, by omega⟩
    obtain ⟨x, hx⟩ : ∃ x, C[q]? = some x := ⟨C[q]'(by omega), by simp⟩
    have hx62 := h62 x (List.mem_of_getElem? hx)
    have e : Hid (objHead o C = ((o.flds.length : Int) == x.fields)) := Lib.hid (by
      unfold objHead
      rw [if_neg h0, hq, clsF_at hx]
      by_cases he : (o.flds.length : Int) = x.fields
      · rw [if_neg (fun h => h.2 he), he, beq_self_eq_true, decide_eq_true_eq]; omega
      · rw [if_pos ⟨by omega, he⟩]; symm; simpa using he)
    obtain ⟨_, _, g, off, bv, rfl, _, _, d2, _, _⟩ := hC.at hx
    have d2' := cell_up ((Below.refl w.heap.size w).alloc (Nat.le_refl _) (.cells #[.int .i64 o.cls, .slice fa o.flds.length fc] 55)) d2
    have q0 : (0 : Int) ≤ (q : Int) := by omega
    have q1 : (q : Int) < (C.length : Int) := by omega
    rw [hq] at PI n0 n1 hB d2' ⊢
    generalize objHead o C = r at *
    clear h0 h1 h hf hC h62 c0 c1 g0 g1 d2 hx
    go_enter Tryz.func94, Tryz.ntmps94
    go_wp2_with (first | (go_at_call 63; ((with_reducible refine (PI.out _).mono ?_); rintro e1 w2 ⟨rfl, hw2⟩; subst w2)))
    go_region
    go_wp2
    go_ret
    exact ⟨congrArg (fun b => Ending.returned (Value.bool b)) e.out.symm, hB.out.drew⟩
theorem NmV.takeV {w : World} {ad : Option Addr} {n cap : Nat} {L : List ByteArray} (h : NmV w (.slice ad n cap) L) (k : Nat) (hk : k ≤ L.length) : NmV w (.slice ad k cap) (L.take k) := by
  obtain ⟨ad', cap', e, h1, h2, h3⟩ := h.ex
  cases e
  have hl : (L.take k).length = k := by rw [List.length_take]; omega
  refine ⟨ad, cap, by rw [hl], by omega, h2, fun j x hx => h3 j x ?_⟩
  rw [List.getElem?_take] at hx
  split at hx
  · exact hx
  · cases hx
set_option maxHeartbeats 8000000 in
theorem uindex_c {w : World} {v : Value} {L : List ByteArray} (h : NmV w v L) (x : ByteArray) :
    Calls Tryz.prog 105 #[v, .string x] w fun e w' => (∃ i : Int, e = .returned (.int .i64 i) ∧ (0 ≤ i ↔ x ∈ L)) ∧ w' = w := by
  obtain ⟨ad, cap, rfl, hcap, hmx, _⟩ := h.ex
  obtain ⟨n, hnn⟩ : ∃ n, n = L.length := ⟨_, rfl⟩
  rw [← hnn] at h hcap ⊢
  replace h := Lib.hid h
  have hn' := Lib.hid hnn
  have hle : (n : Int) ≤ 9223372036854775807 := by have := Nat.le_trans hcap hmx; unfold maxLen at this; omega
  have hst : Hid (∀ y ∈ L.take 0, y ≠ x) := Lib.hid (by simp)
  clear hnn
  go_enter Tryz.func105, Tryz.ntmps105
  go_wp2
  go_loopw [8] (fun i wr => ∃ (k : Nat), k ≤ n ∧ i = .int .i64 k ∧ Hid (∀ y ∈ L.take k, y ≠ x) ∧ wr = w) (fun i _ => n - (intOf i).toNat)
  case atStart => exact ⟨0, by omega, rfl, hst, rfl⟩
  case round =>
    clear hst
    obtain ⟨k, hk, rfl, hD, rfl⟩ := hrel
    by_cases hlt : k < n
    · have hlt' : decide ((k : Int) < (n : Int)) = true := by simp; omega
      have p0 : (0 : Int) ≤ (k : Int) := by omega
      have p1 : (k : Int) < (n : Int) := by omega
      obtain ⟨y, hy⟩ : ∃ y, L[k]? = some y := ⟨L[k]'(by have := hn'.out; omega), by simp⟩
      obtain ⟨g, off, rfl, d0⟩ := NmV.at h.out hy
      have hy' := Lib.hid hy
      clear hy
      by_cases he : x = y
      · have e : Hid (0 ≤ (k : Int) ↔ x ∈ L) := Lib.hid ⟨fun _ => by rw [he]; exact List.mem_of_getElem? hy'.out, fun _ => by omega⟩
        have he' : (x.toList == y.toList) = true := bl_eq he
        clear he
        go_wp2
        go_ret
        exact ⟨⟨_, rfl, e.out⟩, rfl⟩
      · have he' : (x.toList == y.toList) = false := bl_ne he
        have hD' : Hid (∀ z ∈ L.take (k + 1), z ≠ x) := Lib.hid (fun z hz => by
          rw [take_next hy'.out] at hz
          rcases List.mem_append.1 hz with hz | hz
          · exact hD.out z hz
          · rw [List.mem_singleton.1 hz]; exact fun e => he e.symm)
        clear he
        go_wp2
        go_roundw
        case rel => exact ⟨k + 1, by omega, by go_num, hD', trivial⟩
        case measure => simp [intOf]; omega
    · have e : Hid (0 ≤ (-1 : Int) ↔ x ∈ L) := Lib.hid (by
        have hd := hD.out
        rw [show k = L.length by have := hn'.out; omega, List.take_length] at hd
        exact ⟨fun h => absurd h (by decide), fun h => absurd rfl (hd x h)⟩)
      have hlt' : decide ((k : Int) < (n : Int)) = false := by simp; omega
      go_wp2
      go_ret
      exact ⟨⟨_, rfl, e.out⟩, rfl⟩
theorem ucontains_c {w : World} {v : Value} {L : List ByteArray} (h : NmV w v L) (x : ByteArray) (b : Bool) (hb : b = true ↔ x ∈ L) :
    Calls Tryz.prog 89 #[v, .string x] w fun e w' => e = .returned (.bool b) ∧ w' = w := by
  have PI := Lib.hid (uindex_c h x)
  replace hb := Lib.hid hb
  clear h
  go_enter Tryz.func89, Tryz.ntmps89
  go_wp2_with (first | (go_at_call 105; ((with_reducible refine PI.out.mono ?_); rintro e1 w2 ⟨⟨i, rfl, hi⟩, hw2⟩; subst w2; replace hi := Lib.hid hi)))
  go_ret
  exact ⟨congrArg (fun b => Ending.returned (Value.bool b)) (show decide (i ≥ 0) = b by cases b with | true => exact decide_eq_true (hi.out.2 (hb.out.1 rfl)) | false => exact decide_eq_false (fun h => absurd (hb.out.2 (hi.out.1 h)) (by decide))), rfl⟩
set_option maxHeartbeats 8000000 in
theorem unames_c {w : World} {v : Value} {L : List ByteArray} (h : NmV w v L) :
    Calls Tryz.prog 59 #[v] w fun e w' => e = .returned (.bool (namesB L)) ∧ w' = w := by
  obtain ⟨ad, cap, rfl, hcap, hmx, _⟩ := h.ex
  obtain ⟨n, hnn⟩ : ∃ n, n = L.length := ⟨_, rfl⟩
  rw [← hnn] at h hcap ⊢
  replace h := Lib.hid h
  have hn' := Lib.hid hnn
  have hst := Lib.hid (NsR.start L)
  have hle : (n : Int) ≤ 9223372036854775807 := by have := Nat.le_trans hcap hmx; unfold maxLen at this; omega
  clear hnn
  go_enter Tryz.func59, Tryz.ntmps59
  go_wp2
  go_loopw [7] (fun i7 wr => ∃ (k : Nat), k ≤ n ∧ i7 = .int .i64 k ∧ Hid (NsR L k) ∧ wr = w) (fun i7 _ => n - (intOf i7).toNat)
  case atStart => exact ⟨0, by omega, rfl, hst, rfl⟩
  case round =>
    clear hst
    obtain ⟨k, hk, rfl, hR, rfl⟩ := hrel
    by_cases hlt : k < n
    · have hlt' : decide ((k : Int) < (n : Int)) = true := by simp; omega
      have p0 : (0 : Int) ≤ (k : Int) := by omega
      have p1 : (k : Int) < (n : Int) := by omega
      have p2 : (k : Int) ≤ (cap : Int) := by omega
      obtain ⟨x, hx⟩ : ∃ x, L[k]? = some x := ⟨L[k]'(by have := hn'.out; omega), by simp⟩
      obtain ⟨g, off, rfl, c0⟩ := NmV.at h.out hx
      have hx' := Lib.hid hx
      have PR := Lib.hid (right_c x)
      have PC := Lib.hid (ucontains_c (h.out.takeV k (by have := hn'.out; omega)) x)
      clear hx
      by_cases ha : argsR x < 0
      · have e := Lib.hid (names_bad hx'.out ha)
        rw [decide_eq_false (show ¬ 0 ≤ argsR x by omega)] at PR
        clear ha
        go_wp2_with (first | (go_at_call 88; ((with_reducible refine (PR.out _).mono ?_); rintro e1 w2 ⟨rfl, hw2⟩; subst w2)))
        go_ret
        exact ⟨congrArg (fun b => Ending.returned (Value.bool b)) e.out.symm, rfl⟩
      · rw [decide_eq_true (show 0 ≤ argsR x by omega)] at PR
        have haH : Hid (0 ≤ argsR x) := Lib.hid (by omega)
        clear ha
        by_cases hm : x ∈ L.take k
        · have e : Hid (namesB L = false) := Lib.hid (by
            obtain ⟨j, hj, ej⟩ := List.mem_iff_getElem.1 hm
            rw [List.length_take] at hj
            have hj2 : j < k ∧ j < L.length := by omega
            have hy : L[j]? = some (L[j]'hj2.2) := by simp
            refine names_twice hx'.out hj2.1 hy ?_
            rw [List.getElem_take] at ej
            exact ej)
          replace PC := Lib.hid (PC.out true ⟨fun _ => hm, fun _ => rfl⟩)
          clear hm
          go_wp2_with (first | (go_at_call 88; ((with_reducible refine (PR.out _).mono ?_); rintro e1 w2 ⟨rfl, hw2⟩; subst w2)) | (go_at_call 89; ((with_reducible refine PC.out.mono ?_); rintro e1 w2 ⟨rfl, hw2⟩; subst w2)))
          go_ret
          exact ⟨congrArg (fun b => Ending.returned (Value.bool b)) e.out.symm, rfl⟩
        · have hR' := Lib.hid (hR.out.step hx'.out haH.out (fun y hy e => hm (by rw [← e]; exact hy)))
          replace PC := Lib.hid (PC.out false ⟨fun h => absurd h (by decide), fun h => absurd h hm⟩)
          clear hm
          go_wp2_with (first | (go_at_call 88; ((with_reducible refine (PR.out _).mono ?_); rintro e1 w2 ⟨rfl, hw2⟩; subst w2)) | (go_at_call 89; ((with_reducible refine PC.out.mono ?_); rintro e1 w2 ⟨rfl, hw2⟩; subst w2)))
          go_roundw
          case rel => exact ⟨k + 1, by omega, by go_num, hR', trivial⟩
          case measure => simp [intOf]; omega
    · have e : Hid (namesB L = true) := Lib.hid (NsR.last (by have := hR.out; rw [show k = L.length by have := hn'.out; omega] at this; exact this))
      have hlt' : decide ((k : Int) < (n : Int)) = false := by simp; omega
      go_wp2
      go_ret
      exact ⟨congrArg (fun b => Ending.returned (Value.bool b)) e.out.symm, rfl⟩
end Wd
end Go.Proofs.YtgfnelhbdhbklaaGreat

/- What the laws ask of the package's judgement of classes. -/
namespace Go.Proofs.YtgfnelhbdhbklaaGreat
open Go.RowKit
set_option linter.unusedVariables false
set_option maxRecDepth 20000
namespace Wd
theorem SL.up {w w' : World} {e : TypeId} {v : Value} {L : List Int} (h : SL w e v L) (b : Below w.heap.size w w') : SL w' e v L := SL.keep h b
theorem SL.at {w : World} {e : TypeId} {a : Option Addr} {n c : Nat} {L : List Int} (h : SL w e (.slice a n c) L) {k : Nat} {x : Int} (hx : L[k]? = some x) : ∃ g, a = some ⟨g, 0, none⟩ ∧ w.cell? ⟨g, k, none⟩ = some (.int .i64 x) := by
  have hk := (List.getElem?_eq_some_iff.1 hx).1
  rcases h.cases with ⟨e1, e2⟩ | ⟨g, cap, e1, _, _, _, ho⟩
  · subst e2; simp at hx
  · cases e1
    exact ⟨g, rfl, row_cell ho hx⟩
end Wd
end Go.Proofs.YtgfnelhbdhbklaaGreat

/- The landed package's chains. -/
namespace Go.Proofs.YtgfnelhbdhbklaaGreat
open Go.RowKit
set_option linter.unusedVariables false
set_option maxRecDepth 20000
namespace Wd
theorem isc_y (ad : Option Addr) (n cap : Nat) (i : Int) (h0 : 0 ≤ i) (h1 : i < n) (w : World) :
    Calls Tryz.prog 121 #[.slice ad n cap, .int .i64 i] w fun e w' => e = .returned (.bool true) ∧ w' = w := by
  have h0' : decide (i ≥ 0) = true := by simpa using h0
  have h1' : decide (i < (n : Int)) = true := by simpa using h1
  go_enter Tryz.func121, Tryz.ntmps121
  go_wp2
  go_ret
  exact ⟨rfl, rfl⟩
theorem isc_n (ad : Option Addr) (n cap : Nat) (i : Int) (h : i < 0 ∨ (n : Int) ≤ i) (w : World) :
    Calls Tryz.prog 121 #[.slice ad n cap, .int .i64 i] w fun e w' => e = .returned (.bool false) ∧ w' = w := by
  by_cases h0 : 0 ≤ i
  · have h0' : decide (i ≥ 0) = true := by simpa using h0
    have h1' : decide (i < (n : Int)) = false := by simp; omega
    go_enter Tryz.func121, Tryz.ntmps121
    go_wp2
    go_ret
    exact ⟨rfl, rfl⟩
  · have h0' : decide (i ≥ 0) = false := by simp; omega
    go_enter Tryz.func121, Tryz.ntmps121
    go_wp2
    go_ret
    exact ⟨rfl, rfl⟩
set_option maxHeartbeats 16000000 in
theorem kchain {w : World} {v : Value} {L : List ClassA} (h : ClV w v L) (i : Int) (hi : In64 i) :
    Calls Tryz.prog 129 #[v, .int .i64 i] w fun e w' => ∃ v', e = .returned v' ∧ SL w' 3 v' (chain L i) ∧ Below w.heap.size w w' := by
  obtain ⟨i0, hi0, hz0, hz1, hz2⟩ := info_parts info3
  have hmx : 100000 ≤ maxLen := by decide
  obtain ⟨ad, cap, rfl, hcap, hm⟩ := h.form
  obtain ⟨n, hn⟩ : ∃ n, n = L.length := ⟨_, rfl⟩
  rw [← hn] at h hcap ⊢
  replace h := Lib.hid h
  have hn' := Lib.hid hn
  have hnm : n ≤ maxLen := by omega
  have hst : Hid (ChR w w L i i (.slice none 0 0) 0 []) := Lib.hid ⟨World.ownsRow_nil _ _ _ _, by simp, by simp, by simp [chain], Below.refl _ _, hi⟩
  clear hcap hm hi hn
  go_enter Tryz.func129, Tryz.ntmps129
  go_wp2
  go_loopw [1, 5] (fun i1 v5 wr => ∃ (j : Int) (C : List Int) (a : Option Addr) (m c : Nat), i1 = .int .i64 j ∧ v5 = .slice a m c ∧ Hid (ChR w wr L i j (.slice a m c) m C)) (fun i1 v5 _ => match v5 with | .slice _ m _ => 8 - m | _ => 0)
  case atStart => exact ⟨i, [], none, 0, 0, rfl, rfl, hst⟩
  case round =>
    obtain ⟨j, C, a, m, c, rfl, rfl, hR⟩ := hrel
    have hle : m ≤ 8 := hR.out.le
    obtain ⟨b0, b1⟩ := hR.out.ij
    by_cases h0 : 0 ≤ j ∧ j < n
    · obtain ⟨h0, h1⟩ := h0
      have PI := Lib.hid (isc_y ad n cap j h0 h1)
      by_cases h2 : m < 8
      · obtain ⟨k, rfl⟩ : ∃ k : Nat, j = k := ⟨j.toNat, by omega⟩
        obtain ⟨x, hx⟩ : ∃ x, L[k]? = some x := ⟨L[k]'(by have := hn'.out; omega), by simp⟩
        obtain ⟨s0, s1, g, off, bv, rfl, c0, c1, c2, c3, _⟩ := h.out.at hx
        have hx' := Lib.hid hx
        have h2' : decide (((m : Nat) : Int) < 8) = true := by simp; omega
        have hown := Lib.hid hR.out.own
        have hsz : Hid (w.heap.size ≤ wr.heap.size) := Lib.hid hR.out.bel.size
        have hk1 := Lib.hid c1
        have hs0 := Lib.hid s0
        clear c0 c1 c2 c3 s1 hx s0
        go_wp2_with (first | (go_at_call 121; ((with_reducible refine (PI.out _).mono ?_); rintro e1 w2 ⟨rfl, hw2⟩; subst w2)) | (at_builtin; refine wpList_append_lies _ rfl (.tmp 14) (.tmp 16) 29 rfl w.heap.size 3 i0 (.int .i64 0) 1 8 Tryz.underlying29 hi0 hz0 hz1 hz2 rfl (by decide) _ m _ (by simp [Act.eval]) (hown.out.alloc _) ⟨wr.heap.size, 0, none⟩ 1 1 (ints [(k : Int)]) (by simp [Act.eval]) (by simp) (one_at ((World.cell?_alloc_new _ _ _ 0).trans rfl)) (ints_one _) (by omega) (by omega) (by omega) (by have := hsz.out; simp; omega) _ rfl ?_; intro g1 cap1 w1 hown1 hgrow1 hat1 hlt1; have hR1 := Lib.hid (hR.out.more hx'.out h2 rfl hown1 hgrow1 hs0.out); have hc1 := cell_up hR1.out.bel hk1.out; clear hgrow1 hat1 hlt1 hown1))
        go_roundw
        case rel => exact ⟨_, _, _, _, _, rfl, rfl, hR1⟩
        case measure => simp; omega
      · have h2' : decide (((m : Nat) : Int) < 8) = false := by simp; omega
        have he : chainR L j (8 - m) = [] := by rw [show 8 - m = 0 by omega]; rfl
        have hf := Lib.hid (hR.out.last he)
        clear he
        go_wp2_with (first | (go_at_call 121; ((with_reducible refine (PI.out _).mono ?_); rintro e1 w2 ⟨rfl, hw2⟩; subst w2)))
        go_ret
        exact ⟨_, rfl, hf.out, hR.out.bel⟩
    · have PI := Lib.hid (isc_n ad n cap j (by omega))
      have he : chainR L j (8 - m) = [] := by
        rcases (show j < 0 ∨ (L.length : Int) ≤ j by have := hn'.out; omega) with h | h
        · exact chainR_neg _ h
        · exact chainR_over _ h
      have hf := Lib.hid (hR.out.last he)
      clear he
      go_wp2_with (first | (go_at_call 121; ((with_reducible refine (PI.out _).mono ?_); rintro e1 w2 ⟨rfl, hw2⟩; subst w2)))
      go_ret
      exact ⟨_, rfl, hf.out, hR.out.bel⟩
theorem kdepth {w : World} {v : Value} {L : List ClassA} (h : ClV w v L) (i : Int) (hi : In64 i) :
    Calls Tryz.prog 122 #[v, .int .i64 i] w fun e w' => e = .returned (.int .i64 ((chain L i).length : Nat)) ∧ Below w.heap.size w w' := by
  have P := kchain h i hi
  generalize chain L i = C at *
  go_enter Tryz.func122, Tryz.ntmps122
  go_wp2_with fail
  refine P.mono ?_
  clear P
  rintro e w1 ⟨v1, rfl, hS, hB⟩
  obtain ⟨a, c, rfl⟩ := hS.form
  obtain ⟨n, hn⟩ : ∃ n, n = C.length := ⟨_, rfl⟩
  have hn' := Lib.hid hn
  rw [← hn]
  clear hS h hi hn
  go_wp2
  go_ret
  exact ⟨by rw [← hn'.out]; rfl, hB⟩
end Wd
end Go.Proofs.YtgfnelhbdhbklaaGreat
