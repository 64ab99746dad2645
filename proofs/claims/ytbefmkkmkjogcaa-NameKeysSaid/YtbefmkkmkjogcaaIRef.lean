/- Names, judged by the document. -/
import Derived.Test.YtbefmkkmkjogcaaIRef0
namespace Go.Proofs.Ytbefmkkmkjogcaa
open Go.RowKit
set_option linter.unusedVariables false
set_option maxRecDepth 20000
namespace Wd
/-- the signs, the colons; none: not a name -/
def argsFrom : List UInt8 → Nat → Nat → Nat → Option (Nat × Nat)
  | [], _, s, c => some (s, c)
  | x :: R, i, s, c =>
    if inR x.toNat ⟨#[43, 45, 42, 47, 60, 62, 61, 126, 38, 124, 37]⟩ = true then argsFrom R (i + 1) (s + 1) c
    else if x.toNat = 58 ∧ 0 < i then argsFrom R (i + 1) s (c + 1)
    else if letterR x.toNat = true ∨ 0 < i ∧ 48 ≤ x.toNat ∧ x.toNat ≤ 57 then argsFrom R (i + 1) s c
    else none
def argsR (b : ByteArray) : Int :=
  if 1 ≤ b.size ∧ b.size ≤ 16 then
    match argsFrom b.data.toList 0 0 0 with
    | none => -1
    | some (s, c) => if s = b.size ∧ s ≤ 2 then 1 else if 0 < s then -1 else (c : Int)
  else -1
/-- read up to k -/
structure AgR (b : ByteArray) (k s c : Nat) : Prop where
  eq : argsFrom b.data.toList 0 0 0 = argsFrom (b.data.toList.drop k) k s c
  s : s ≤ k
  c : c ≤ k
theorem AgR.start (b : ByteArray) : AgR b 0 0 0 := ⟨rfl, by omega, by omega⟩
theorem ba_drop {b : ByteArray} {k : Nat} (h : k < b.size) : b.data.toList.drop k = b[k] :: b.data.toList.drop (k + 1) := by
  obtain ⟨hk, e⟩ := List.getElem?_eq_some_iff.1 (ba_at h)
  rw [← e]
  exact List.drop_eq_getElem_cons hk
section
variable {b : ByteArray} {k s c : Nat}
theorem AgR.sign (h : AgR b k s c) (hk : k < b.size) (e : inR b[k].toNat ⟨#[43, 45, 42, 47, 60, 62, 61, 126, 38, 124, 37]⟩ = true) : AgR b (k + 1) (s + 1) c :=
  ⟨by rw [h.eq, ba_drop hk, argsFrom, if_pos e], by have := h.s; omega, by have := h.c; omega⟩
theorem AgR.colon (h : AgR b k s c) (hk : k < b.size) (e : inR b[k].toNat ⟨#[43, 45, 42, 47, 60, 62, 61, 126, 38, 124, 37]⟩ = false) (e2 : b[k].toNat = 58 ∧ 0 < k) : AgR b (k + 1) s (c + 1) :=
  ⟨by rw [h.eq, ba_drop hk, argsFrom, if_neg (by rw [e]; decide), if_pos e2], by have := h.s; omega, by have := h.c; omega⟩
theorem AgR.letter (h : AgR b k s c) (hk : k < b.size) (e : inR b[k].toNat ⟨#[43, 45, 42, 47, 60, 62, 61, 126, 38, 124, 37]⟩ = false) (e2 : ¬ (b[k].toNat = 58 ∧ 0 < k)) (e3 : letterR b[k].toNat = true ∨ 0 < k ∧ 48 ≤ b[k].toNat ∧ b[k].toNat ≤ 57) : AgR b (k + 1) s c :=
  ⟨by rw [h.eq, ba_drop hk, argsFrom, if_neg (by rw [e]; decide), if_neg e2, if_pos e3], by have := h.s; omega, by have := h.c; omega⟩
theorem AgR.bad (h : AgR b k s c) (hz : 1 ≤ b.size ∧ b.size ≤ 16) (hk : k < b.size) (e : inR b[k].toNat ⟨#[43, 45, 42, 47, 60, 62, 61, 126, 38, 124, 37]⟩ = false) (e2 : ¬ (b[k].toNat = 58 ∧ 0 < k)) (e3 : ¬ (letterR b[k].toNat = true ∨ 0 < k ∧ 48 ≤ b[k].toNat ∧ b[k].toNat ≤ 57)) : argsR b = -1 := by
  unfold argsR
  rw [if_pos hz, h.eq, ba_drop hk, argsFrom, if_neg (by rw [e]; decide), if_neg e2, if_neg e3]
theorem AgR.last (h : AgR b k s c) (hz : 1 ≤ b.size ∧ b.size ≤ 16) (hk : ¬ k < b.size) : argsR b = if s = b.size ∧ s ≤ 2 then 1 else if 0 < s then -1 else (c : Int) := by
  have hs : b.data.toList.length = b.size := Array.length_toList
  unfold argsR
  rw [if_pos hz, h.eq, List.drop_eq_nil_of_le (by omega)]
  rfl
end
theorem args_short {b : ByteArray} (hz : ¬ (1 ≤ b.size ∧ b.size ≤ 16)) : argsR b = -1 := by unfold argsR; rw [if_neg hz]
theorem args_c (b : ByteArray) (w : World) :
    Calls Try.prog 20 #[.string b] w fun e w' => e = .returned (.int .i64 (argsR b)) ∧ w' = w := by
  have PT := Lib.hid (text1_c b)
  by_cases hz : 1 ≤ b.size ∧ b.size ≤ 16
  · have hzh := Lib.hid hz
    have hst := Lib.hid (AgR.start b)
    rw [decide_eq_true hz] at PT
    obtain ⟨hz1, hz2⟩ := hz
    go_enter Try.func20, Try.ntmps20
    go_wp2_with (first | (go_at_call 26; ((with_reducible refine (PT.out _).mono ?_); rintro e1 w2 ⟨rfl, hw2⟩; subst w2)))
    clear PT
    go_loopw [3, 4, 5] (fun i3 i4 i5 wr => ∃ (s c k : Nat), k ≤ b.size ∧ i3 = .int .i64 s ∧ i4 = .int .i64 c ∧ i5 = .int .i64 k ∧ s ≤ k ∧ c ≤ k ∧ Hid (AgR b k s c) ∧ wr = w) (fun _ _ i5 _ => b.size - (intOf i5).toNat)
    case atStart => exact ⟨0, 0, 0, by omega, rfl, rfl, rfl, by omega, by omega, hst, rfl⟩
    case round =>
      obtain ⟨s, c, k, hk, rfl, rfl, rfl, hsk, hck, hA, rfl⟩ := hrel
      by_cases h : k < b.size
      · have h' : (k : Int) < (b.size : Int) := by omega
        have PI := Lib.hid (in_c b[k].toNat ⟨#[43, 45, 42, 47, 60, 62, 61, 126, 38, 124, 37]⟩ (by decide))
        have PL := Lib.hid (letter_c b[k].toNat)
        by_cases hin : inR b[k].toNat ⟨#[43, 45, 42, 47, 60, 62, 61, 126, 38, 124, 37]⟩ = true
        · have hA' := Lib.hid (hA.out.sign h hin)
          rw [hin] at PI
          clear hin
          go_wp2_with (first | (go_at_call 26; ((with_reducible refine (PT.out _).mono ?_); rintro e1 w2 ⟨rfl, hw2⟩; subst w2)) | (go_at_call 27; ((with_reducible refine (PI.out _).mono ?_); rintro e1 w2 ⟨rfl, hw2⟩; subst w2)) | (go_at_call 28; ((with_reducible refine (PL.out _).mono ?_); rintro e1 w2 ⟨rfl, hw2⟩; subst w2)))
          go_roundw
          case rel => exact ⟨s + 1, c, k + 1, by omega, by go_num, by go_num, by go_num, by omega, by omega, hA', trivial⟩
          case measure => simp [intOf]; omega
        rw [Bool.not_eq_true] at hin
        rw [hin] at PI
        by_cases hco : b[k].toNat = 58 ∧ 0 < k
        · have hA' := Lib.hid (hA.out.colon h hin hco)
          obtain ⟨hx, h0⟩ := hco
          have hx' : ((b[k].toNat : Int) == 58) = true := by simp [hx]
          have h0' : decide ((0 : Int) < (k : Int)) = true := by simp; omega
          clear hin hx
          go_wp2_with (first | (go_at_call 26; ((with_reducible refine (PT.out _).mono ?_); rintro e1 w2 ⟨rfl, hw2⟩; subst w2)) | (go_at_call 27; ((with_reducible refine (PI.out _).mono ?_); rintro e1 w2 ⟨rfl, hw2⟩; subst w2)) | (go_at_call 28; ((with_reducible refine (PL.out _).mono ?_); rintro e1 w2 ⟨rfl, hw2⟩; subst w2)))
          go_roundw
          case rel => exact ⟨s, c + 1, k + 1, by omega, by go_num, by go_num, by go_num, by omega, by omega, hA', trivial⟩
          case measure => simp [intOf]; omega
        by_cases hok : letterR b[k].toNat = true ∨ 0 < k ∧ 48 ≤ b[k].toNat ∧ b[k].toNat ≤ 57
        · have hA' := Lib.hid (hA.out.letter h hin hco hok)
          clear hin
          by_cases hl : letterR b[k].toNat = true
          · rw [hl] at PL
            have hx : b[k].toNat ≠ 58 := fun e => by rw [e] at hl; exact absurd hl (by decide)
            have hx' : ((b[k].toNat : Int) == 58) = false := by rw [beq_eq_false_iff_ne]; omega
            clear hl hok hco hx
            go_wp2_with (first | (go_at_call 26; ((with_reducible refine (PT.out _).mono ?_); rintro e1 w2 ⟨rfl, hw2⟩; subst w2)) | (go_at_call 27; ((with_reducible refine (PI.out _).mono ?_); rintro e1 w2 ⟨rfl, hw2⟩; subst w2)) | (go_at_call 28; ((with_reducible refine (PL.out _).mono ?_); rintro e1 w2 ⟨rfl, hw2⟩; subst w2)))
            go_roundw
            case rel => exact ⟨s, c, k + 1, by omega, by go_num, by go_num, by go_num, by omega, by omega, hA', trivial⟩
            case measure => simp [intOf]; omega
          · obtain ⟨h0, h48, h57⟩ := hok.resolve_left hl
            rw [Bool.not_eq_true] at hl
            rw [hl] at PL
            have hx' : ((b[k].toNat : Int) == 58) = false := by rw [beq_eq_false_iff_ne]; omega
            have h0' : decide ((0 : Int) < (k : Int)) = true := by simp; omega
            have h48' : decide ((48 : Int) ≤ (b[k].toNat : Int)) = true := by simp; omega
            have h57' : decide ((b[k].toNat : Int) ≤ 57) = true := by simp; omega
            clear hl hco h48 h57
            go_wp2_with (first | (go_at_call 26; ((with_reducible refine (PT.out _).mono ?_); rintro e1 w2 ⟨rfl, hw2⟩; subst w2)) | (go_at_call 27; ((with_reducible refine (PI.out _).mono ?_); rintro e1 w2 ⟨rfl, hw2⟩; subst w2)) | (go_at_call 28; ((with_reducible refine (PL.out _).mono ?_); rintro e1 w2 ⟨rfl, hw2⟩; subst w2)))
            go_roundw
            case rel => exact ⟨s, c, k + 1, by omega, by go_num, by go_num, by go_num, by omega, by omega, hA', trivial⟩
            case measure => simp [intOf]; omega
        · have e := Lib.hid (hA.out.bad hzh.out h hin hco hok)
          clear hin
          have hl : letterR b[k].toNat = false := by rw [← Bool.not_eq_true]; exact fun hl => hok (Or.inl hl)
          rw [hl] at PL
          clear hl
          by_cases h0 : 0 < k
          · have hx' : ((b[k].toNat : Int) == 58) = false := by rw [beq_eq_false_iff_ne]; intro hx; exact hco ⟨by omega, h0⟩
            have h0' : decide ((0 : Int) < (k : Int)) = true := by simp; omega
            by_cases h48 : 48 ≤ b[k].toNat
            · have h57 : ¬ b[k].toNat ≤ 57 := fun h57 => hok (Or.inr ⟨h0, h48, h57⟩)
              have h48' : decide ((48 : Int) ≤ (b[k].toNat : Int)) = true := by simp; omega
              have h57' : decide ((b[k].toNat : Int) ≤ 57) = false := by simp; omega
              clear hok hco h48 h57
              go_wp2_with (first | (go_at_call 26; ((with_reducible refine (PT.out _).mono ?_); rintro e1 w2 ⟨rfl, hw2⟩; subst w2)) | (go_at_call 27; ((with_reducible refine (PI.out _).mono ?_); rintro e1 w2 ⟨rfl, hw2⟩; subst w2)) | (go_at_call 28; ((with_reducible refine (PL.out _).mono ?_); rintro e1 w2 ⟨rfl, hw2⟩; subst w2)))
              go_ret
              exact ⟨congrArg (fun b => Ending.returned (Value.int .i64 b)) e.out.symm, rfl⟩
            · have h48' : decide ((48 : Int) ≤ (b[k].toNat : Int)) = false := by simp; omega
              clear hok hco h48
              go_wp2_with (first | (go_at_call 26; ((with_reducible refine (PT.out _).mono ?_); rintro e1 w2 ⟨rfl, hw2⟩; subst w2)) | (go_at_call 27; ((with_reducible refine (PI.out _).mono ?_); rintro e1 w2 ⟨rfl, hw2⟩; subst w2)) | (go_at_call 28; ((with_reducible refine (PL.out _).mono ?_); rintro e1 w2 ⟨rfl, hw2⟩; subst w2)))
              go_ret
              exact ⟨congrArg (fun b => Ending.returned (Value.int .i64 b)) e.out.symm, rfl⟩
          · have h0' : decide ((0 : Int) < (k : Int)) = false := by simp; omega
            by_cases hx : b[k].toNat = 58
            · have hx' : ((b[k].toNat : Int) == 58) = true := by simp [hx]
              clear hok hco hx
              go_wp2_with (first | (go_at_call 26; ((with_reducible refine (PT.out _).mono ?_); rintro e1 w2 ⟨rfl, hw2⟩; subst w2)) | (go_at_call 27; ((with_reducible refine (PI.out _).mono ?_); rintro e1 w2 ⟨rfl, hw2⟩; subst w2)) | (go_at_call 28; ((with_reducible refine (PL.out _).mono ?_); rintro e1 w2 ⟨rfl, hw2⟩; subst w2)))
              go_ret
              exact ⟨congrArg (fun b => Ending.returned (Value.int .i64 b)) e.out.symm, rfl⟩
            · have hx' : ((b[k].toNat : Int) == 58) = false := by rw [beq_eq_false_iff_ne]; omega
              clear hok hco hx
              go_wp2_with (first | (go_at_call 26; ((with_reducible refine (PT.out _).mono ?_); rintro e1 w2 ⟨rfl, hw2⟩; subst w2)) | (go_at_call 27; ((with_reducible refine (PI.out _).mono ?_); rintro e1 w2 ⟨rfl, hw2⟩; subst w2)) | (go_at_call 28; ((with_reducible refine (PL.out _).mono ?_); rintro e1 w2 ⟨rfl, hw2⟩; subst w2)))
              go_ret
              exact ⟨congrArg (fun b => Ending.returned (Value.int .i64 b)) e.out.symm, rfl⟩
      · have e := hA.out.last hzh.out h
        have h' : ¬ (k : Int) < (b.size : Int) := by omega
        by_cases g0 : 0 < s
        · have g0' : (0 : Int) < (s : Int) := by omega
          by_cases g1 : s = b.size
          · have g1' : ((s : Int) == (b.size : Int)) = true := by simp [g1]
            by_cases g2 : s ≤ 2
            · have g2' : (s : Int) ≤ 2 := by omega
              rw [if_pos ⟨g1, g2⟩] at e
              replace e := Lib.hid e
              clear g1 g2 g0
              go_wp2
              go_ret
              exact ⟨congrArg (fun b => Ending.returned (Value.int .i64 b)) e.out.symm, rfl⟩
            · have g2' : decide ((s : Int) ≤ 2) = false := by simp; omega
              have g3' : ¬ (s : Int) ≤ 2 := by omega
              rw [if_neg (fun g => g2 g.2), if_pos g0] at e
              replace e := Lib.hid e
              clear g1 g2 g0
              go_wp2
              go_ret
              exact ⟨congrArg (fun b => Ending.returned (Value.int .i64 b)) e.out.symm, rfl⟩
          · have g1' : ((s : Int) == (b.size : Int)) = false := by rw [beq_eq_false_iff_ne]; omega
            rw [if_neg (fun g => g1 g.1), if_pos g0] at e
            replace e := Lib.hid e
            clear g1 g0
            go_wp2
            go_ret
            exact ⟨congrArg (fun b => Ending.returned (Value.int .i64 b)) e.out.symm, rfl⟩
        · have g0' : ¬ (0 : Int) < (s : Int) := by omega
          have g1' : ((s : Int) == (b.size : Int)) = false := by rw [beq_eq_false_iff_ne]; omega
          rw [if_neg (fun g => by omega), if_neg g0] at e
          replace e := Lib.hid e
          clear g0
          go_wp2
          go_ret
          exact ⟨congrArg (fun b => Ending.returned (Value.int .i64 b)) e.out.symm, rfl⟩
  · have e := Lib.hid (args_short hz)
    rw [decide_eq_false hz] at PT
    go_enter Try.func20, Try.ntmps20
    go_wp2_with (first | (go_at_call 26; ((with_reducible refine (PT.out _).mono ?_); rintro e1 w2 ⟨rfl, hw2⟩; subst w2)))
    go_ret
    exact ⟨congrArg (fun b => Ending.returned (Value.int .i64 b)) e.out.symm, rfl⟩
end Wd
end Go.Proofs.Ytbefmkkmkjogcaa
