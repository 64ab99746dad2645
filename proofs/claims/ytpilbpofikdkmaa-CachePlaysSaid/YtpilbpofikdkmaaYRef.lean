/- The document's own cache: the line, Put, Get, Len. -/
import Derived.Test.YtpilbpofikdkmaaYPure
import Derived.Deep.DeepCutAuto
import Derived.Deep.MidRow
namespace Go.Proofs.Ytpilbpofikdkmaa
open Go.RowKit
set_option linter.unusedVariables false
set_option maxRecDepth 20000
namespace Wd
theorem tmod_split (n D : Int) (hD : 1 ≤ D) : ∃ r, n.tmod D = r ∧ -D < r ∧ r < D ∧ ((0 ≤ r ∧ n % D = r) ∨ (r < 0 ∧ n % D = r + D)) := by
  have h1 := Int.tmod_lt_of_pos n (show 0 < D by omega)
  have h2 : -D < n.tmod D := by have := Int.tmod_lt_of_pos (-n) (show 0 < D by omega); rw [Int.neg_tmod] at this; omega
  refine ⟨_, rfl, h2, h1, ?_⟩
  have key := Int.tmod_add_mul_tdiv n D
  generalize n.tmod D = r at *
  generalize n.tdiv D = q at *
  by_cases h : 0 ≤ r
  · left
    refine ⟨h, ?_⟩
    rw [← key, Int.add_mul_emod_self_left]
    exact Int.emod_eq_of_lt h h1
  · right
    refine ⟨by omega, ?_⟩
    have e : n = (r + D) + D * (q - 1) := by rw [Int.mul_sub, Int.mul_one]; omega
    rw [e, Int.add_mul_emod_self_left]
    exact Int.emod_eq_of_lt (by omega) (by omega)
/-- a key's line, as the document reckons it -/
theorem line_int (c k : Int) : ∃ r1 r2 r3, Int.tmod c 32 = r1 ∧ Int.tmod k 32 = r2 ∧ Int.tmod (r1 * 31 + r2) 32 = r3 ∧ -32 < r1 ∧ r1 < 32 ∧ -32 < r2 ∧ r2 < 32 ∧ -32 < r3 ∧ r3 < 32 ∧ Int.tmod (r3 + 32) 32 = ((lineR c k : Nat) : Int) := by
  obtain ⟨r1, e1, a1, b1, c1⟩ := tmod_split c 32 (by omega)
  obtain ⟨r2, e2, a2, b2, c2⟩ := tmod_split k 32 (by omega)
  obtain ⟨r3, e3, a3, b3, c3⟩ := tmod_split (r1 * 31 + r2) 32 (by omega)
  obtain ⟨r4, e4, a4, b4, c4⟩ := tmod_split (r3 + 32) 32 (by omega)
  refine ⟨r1, r2, r3, e1, e2, e3, a1, b1, a2, b2, a3, b3, ?_⟩
  have nn := Int.tmod_nonneg 32 (show 0 ≤ r3 + 32 by omega)
  rw [e4] at nn ⊢
  have k1 := Int.tmod_add_mul_tdiv c 32
  have k2 := Int.tmod_add_mul_tdiv k 32
  have k3 := Int.tmod_add_mul_tdiv (r1 * 31 + r2) 32
  rw [e1] at k1
  rw [e2] at k2
  rw [e3] at k3
  generalize Int.tdiv c 32 = q1 at *
  generalize Int.tdiv k 32 = q2 at *
  generalize Int.tdiv (r1 * 31 + r2) 32 = q3 at *
  have e : 31 * c + k = (r3 + 32) + 32 * (31 * q1 + q2 + q3 - 1) := by omega
  unfold lineR
  rw [e, Int.add_mul_emod_self_left]
  clear c1 c2 c3 e1 e2 e3 k1 k2 k3 e
  omega
theorem line_c (c k : Int) (hc : I64 c) (hk : I64 k) (w : World) :
    Calls Try.prog 21 #[.int .i64 c, .int .i64 k] w fun e w' => e = .returned (.int .i64 (lineR c k : Nat)) ∧ w' = w := by
  obtain ⟨r1, r2, r3, e1, e2, e3, a1, b1, a2, b2, a3, b3, e4⟩ := line_int c k
  obtain ⟨c0, c1⟩ := hc
  obtain ⟨k0, k1⟩ := hk
  have w1 : IntKind.i64.wrap (r1 * 31) = r1 * 31 := by rw [IntKind.wrap_i64]; omega
  have w2 : IntKind.i64.wrap (r1 * 31 + r2) = r1 * 31 + r2 := by rw [IntKind.wrap_i64]; omega
  have w3 : IntKind.i64.wrap (r3 + 32) = r3 + 32 := by rw [IntKind.wrap_i64]; omega
  generalize lineR c k = i at *
  go_enter Try.func21, Try.ntmps21
  go_wp2
  go_ret
  exact ⟨rfl, rfl⟩
set_option maxHeartbeats 8000000 in
theorem rput_c {w : World} {b : Nat} {S : Cst} (h : RefC w b S) (c k x : Int) (hc : I64 c) (hk : I64 k) (hx : I64 x) :
    Calls Try.prog 16 #[.pointer (some ⟨b, 0, none⟩), .int .i64 c, .int .i64 k, .int .i64 x] w fun e w' => e = .returned (.tuple #[]) ∧ RefC w' b (putS S c k x) ∧ Ch (fun k => k = b) w w' := by
  obtain ⟨P, h⟩ := h
  have PL := Lib.hid (line_c c k hc hk)
  have hi := line_lt c k
  have hF := Lib.hid (h.four hi hc hk hx)
  have hC : Hid (Ch (fun k => k = b) w (four w b (lineR c k) c k x)) := Lib.hid four_ch
  unfold putS
  generalize lineR c k = i at *
  have i0 : (0 : Int) ≤ (i : Int) := by omega
  have i1 : (i : Int) < 32 := by omega
  have c0 := h.ch i hi
  have c1 := h.cc i hi
  have c2 := h.cs i hi
  have c3 := h.cm i hi
  have z0 := h.z i
  have z1 := h.z (32 + i)
  have z2 := h.z (64 + i)
  have z3 := h.z (96 + i)
  clear h
  go_enter Try.func16, Try.ntmps16
  go_wp2_with (first | (go_at_call 21; ((with_reducible refine (PL.out _).mono ?_); rintro e1 w2 ⟨rfl, hw2⟩; subst w2)))
  go_region
  go_end0
  exact ⟨rfl, ⟨_, hF.out.same rfl⟩, hC.out.drew⟩
theorem hasT_y {t : Option (Int × Int × Int)} {c k x : Int} (h : t = some (c, k, x)) : hasT t c k = true ∧ metT t c k = x := by
  subst h; simp [hasT, metT]
theorem hasT_n {t : Option (Int × Int × Int)} {c k : Int} (h : ∀ x, t ≠ some (c, k, x)) : hasT t c k = false ∧ metT t c k = -1 := by
  cases t with
  | none => exact ⟨rfl, rfl⟩
  | some t =>
    obtain ⟨a, b, y⟩ := t
    have hn : (decide (a = c) && decide (b = k)) = false := by
      rw [Bool.and_eq_false_iff]
      by_cases ha : a = c
      · right
        rw [decide_eq_false_iff_not]
        intro hb; subst ha; subst hb
        exact h y rfl
      · left; exact decide_eq_false ha
    simp only [hasT, metT, hn]
    exact ⟨trivial, if_neg Bool.false_ne_true⟩
theorem getS_y {S : Cst} {c k : Int} (h : getB S c k = true) : getS S c k = ⟨S.L, S.h + 1, S.m⟩ := by unfold getS; rw [if_pos h]
theorem getS_n {S : Cst} {c k : Int} (h : getB S c k = false) : getS S c k = ⟨S.L, S.h, S.m + 1⟩ := by unfold getS; rw [if_neg (by rw [h]; decide)]
set_option maxHeartbeats 16000000 in
theorem rget_c {w : World} {b : Nat} {S : Cst} (h : RefC w b S) (c k : Int) (hc : I64 c) (hk : I64 k) (hb : S.h + S.m < 1000000) :
    Calls Try.prog 18 #[.pointer (some ⟨b, 0, none⟩), .int .i64 c, .int .i64 k] w fun e w' => e = .returned (.tuple #[.int .i64 (getM S c k), .bool (getB S c k)]) ∧ RefC w' b (getS S c k) ∧ Ch (fun k => k = b) w w' := by
  obtain ⟨P, h⟩ := h
  have PL := Lib.hid (line_c c k hc hk)
  have hi := line_lt c k
  have hh := h.hh
  have hm := h.hm
  have zh := h.z 128
  have zm := h.z 129
  have hH := Lib.hid h.hit
  have hM := Lib.hid h.miss
  have cH : Hid (Ch (fun k => k = b) w (w.setCell ⟨b, 128, none⟩ (.int .i64 ((S.h + 1 : Nat) : Int)))) := Lib.hid ((Ch.refl (fun k => k = b) w).set ⟨b, 128, none⟩ (show b = b from rfl) _)
  have cM : Hid (Ch (fun k => k = b) w (w.setCell ⟨b, 129, none⟩ (.int .i64 ((S.m + 1 : Nat) : Int)))) := Lib.hid ((Ch.refl (fun k => k = b) w).set ⟨b, 129, none⟩ (show b = b from rfl) _)
  have wh : IntKind.i64.wrap ((S.h : Int) + 1) = ((S.h + 1 : Nat) : Int) := by rw [IntKind.wrap_i64]; omega
  have wm : IntKind.i64.wrap ((S.m : Int) + 1) = ((S.m + 1 : Nat) : Int) := by rw [IntKind.wrap_i64]; omega
  have gy := Lib.hid (getS_y (S := S) (c := c) (k := k))
  have gn := Lib.hid (getS_n (S := S) (c := c) (k := k))
  unfold getM
  unfold getB at gy gn ⊢
  generalize hl : lineR c k = i at *
  have i0 : (0 : Int) ≤ (i : Int) := by omega
  have i1 : (i : Int) < 32 := by omega
  have c0 := h.ch i hi
  have c1 := h.cc i hi
  have c2 := h.cs i hi
  have c3 := h.cm i hi
  have pl := Lib.hid (h.pl i)
  clear h hl hb
  generalize getS S c k = S' at *
  generalize P i = q at *
  obtain ⟨pc, pk, px⟩ := q
  simp only at c1 c2 c3
  generalize S.h + 1 = h1 at *
  generalize S.m + 1 = m1 at *
  cases hL : S.L i with
  | none =>
    obtain ⟨e1, e2⟩ := hasT_n (t := none) (c := c) (k := k) (fun x => by simp)
    rw [hL] at gy gn c0
    rw [e1, e2]
    have hf := Lib.hid (gn.out e1)
    clear gy gn e1 e2 pl hL
    simp only [Option.isSome_none] at c0
    go_enter Try.func18, Try.ntmps18
    go_wp2_with (first | (go_at_call 21; ((with_reducible refine (PL.out _).mono ?_); rintro e1 w2 ⟨rfl, hw2⟩; subst w2)))
    go_ret2
    rw [hf.out]
    exact ⟨rfl, ⟨_, hM.out⟩, cM.out⟩
  | some t =>
    have ht := pl.out t hL
    subst ht
    rw [hL] at gy gn c0
    simp only [Option.isSome_some] at c0
    clear pl hL
    by_cases h1 : pc = c
    · have h1' : (pc == c) = true := by simpa using h1
      by_cases h2 : pk = k
      · have h2' : (pk == k) = true := by simpa using h2
        obtain ⟨e1, e2⟩ := hasT_y (t := some (pc, pk, px)) (c := c) (k := k) (x := px) (by rw [h1, h2])
        rw [e1, e2]
        have hf := Lib.hid (gy.out e1)
        clear gy gn e1 e2 h1 h2
        go_enter Try.func18, Try.ntmps18
        go_wp2_with (first | (go_at_call 21; ((with_reducible refine (PL.out _).mono ?_); rintro e1 w2 ⟨rfl, hw2⟩; subst w2)))
        go_ret2
        rw [hf.out]
        exact ⟨rfl, ⟨_, hH.out⟩, cH.out⟩
      · have h2' : (pk == k) = false := by simpa using h2
        obtain ⟨e1, e2⟩ := hasT_n (t := some (pc, pk, px)) (c := c) (k := k) (fun x hx => by cases hx; exact h2 rfl)
        rw [e1, e2]
        have hf := Lib.hid (gn.out e1)
        clear gy gn e1 e2 h1 h2
        go_enter Try.func18, Try.ntmps18
        go_wp2_with (first | (go_at_call 21; ((with_reducible refine (PL.out _).mono ?_); rintro e1 w2 ⟨rfl, hw2⟩; subst w2)))
        go_ret2
        rw [hf.out]
        exact ⟨rfl, ⟨_, hM.out⟩, cM.out⟩
    · have h1' : (pc == c) = false := by simpa using h1
      obtain ⟨e1, e2⟩ := hasT_n (t := some (pc, pk, px)) (c := c) (k := k) (fun x hx => by cases hx; exact h1 rfl)
      rw [e1, e2]
      have hf := Lib.hid (gn.out e1)
      clear gy gn e1 e2 h1
      go_enter Try.func18, Try.ntmps18
      go_wp2_with (first | (go_at_call 21; ((with_reducible refine (PL.out _).mono ?_); rintro e1 w2 ⟨rfl, hw2⟩; subst w2)))
      go_ret2
      rw [hf.out]
      exact ⟨rfl, ⟨_, hM.out⟩, cM.out⟩
end Wd
end Go.Proofs.Ytpilbpofikdkmaa
