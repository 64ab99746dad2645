/- The law's own value. -/
import Derived.Test.YtkodnioheifalaaDoorJ15
/- The law's own value. -/
namespace Go.Proofs.YtkodnioheifalaaDoor
open Go.RowKit
set_option linter.unusedVariables false
set_option maxRecDepth 20000
namespace Wd
def dn (l : Bs) : Nat → Nat
  | 0 => 0
  | k + 1 => if k < 4 then 0 else match l[k]? with
    | some c => if 48 ≤ c.toNat ∧ c.toNat ≤ 57 then dn l k * 10 + (c.toNat - 48) else dn l k
    | none => dn l k
theorem dn_lt (l : Bs) : ∀ k, dn l k < 10 ^ k
  | 0 => by show 0 < 1; decide
  | k + 1 => by
    have := dn_lt l k
    unfold dn
    rw [Nat.pow_succ]
    split
    · omega
    · split
      · split <;> omega
      · omega
theorem dn_dig {l : Bs} {k : Nat} {c : UInt8} (h4 : 4 ≤ k) (h : l[k]? = some c) (h1 : 48 ≤ c.toNat) (h2 : c.toNat ≤ 57) : dn l (k + 1) = dn l k * 10 + (c.toNat - 48) := by
  conv => lhs; unfold dn
  rw [if_neg (by omega), h]
  simp only
  rw [if_pos ⟨h1, h2⟩]
theorem dn_no {l : Bs} {k : Nat} {c : UInt8} (h4 : 4 ≤ k) (h : l[k]? = some c) (h1 : ¬ (48 ≤ c.toNat ∧ c.toNat ≤ 57)) : dn l (k + 1) = dn l k := by
  conv => lhs; unfold dn
  rw [if_neg (by omega), h]
  simp only
  rw [if_neg h1]
def vn (l : Bs) : Int := if l[4]? = some 45 then -((dn l (min l.length 16) : Nat) : Int) else ((dn l (min l.length 16) : Nat) : Int)
def lval1 (l : Bs) (n k : Int) : Bool := !(knd k).isEmpty && (litB (k, n) == l) && decide (-1073741824 ≤ n) && decide (n ≤ 1073741823)
def lvS (l : Bs) (n : Int) : Nat → Int → (Int × Int) × Bool
  | 0, _ => ((0, 0), false)
  | f + 1, k => if lval1 l n k = true then ((k, n), true) else lvS l n f (k + 1)
def lvalP (l : Bs) : (Int × Int) × Bool := if l.length < 5 ∨ l[3]? ≠ some 32 then ((0, 0), false) else lvS l (vn l) 5 3
theorem lvS_yes {l : Bs} {n k : Int} {f : Nat} (h : lval1 l n k = true) : lvS l n (f + 1) k = ((k, n), true) := by
  conv => lhs; unfold lvS
  rw [if_pos h]
theorem lvS_no {l : Bs} {n k : Int} {f : Nat} (h : lval1 l n k = false) : lvS l n (f + 1) k = lvS l n f (k + 1) := by
  conv => lhs; unfold lvS
  rw [if_neg (by rw [h]; decide)]
/-- what the answer's box has -/
structure VB (w wr : World) (q : Nat) : Prop where
  mk ::
  h : wr.heap[q]? = some (.cells #[.int .i64 0, .int .i64 0] 49 (0, 0))
  le : w.heap.size ≤ q
  bel : Below w.heap.size w wr
theorem VB.up {w wr w2 : World} {q : Nat} (h : VB w wr q) (b : Below wr.heap.size wr w2) : VB w w2 q := ⟨blk_up h.h b, h.le, h.bel.trans (b.mono h.bel.size)⟩
theorem VB.c {w wr : World} {q : Nat} (h : VB w wr q) : wr.cell? ⟨q, 0, none⟩ = some (.int .i64 0) ∧ wr.cell? ⟨q, 1, none⟩ = some (.int .i64 0) ∧ wr.frozen? ⟨q, 0, none⟩ = false ∧ wr.frozen? ⟨q, 1, none⟩ = false := by
  refine ⟨?_, ?_, Lib.frozen_of_heap h.h 0, Lib.frozen_of_heap h.h 1⟩ <;> rw [Lib.cell_of_heap h.h] <;> rfl
theorem VB.fin {w wr : World} {q : Nat} (h : VB w wr q) (a b : Value) : Below w.heap.size w ((wr.setCell ⟨q, 0, none⟩ a).setCell ⟨q, 1, none⟩ b) := (h.bel.setCell h.le (p := ⟨q, 0, none⟩) _).setCell h.le (p := ⟨q, 1, none⟩) _
theorem VB.born (w : World) : VB w (w.alloc (.cells #[.int .i64 0, .int .i64 0] 49)) w.heap.size := ⟨heap_alloc_new w _, Nat.le_refl _, (Below.refl _ _).alloc (Nat.le_refl _) _⟩
set_option maxHeartbeats 16000000 in
theorem lvalue_c (l : Bs) (hm : l.length ≤ 1000) (w : World) :
    Calls Tryd.prog 25 #[.string (bs l)] w fun e w' => e = .returned (.tuple #[.agg #[.int .i64 (lvalP l).1.1, .int .i64 (lvalP l).1.2], .bool (lvalP l).2]) ∧ Below w.heap.size w w' := by
  obtain ⟨A, hA⟩ : ∃ A, A = lvalP l := ⟨_, rfl⟩
  rw [← hA]
  obtain ⟨N, hN⟩ : ∃ N, N = l.length := ⟨_, rfl⟩
  have hsz : (bs l).size = N := by rw [bs_size, hN]
  have hix : ∀ (k : Nat) (c : UInt8), l[k]? = some c → ∀ h, (bs l)[k]'h = c := fun k c hk h => by
    obtain ⟨h1, h2⟩ := List.getElem?_eq_some_iff.1 hk
    rw [← h2]
    simp [bs, ByteArray.getElem_eq_getElem_data]
  have S0 := Lib.hid (VB.born w)
  by_cases h5 : N < 5
  · have d5 : decide ((N : Int) < 5) = true := by simp; omega
    obtain rfl : A = ((0, 0), false) := by rw [hA]; unfold lvalP; rw [if_pos (Or.inl (by omega))]
    clear hix hN hA
    obtain ⟨x0, x1, f0, f1⟩ := S0.out.c
    generalize bs l = TS at *
    go_enter Tryd.func25, Tryd.ntmps25
    go_wp2_with fail
    obtain ⟨r0, r1⟩ := two_at (v0 := .int .i64 0) (v1 := .int .i64 0) x0 x1
    refine bodyPost_ret (by simp [results, Tryd.results25, go_sem]; try rfl) rfl ?_
    exact ⟨rfl, S0.out.bel⟩
  have d5 : decide ((N : Int) < 5) = false := by simp; omega
  obtain ⟨c3, hc3⟩ : ∃ c, l[3]? = some c := ⟨l[3]'(by omega), by simp⟩
  obtain ⟨c4, hc4⟩ : ∃ c, l[4]? = some c := ⟨l[4]'(by omega), by simp⟩
  have i3 := hix 3 c3 hc3
  have i4 := hix 4 c4 hc4
  by_cases h32 : c3 = 32
  case neg =>
    have g3 : ((c3.toNat : Int) == 32) = false := by
      have : ¬ c3.toNat = 32 := fun e => h32 (UInt8.toNat_inj.1 e)
      simp; omega
    have g3' : ((c3.toNat : Int) != 32) = true := by simpa using g3
    obtain rfl : A = ((0, 0), false) := by rw [hA]; unfold lvalP; rw [if_pos (Or.inr (by rw [hc3]; simpa using h32))]
    clear hix hN hA hc3 hc4 i4 h32
    obtain ⟨x0, x1, f0, f1⟩ := S0.out.c
    generalize bs l = TS at *
    go_enter Tryd.func25, Tryd.ntmps25
    go_wp2_with fail
    obtain ⟨r0, r1⟩ := two_at (v0 := .int .i64 0) (v1 := .int .i64 0) x0 x1
    refine bodyPost_ret (by simp [results, Tryd.results25, go_sem]; try rfl) rfl ?_
    exact ⟨rfl, S0.out.bel⟩
  case pos =>
    subst h32
    have hA' : Hid (lvS l (vn l) 5 3 = A) := Lib.hid (by rw [hA]; unfold lvalP; rw [if_neg (by rw [hc3]; simp; omega)])
    clear hA
    replace hN := Lib.hid hN
    replace hix := Lib.hid hix
    have hm' := hm
    go_enter Tryd.func25, Tryd.ntmps25
    go_upto_region 5 with fail
    generalize w.alloc (.cells #[.int .i64 0, .int .i64 0] 49) = W at *
    obtain ⟨q2, hq2⟩ : ∃ q, w.heap.size = q := ⟨_, rfl⟩
    simp only [hq2] at S0 ⊢
    clear hq2
    go_loopw [4, 5] (fun v i wr => ∃ (k : Nat), 4 ≤ k ∧ k ≤ N ∧ k ≤ 16 ∧ v = .int .i64 ((dn l k : Nat) : Int) ∧ i = .int .i64 k ∧ wr = W) (fun _ i _ => N - (intOf i).toNat)
    case atStart => exact ⟨4, by omega, by omega, by omega, rfl, rfl, rfl⟩
    case round =>
      obtain ⟨k, hk4, hkN, hk16, rfl, rfl, rfl⟩ := hrel
      have hd := dn_lt l k
      have hd2 : dn l k < 10000000000000000 := Nat.lt_of_lt_of_le hd (by
        have : (10 : Nat) ^ k ≤ 10 ^ 16 := Nat.pow_le_pow_right (by decide) hk16
        omega)
      by_cases hlt : k < N
      · have e1 : decide ((k : Int) < (N : Int)) = true := by simp; omega
        by_cases h16 : k < 16
        · have e2 : decide ((k : Int) < 16) = true := by simp; omega
          have p0 : (0 : Int) ≤ (k : Int) := by omega
          have p1 : (k : Int) < (N : Int) := by omega
          obtain ⟨c, hc⟩ : ∃ c, l[k]? = some c := ⟨l[k]'(by have := hN.out; omega), by simp⟩
          have ik := hix.out k c hc
          have hc9 : c.toNat < 256 := c.toNat_lt
          by_cases h48 : 48 ≤ c.toNat
          · have f1 : decide ((48 : Int) ≤ (c.toNat : Int)) = true := by simp; omega
            by_cases h57 : c.toNat ≤ 57
            · have f2 : decide ((c.toNat : Int) ≤ 57) = true := by simp; omega
              have hnx := dn_dig hk4 hc h48 h57
              have hw : ((dn l (k + 1) : Nat) : Int) = ((dn l k : Nat) : Int) * 10 + ((c.toNat : Int) - 48) := by
                rw [hnx]
                omega
              replace hw := Lib.hid hw
              clear hc hd hnx
              go_wp2_with fail
              go_roundw
              case rel => exact ⟨k + 1, by omega, by omega, by omega, by rw [hw.out], by go_num, by trivial⟩
              case measure => simp [intOf]; omega
            · have f2 : decide ((c.toNat : Int) ≤ 57) = false := by simp; omega
              have hnx := dn_no hk4 hc (by omega)
              clear hc hd
              go_wp2_with fail
              go_roundw
              case rel => exact ⟨k + 1, by omega, by omega, by omega, by rw [hnx], by go_num, by trivial⟩
              case measure => simp [intOf]; omega
          · have f1 : decide ((48 : Int) ≤ (c.toNat : Int)) = false := by simp; omega
            have hnx := dn_no hk4 hc (by omega)
            clear hc hd
            go_wp2_with fail
            go_roundw
            case rel => exact ⟨k + 1, by omega, by omega, by omega, by rw [hnx], by go_num, by trivial⟩
            case measure => simp [intOf]; omega
        · have e2 : decide ((k : Int) < 16) = false := by simp; omega
          by_cases hdone : True
          · have hmin : min l.length 16 = k := by have := hN.out; omega
            have z1 : (-10000000000000000 : Int) ≤ vn l := by unfold vn; rw [hmin]; split <;> omega
            have z2 : vn l ≤ (10000000000000000 : Int) := by unfold vn; rw [hmin]; split <;> omega
            by_cases hm45 : c4 = 45
            · have g5 : ((c4.toNat : Int) == 45) = true := by rw [hm45]; rfl
              have hv : vn l = -((dn l k : Nat) : Int) := by unfold vn; rw [hmin, if_pos (by rw [hc4, hm45])]
              rw [hv] at hA' z1 z2
              clear hv hm45
              go_upto_region 12 with fail
              generalize -((dn l k : Nat) : Int) = n at *
              clear hmin hc4 hc3 hd hd2 hdone i3 i4 hix d5 g5
              go_loopw [6] (fun i wx => ∃ j K : Nat, j ≤ 5 ∧ Hid (K = 3 + j) ∧ i = .int .i64 (K : Int) ∧ Hid (VB w wx q2 ∧ lvS l n (5 - j) (K : Int) = A)) (fun i _ => 8 - (intOf i).toNat)
              case atStart => exact ⟨0, 3, by omega, Lib.hid (by omega), rfl, Lib.hid ⟨S0.out, hA'.out⟩⟩
              case round =>
                clear S0 hA'
                obtain ⟨j, K, hj, hK, rfl, hR⟩ := hrel
                by_cases hj5 : j < 5
                · have e7 : decide ((K : Int) ≤ 7) = true := by have := hK.out; simp; omega
                  have k0 : (0 : Int) ≤ (K : Int) := by omega
                  have k8 : (K : Int) ≤ 7 := by have := hK.out; omega
                  obtain ⟨f, hf⟩ : ∃ f, 5 - j = f + 1 := ⟨4 - j, by omega⟩
                  have hf2 : 5 - (j + 1) = f := by omega
                  rw [hf] at hR
                  have PK := Lib.hid (fun w => lkind_c (K : Int) w)
                  have PI := Lib.hid (fun w => llit_c (w := w) (k := (K : Int)) (n := n) ⟨by omega, by omega⟩)
                  have hS := Lib.hid (hR.out.1.up ((Below.refl _ _).alloc (Nat.le_refl _) (.cells #[.int .i64 K, .int .i64 n] 49)))
                  have hV := Lib.hid (heap_alloc_new wr (.cells #[.int .i64 K, .int .i64 n] 49))
                  have hR2 := Lib.hid hR.out.2
                  have hno := Lib.hid (fun (h : lval1 l n K = false) => (lvS_no (f := f) h).symm.trans hR.out.2)
                  have hyes := Lib.hid (fun (h : lval1 l n K = true) => (lvS_yes (f := f) h).symm.trans hR.out.2)
                  clear hR hR2
                  by_cases g1 : knd K = []
                  · have g2 := bs_em
                    rw [g1] at PK
                    have hl1 : lval1 l n K = false := by unfold lval1; rw [g1]; rfl
                    have hn1 := Lib.hid (hno.out hl1)
                    clear hno hyes hl1 g1 PI hV
                    go_wp2_with (go_at_call 43; (with_reducible refine (PK.out _).mono ?_); rintro e y4 ⟨rfl, hy4⟩; subst y4)
                    go_roundw
                    case rel => exact ⟨j + 1, K + 1, by omega, Lib.hid (by have := hK.out; omega), by go_num, Lib.hid ⟨hS.out, by rw [hf2]; exact hn1.out⟩⟩
                    case measure => have := hK.out; simp [intOf]; omega
                  · have g2 := bs_nem g1
                    by_cases gl : litB ((K : Int), n) = l
                    case neg =>
                      have g3 : ((bs (litB ((K : Int), n))).toList == (bs l).toList) = false := bl_ne (fun e => gl (bs_inj e))
                      have hl1 : lval1 l n K = false := by
                        unfold lval1
                        rw [show (litB ((K : Int), n) == l) = false by simpa using gl]
                        simp
                      have hn1 := Lib.hid (hno.out hl1)
                      clear hno hyes hl1 g1 hV gl
                      go_wp2_with (first
                        | (go_at_call 43; (with_reducible refine (PK.out _).mono ?_); rintro e y4 ⟨rfl, hy4⟩; subst y4)
                        | (go_at_call 41; (with_reducible refine (PI.out _).mono ?_); rintro e y5 ⟨rfl, hb⟩; (replace hS := Lib.hid (hS.out.up hb)); clear hb))
                      go_roundw
                      case rel => exact ⟨j + 1, K + 1, by omega, Lib.hid (by have := hK.out; omega), by go_num, Lib.hid ⟨hS.out, by rw [hf2]; exact hn1.out⟩⟩
                      case measure => simp [intOf]; omega
                    case pos =>
                      have g3 : ((bs (litB ((K : Int), n))).toList == (bs l).toList) = true := bl_eq (by rw [gl])
                      have hq1 : lval1 l n K = (decide (-1073741824 ≤ n) && decide (n ≤ 1073741823)) := by
                        unfold lval1
                        rw [show (litB ((K : Int), n) == l) = true by simpa using gl, show (knd (K : Int)).isEmpty = false by simpa using g1]
                        simp
                      clear gl g1
                      by_cases c1 : -1073741824 ≤ n
                      · have d1 : decide (-1073741824 ≤ n) = true := by simpa using c1
                        by_cases c2 : n ≤ 1073741823
                        · have d2 : decide (n ≤ 1073741823) = true := by simpa using c2
                          obtain rfl := hyes.out (by rw [hq1, d1, d2]; rfl)
                          clear hno hyes hq1 c1 c2
                          go_wp2_with (first
                            | (go_at_call 43; (with_reducible refine (PK.out _).mono ?_); rintro e y4 ⟨rfl, hy4⟩; subst y4)
                            | (go_at_call 41; (with_reducible refine (PI.out _).mono ?_); rintro e y5 ⟨rfl, hb⟩; (replace hS := Lib.hid (hS.out.up hb)); (replace hV := Lib.hid (blk_up hV.out hb)); clear hb; obtain ⟨x0, x1, f0, f1⟩ := hS.out.c; (have v0 : y5.cell? ⟨wr.heap.size, 0, none⟩ = some (.int .i64 K) := by rw [Lib.cell_of_heap hV.out]; rfl); (have v1 : y5.cell? ⟨wr.heap.size, 1, none⟩ = some (.int .i64 n) := by rw [Lib.cell_of_heap hV.out]; rfl)))
                          obtain ⟨r0, r1⟩ := two_at (v0 := .int .i64 K) (v1 := .int .i64 n) x0 x1
                          refine bodyPost_ret (by simp [results, Tryd.results25, go_sem, r0, r1]; try rfl) rfl ?_
                          exact ⟨rfl, hS.out.fin _ _⟩
                        · have d2 : decide (n ≤ 1073741823) = false := by simpa using c2
                          have hn1 := Lib.hid (hno.out (by rw [hq1, d2]; simp))
                          clear hno hyes hq1 hV
                          go_wp2_with (first
                            | (go_at_call 43; (with_reducible refine (PK.out _).mono ?_); rintro e y4 ⟨rfl, hy4⟩; subst y4)
                            | (go_at_call 41; (with_reducible refine (PI.out _).mono ?_); rintro e y5 ⟨rfl, hb⟩; (replace hS := Lib.hid (hS.out.up hb)); clear hb))
                          go_roundw
                          case rel => exact ⟨j + 1, K + 1, by omega, Lib.hid (by have := hK.out; omega), by go_num, Lib.hid ⟨hS.out, by rw [hf2]; exact hn1.out⟩⟩
                          case measure => simp [intOf]; omega
                      · have d1 : decide (-1073741824 ≤ n) = false := by simpa using c1
                        have hn1 := Lib.hid (hno.out (by rw [hq1, d1]; rfl))
                        clear hno hyes hq1 hV
                        go_wp2_with (first
                          | (go_at_call 43; (with_reducible refine (PK.out _).mono ?_); rintro e y4 ⟨rfl, hy4⟩; subst y4)
                          | (go_at_call 41; (with_reducible refine (PI.out _).mono ?_); rintro e y5 ⟨rfl, hb⟩; (replace hS := Lib.hid (hS.out.up hb)); clear hb))
                        go_roundw
                        case rel => exact ⟨j + 1, K + 1, by omega, Lib.hid (by have := hK.out; omega), by go_num, Lib.hid ⟨hS.out, by rw [hf2]; exact hn1.out⟩⟩
                        case measure => simp [intOf]; omega
                · have e7 : decide ((K : Int) ≤ 7) = false := by have := hK.out; simp; omega
                  obtain rfl : j = 5 := by omega
                  obtain ⟨hS, rfl⟩ := hR.out
                  have hz5 : lvS l n (5 - 5) (K : Int) = ((0, 0), false) := rfl
                  rw [hz5]
                  clear hz5
                  replace hS := Lib.hid hS
                  obtain ⟨x0, x1, f0, f1⟩ := hS.out.c
                  clear hR
                  go_wp2_with fail
                  obtain ⟨r0, r1⟩ := two_at (v0 := .int .i64 0) (v1 := .int .i64 0) x0 x1
                  refine bodyPost_ret (by simp [results, Tryd.results25, go_sem, r0, r1]; try rfl) rfl ?_
                  first | exact ⟨rfl, hS.out.fin _ _⟩ | exact ⟨rfl, hS.out.bel⟩
            · have g5 : ((c4.toNat : Int) == 45) = false := by
                have : ¬ c4.toNat = 45 := fun e => hm45 (UInt8.toNat_inj.1 e)
                simp; omega
              have hv : vn l = ((dn l k : Nat) : Int) := by unfold vn; rw [hmin, if_neg (by rw [hc4]; simpa using hm45)]
              rw [hv] at hA' z1 z2
              clear hv hm45
              go_upto_region 12 with fail
              generalize ((dn l k : Nat) : Int) = n at *
              clear hmin hc4 hc3 hd hd2 hdone i3 i4 hix d5 g5
              go_loopw [6] (fun i wx => ∃ j K : Nat, j ≤ 5 ∧ Hid (K = 3 + j) ∧ i = .int .i64 (K : Int) ∧ Hid (VB w wx q2 ∧ lvS l n (5 - j) (K : Int) = A)) (fun i _ => 8 - (intOf i).toNat)
              case atStart => exact ⟨0, 3, by omega, Lib.hid (by omega), rfl, Lib.hid ⟨S0.out, hA'.out⟩⟩
              case round =>
                clear S0 hA'
                obtain ⟨j, K, hj, hK, rfl, hR⟩ := hrel
                by_cases hj5 : j < 5
                · have e7 : decide ((K : Int) ≤ 7) = true := by have := hK.out; simp; omega
                  have k0 : (0 : Int) ≤ (K : Int) := by omega
                  have k8 : (K : Int) ≤ 7 := by have := hK.out; omega
                  obtain ⟨f, hf⟩ : ∃ f, 5 - j = f + 1 := ⟨4 - j, by omega⟩
                  have hf2 : 5 - (j + 1) = f := by omega
                  rw [hf] at hR
                  have PK := Lib.hid (fun w => lkind_c (K : Int) w)
                  have PI := Lib.hid (fun w => llit_c (w := w) (k := (K : Int)) (n := n) ⟨by omega, by omega⟩)
                  have hS := Lib.hid (hR.out.1.up ((Below.refl _ _).alloc (Nat.le_refl _) (.cells #[.int .i64 K, .int .i64 n] 49)))
                  have hV := Lib.hid (heap_alloc_new wr (.cells #[.int .i64 K, .int .i64 n] 49))
                  have hR2 := Lib.hid hR.out.2
                  have hno := Lib.hid (fun (h : lval1 l n K = false) => (lvS_no (f := f) h).symm.trans hR.out.2)
                  have hyes := Lib.hid (fun (h : lval1 l n K = true) => (lvS_yes (f := f) h).symm.trans hR.out.2)
                  clear hR hR2
                  by_cases g1 : knd K = []
                  · have g2 := bs_em
                    rw [g1] at PK
                    have hl1 : lval1 l n K = false := by unfold lval1; rw [g1]; rfl
                    have hn1 := Lib.hid (hno.out hl1)
                    clear hno hyes hl1 g1 PI hV
                    go_wp2_with (go_at_call 43; (with_reducible refine (PK.out _).mono ?_); rintro e y4 ⟨rfl, hy4⟩; subst y4)
                    go_roundw
                    case rel => exact ⟨j + 1, K + 1, by omega, Lib.hid (by have := hK.out; omega), by go_num, Lib.hid ⟨hS.out, by rw [hf2]; exact hn1.out⟩⟩
                    case measure => have := hK.out; simp [intOf]; omega
                  · have g2 := bs_nem g1
                    by_cases gl : litB ((K : Int), n) = l
                    case neg =>
                      have g3 : ((bs (litB ((K : Int), n))).toList == (bs l).toList) = false := bl_ne (fun e => gl (bs_inj e))
                      have hl1 : lval1 l n K = false := by
                        unfold lval1
                        rw [show (litB ((K : Int), n) == l) = false by simpa using gl]
                        simp
                      have hn1 := Lib.hid (hno.out hl1)
                      clear hno hyes hl1 g1 hV gl
                      go_wp2_with (first
                        | (go_at_call 43; (with_reducible refine (PK.out _).mono ?_); rintro e y4 ⟨rfl, hy4⟩; subst y4)
                        | (go_at_call 41; (with_reducible refine (PI.out _).mono ?_); rintro e y5 ⟨rfl, hb⟩; (replace hS := Lib.hid (hS.out.up hb)); clear hb))
                      go_roundw
                      case rel => exact ⟨j + 1, K + 1, by omega, Lib.hid (by have := hK.out; omega), by go_num, Lib.hid ⟨hS.out, by rw [hf2]; exact hn1.out⟩⟩
                      case measure => simp [intOf]; omega
                    case pos =>
                      have g3 : ((bs (litB ((K : Int), n))).toList == (bs l).toList) = true := bl_eq (by rw [gl])
                      have hq1 : lval1 l n K = (decide (-1073741824 ≤ n) && decide (n ≤ 1073741823)) := by
                        unfold lval1
                        rw [show (litB ((K : Int), n) == l) = true by simpa using gl, show (knd (K : Int)).isEmpty = false by simpa using g1]
                        simp
                      clear gl g1
                      by_cases c1 : -1073741824 ≤ n
                      · have d1 : decide (-1073741824 ≤ n) = true := by simpa using c1
                        by_cases c2 : n ≤ 1073741823
                        · have d2 : decide (n ≤ 1073741823) = true := by simpa using c2
                          obtain rfl := hyes.out (by rw [hq1, d1, d2]; rfl)
                          clear hno hyes hq1 c1 c2
                          go_wp2_with (first
                            | (go_at_call 43; (with_reducible refine (PK.out _).mono ?_); rintro e y4 ⟨rfl, hy4⟩; subst y4)
                            | (go_at_call 41; (with_reducible refine (PI.out _).mono ?_); rintro e y5 ⟨rfl, hb⟩; (replace hS := Lib.hid (hS.out.up hb)); (replace hV := Lib.hid (blk_up hV.out hb)); clear hb; obtain ⟨x0, x1, f0, f1⟩ := hS.out.c; (have v0 : y5.cell? ⟨wr.heap.size, 0, none⟩ = some (.int .i64 K) := by rw [Lib.cell_of_heap hV.out]; rfl); (have v1 : y5.cell? ⟨wr.heap.size, 1, none⟩ = some (.int .i64 n) := by rw [Lib.cell_of_heap hV.out]; rfl)))
                          obtain ⟨r0, r1⟩ := two_at (v0 := .int .i64 K) (v1 := .int .i64 n) x0 x1
                          refine bodyPost_ret (by simp [results, Tryd.results25, go_sem, r0, r1]; try rfl) rfl ?_
                          exact ⟨rfl, hS.out.fin _ _⟩
                        · have d2 : decide (n ≤ 1073741823) = false := by simpa using c2
                          have hn1 := Lib.hid (hno.out (by rw [hq1, d2]; simp))
                          clear hno hyes hq1 hV
                          go_wp2_with (first
                            | (go_at_call 43; (with_reducible refine (PK.out _).mono ?_); rintro e y4 ⟨rfl, hy4⟩; subst y4)
                            | (go_at_call 41; (with_reducible refine (PI.out _).mono ?_); rintro e y5 ⟨rfl, hb⟩; (replace hS := Lib.hid (hS.out.up hb)); clear hb))
                          go_roundw
                          case rel => exact ⟨j + 1, K + 1, by omega, Lib.hid (by have := hK.out; omega), by go_num, Lib.hid ⟨hS.out, by rw [hf2]; exact hn1.out⟩⟩
                          case measure => simp [intOf]; omega
                      · have d1 : decide (-1073741824 ≤ n) = false := by simpa using c1
                        have hn1 := Lib.hid (hno.out (by rw [hq1, d1]; rfl))
                        clear hno hyes hq1 hV
                        go_wp2_with (first
                          | (go_at_call 43; (with_reducible refine (PK.out _).mono ?_); rintro e y4 ⟨rfl, hy4⟩; subst y4)
                          | (go_at_call 41; (with_reducible refine (PI.out _).mono ?_); rintro e y5 ⟨rfl, hb⟩; (replace hS := Lib.hid (hS.out.up hb)); clear hb))
                        go_roundw
                        case rel => exact ⟨j + 1, K + 1, by omega, Lib.hid (by have := hK.out; omega), by go_num, Lib.hid ⟨hS.out, by rw [hf2]; exact hn1.out⟩⟩
                        case measure => simp [intOf]; omega
                · have e7 : decide ((K : Int) ≤ 7) = false := by have := hK.out; simp; omega
                  obtain rfl : j = 5 := by omega
                  obtain ⟨hS, rfl⟩ := hR.out
                  have hz5 : lvS l n (5 - 5) (K : Int) = ((0, 0), false) := rfl
                  rw [hz5]
                  clear hz5
                  replace hS := Lib.hid hS
                  obtain ⟨x0, x1, f0, f1⟩ := hS.out.c
                  clear hR
                  go_wp2_with fail
                  obtain ⟨r0, r1⟩ := two_at (v0 := .int .i64 0) (v1 := .int .i64 0) x0 x1
                  refine bodyPost_ret (by simp [results, Tryd.results25, go_sem, r0, r1]; try rfl) rfl ?_
                  first | exact ⟨rfl, hS.out.fin _ _⟩ | exact ⟨rfl, hS.out.bel⟩
          · exact absurd trivial hdone
      · have e1 : decide ((k : Int) < (N : Int)) = false := by simp; omega
        by_cases hdone : True
        · have hmin : min l.length 16 = k := by have := hN.out; omega
          have z1 : (-10000000000000000 : Int) ≤ vn l := by unfold vn; rw [hmin]; split <;> omega
          have z2 : vn l ≤ (10000000000000000 : Int) := by unfold vn; rw [hmin]; split <;> omega
          by_cases hm45 : c4 = 45
          · have g5 : ((c4.toNat : Int) == 45) = true := by rw [hm45]; rfl
            have hv : vn l = -((dn l k : Nat) : Int) := by unfold vn; rw [hmin, if_pos (by rw [hc4, hm45])]
            rw [hv] at hA' z1 z2
            clear hv hm45
            go_upto_region 12 with fail
            generalize -((dn l k : Nat) : Int) = n at *
            clear hmin hc4 hc3 hd hd2 hdone i3 i4 hix d5 g5
            go_loopw [6] (fun i wx => ∃ j K : Nat, j ≤ 5 ∧ Hid (K = 3 + j) ∧ i = .int .i64 (K : Int) ∧ Hid (VB w wx q2 ∧ lvS l n (5 - j) (K : Int) = A)) (fun i _ => 8 - (intOf i).toNat)
            case atStart => exact ⟨0, 3, by omega, Lib.hid (by omega), rfl, Lib.hid ⟨S0.out, hA'.out⟩⟩
            case round =>
              clear S0 hA'
              obtain ⟨j, K, hj, hK, rfl, hR⟩ := hrel
              by_cases hj5 : j < 5
              · have e7 : decide ((K : Int) ≤ 7) = true := by have := hK.out; simp; omega
                have k0 : (0 : Int) ≤ (K : Int) := by omega
                have k8 : (K : Int) ≤ 7 := by have := hK.out; omega
                obtain ⟨f, hf⟩ : ∃ f, 5 - j = f + 1 := ⟨4 - j, by omega⟩
                have hf2 : 5 - (j + 1) = f := by omega
                rw [hf] at hR
                have PK := Lib.hid (fun w => lkind_c (K : Int) w)
                have PI := Lib.hid (fun w => llit_c (w := w) (k := (K : Int)) (n := n) ⟨by omega, by omega⟩)
                have hS := Lib.hid (hR.out.1.up ((Below.refl _ _).alloc (Nat.le_refl _) (.cells #[.int .i64 K, .int .i64 n] 49)))
                have hV := Lib.hid (heap_alloc_new wr (.cells #[.int .i64 K, .int .i64 n] 49))
                have hR2 := Lib.hid hR.out.2
                have hno := Lib.hid (fun (h : lval1 l n K = false) => (lvS_no (f := f) h).symm.trans hR.out.2)
                have hyes := Lib.hid (fun (h : lval1 l n K = true) => (lvS_yes (f := f) h).symm.trans hR.out.2)
                clear hR hR2
                by_cases g1 : knd K = []
                · have g2 := bs_em
                  rw [g1] at PK
                  have hl1 : lval1 l n K = false := by unfold lval1; rw [g1]; rfl
                  have hn1 := Lib.hid (hno.out hl1)
                  clear hno hyes hl1 g1 PI hV
                  go_wp2_with (go_at_call 43; (with_reducible refine (PK.out _).mono ?_); rintro e y4 ⟨rfl, hy4⟩; subst y4)
                  go_roundw
                  case rel => exact ⟨j + 1, K + 1, by omega, Lib.hid (by have := hK.out; omega), by go_num, Lib.hid ⟨hS.out, by rw [hf2]; exact hn1.out⟩⟩
                  case measure => have := hK.out; simp [intOf]; omega
                · have g2 := bs_nem g1
                  by_cases gl : litB ((K : Int), n) = l
                  case neg =>
                    have g3 : ((bs (litB ((K : Int), n))).toList == (bs l).toList) = false := bl_ne (fun e => gl (bs_inj e))
                    have hl1 : lval1 l n K = false := by
                      unfold lval1
                      rw [show (litB ((K : Int), n) == l) = false by simpa using gl]
                      simp
                    have hn1 := Lib.hid (hno.out hl1)
                    clear hno hyes hl1 g1 hV gl
                    go_wp2_with (first
                      | (go_at_call 43; (with_reducible refine (PK.out _).mono ?_); rintro e y4 ⟨rfl, hy4⟩; subst y4)
                      | (go_at_call 41; (with_reducible refine (PI.out _).mono ?_); rintro e y5 ⟨rfl, hb⟩; (replace hS := Lib.hid (hS.out.up hb)); clear hb))
                    go_roundw
                    case rel => exact ⟨j + 1, K + 1, by omega, Lib.hid (by have := hK.out; omega), by go_num, Lib.hid ⟨hS.out, by rw [hf2]; exact hn1.out⟩⟩
                    case measure => simp [intOf]; omega
                  case pos =>
                    have g3 : ((bs (litB ((K : Int), n))).toList == (bs l).toList) = true := bl_eq (by rw [gl])
                    have hq1 : lval1 l n K = (decide (-1073741824 ≤ n) && decide (n ≤ 1073741823)) := by
                      unfold lval1
                      rw [show (litB ((K : Int), n) == l) = true by simpa using gl, show (knd (K : Int)).isEmpty = false by simpa using g1]
                      simp
                    clear gl g1
                    by_cases c1 : -1073741824 ≤ n
                    · have d1 : decide (-1073741824 ≤ n) = true := by simpa using c1
                      by_cases c2 : n ≤ 1073741823
                      · have d2 : decide (n ≤ 1073741823) = true := by simpa using c2
                        obtain rfl := hyes.out (by rw [hq1, d1, d2]; rfl)
                        clear hno hyes hq1 c1 c2
                        go_wp2_with (first
                          | (go_at_call 43; (with_reducible refine (PK.out _).mono ?_); rintro e y4 ⟨rfl, hy4⟩; subst y4)
                          | (go_at_call 41; (with_reducible refine (PI.out _).mono ?_); rintro e y5 ⟨rfl, hb⟩; (replace hS := Lib.hid (hS.out.up hb)); (replace hV := Lib.hid (blk_up hV.out hb)); clear hb; obtain ⟨x0, x1, f0, f1⟩ := hS.out.c; (have v0 : y5.cell? ⟨wr.heap.size, 0, none⟩ = some (.int .i64 K) := by rw [Lib.cell_of_heap hV.out]; rfl); (have v1 : y5.cell? ⟨wr.heap.size, 1, none⟩ = some (.int .i64 n) := by rw [Lib.cell_of_heap hV.out]; rfl)))
                        obtain ⟨r0, r1⟩ := two_at (v0 := .int .i64 K) (v1 := .int .i64 n) x0 x1
                        refine bodyPost_ret (by simp [results, Tryd.results25, go_sem, r0, r1]; try rfl) rfl ?_
                        exact ⟨rfl, hS.out.fin _ _⟩
                      · have d2 : decide (n ≤ 1073741823) = false := by simpa using c2
                        have hn1 := Lib.hid (hno.out (by rw [hq1, d2]; simp))
                        clear hno hyes hq1 hV
                        go_wp2_with (first
                          | (go_at_call 43; (with_reducible refine (PK.out _).mono ?_); rintro e y4 ⟨rfl, hy4⟩; subst y4)
                          | (go_at_call 41; (with_reducible refine (PI.out _).mono ?_); rintro e y5 ⟨rfl, hb⟩; (replace hS := Lib.hid (hS.out.up hb)); clear hb))
                        go_roundw
                        case rel => exact ⟨j + 1, K + 1, by omega, Lib.hid (by have := hK.out; omega), by go_num, Lib.hid ⟨hS.out, by rw [hf2]; exact hn1.out⟩⟩
                        case measure => simp [intOf]; omega
                    · have d1 : decide (-1073741824 ≤ n) = false := by simpa using c1
                      have hn1 := Lib.hid (hno.out (by rw [hq1, d1]; rfl))
                      clear hno hyes hq1 hV
                      go_wp2_with (first
                        | (go_at_call 43; (with_reducible refine (PK.out _).mono ?_); rintro e y4 ⟨rfl, hy4⟩; subst y4)
                        | (go_at_call 41; (with_reducible refine (PI.out _).mono ?_); rintro e y5 ⟨rfl, hb⟩; (replace hS := Lib.hid (hS.out.up hb)); clear hb))
                      go_roundw
                      case rel => exact ⟨j + 1, K + 1, by omega, Lib.hid (by have := hK.out; omega), by go_num, Lib.hid ⟨hS.out, by rw [hf2]; exact hn1.out⟩⟩
                      case measure => simp [intOf]; omega
              · have e7 : decide ((K : Int) ≤ 7) = false := by have := hK.out; simp; omega
                obtain rfl : j = 5 := by omega
                obtain ⟨hS, rfl⟩ := hR.out
                have hz5 : lvS l n (5 - 5) (K : Int) = ((0, 0), false) := rfl
                rw [hz5]
                clear hz5
                replace hS := Lib.hid hS
                obtain ⟨x0, x1, f0, f1⟩ := hS.out.c
                clear hR
                go_wp2_with fail
                obtain ⟨r0, r1⟩ := two_at (v0 := .int .i64 0) (v1 := .int .i64 0) x0 x1
                refine bodyPost_ret (by simp [results, Tryd.results25, go_sem, r0, r1]; try rfl) rfl ?_
                first | exact ⟨rfl, hS.out.fin _ _⟩ | exact ⟨rfl, hS.out.bel⟩
          · have g5 : ((c4.toNat : Int) == 45) = false := by
              have : ¬ c4.toNat = 45 := fun e => hm45 (UInt8.toNat_inj.1 e)
              simp; omega
            have hv : vn l = ((dn l k : Nat) : Int) := by unfold vn; rw [hmin, if_neg (by rw [hc4]; simpa using hm45)]
            rw [hv] at hA' z1 z2
            clear hv hm45
            go_upto_region 12 with fail
            generalize ((dn l k : Nat) : Int) = n at *
            clear hmin hc4 hc3 hd hd2 hdone i3 i4 hix d5 g5
            go_loopw [6] (fun i wx => ∃ j K : Nat, j ≤ 5 ∧ Hid (K = 3 + j) ∧ i = .int .i64 (K : Int) ∧ Hid (VB w wx q2 ∧ lvS l n (5 - j) (K : Int) = A)) (fun i _ => 8 - (intOf i).toNat)
            case atStart => exact ⟨0, 3, by omega, Lib.hid (by omega), rfl, Lib.hid ⟨S0.out, hA'.out⟩⟩
            case round =>
              clear S0 hA'
              obtain ⟨j, K, hj, hK, rfl, hR⟩ := hrel
              by_cases hj5 : j < 5
              · have e7 : decide ((K : Int) ≤ 7) = true := by have := hK.out; simp; omega
                have k0 : (0 : Int) ≤ (K : Int) := by omega
                have k8 : (K : Int) ≤ 7 := by have := hK.out; omega
                obtain ⟨f, hf⟩ : ∃ f, 5 - j = f + 1 := ⟨4 - j, by omega⟩
                have hf2 : 5 - (j + 1) = f := by omega
                rw [hf] at hR
                have PK := Lib.hid (fun w => lkind_c (K : Int) w)
                have PI := Lib.hid (fun w => llit_c (w := w) (k := (K : Int)) (n := n) ⟨by omega, by omega⟩)
                have hS := Lib.hid (hR.out.1.up ((Below.refl _ _).alloc (Nat.le_refl _) (.cells #[.int .i64 K, .int .i64 n] 49)))
                have hV := Lib.hid (heap_alloc_new wr (.cells #[.int .i64 K, .int .i64 n] 49))
                have hR2 := Lib.hid hR.out.2
                have hno := Lib.hid (fun (h : lval1 l n K = false) => (lvS_no (f := f) h).symm.trans hR.out.2)
                have hyes := Lib.hid (fun (h : lval1 l n K = true) => (lvS_yes (f := f) h).symm.trans hR.out.2)
                clear hR hR2
                by_cases g1 : knd K = []
                · have g2 := bs_em
                  rw [g1] at PK
                  have hl1 : lval1 l n K = false := by unfold lval1; rw [g1]; rfl
                  have hn1 := Lib.hid (hno.out hl1)
                  clear hno hyes hl1 g1 PI hV
                  go_wp2_with (go_at_call 43; (with_reducible refine (PK.out _).mono ?_); rintro e y4 ⟨rfl, hy4⟩; subst y4)
                  go_roundw
                  case rel => exact ⟨j + 1, K + 1, by omega, Lib.hid (by have := hK.out; omega), by go_num, Lib.hid ⟨hS.out, by rw [hf2]; exact hn1.out⟩⟩
                  case measure => have := hK.out; simp [intOf]; omega
                · have g2 := bs_nem g1
                  by_cases gl : litB ((K : Int), n) = l
                  case neg =>
                    have g3 : ((bs (litB ((K : Int), n))).toList == (bs l).toList) = false := bl_ne (fun e => gl (bs_inj e))
                    have hl1 : lval1 l n K = false := by
                      unfold lval1
                      rw [show (litB ((K : Int), n) == l) = false by simpa using gl]
                      simp
                    have hn1 := Lib.hid (hno.out hl1)
                    clear hno hyes hl1 g1 hV gl
                    go_wp2_with (first
                      | (go_at_call 43; (with_reducible refine (PK.out _).mono ?_); rintro e y4 ⟨rfl, hy4⟩; subst y4)
                      | (go_at_call 41; (with_reducible refine (PI.out _).mono ?_); rintro e y5 ⟨rfl, hb⟩; (replace hS := Lib.hid (hS.out.up hb)); clear hb))
                    go_roundw
                    case rel => exact ⟨j + 1, K + 1, by omega, Lib.hid (by have := hK.out; omega), by go_num, Lib.hid ⟨hS.out, by rw [hf2]; exact hn1.out⟩⟩
                    case measure => simp [intOf]; omega
                  case pos =>
                    have g3 : ((bs (litB ((K : Int), n))).toList == (bs l).toList) = true := bl_eq (by rw [gl])
                    have hq1 : lval1 l n K = (decide (-1073741824 ≤ n) && decide (n ≤ 1073741823)) := by
                      unfold lval1
                      rw [show (litB ((K : Int), n) == l) = true by simpa using gl, show (knd (K : Int)).isEmpty = false by simpa using g1]
                      simp
                    clear gl g1
                    by_cases c1 : -1073741824 ≤ n
                    · have d1 : decide (-1073741824 ≤ n) = true := by simpa using c1
                      by_cases c2 : n ≤ 1073741823
                      · have d2 : decide (n ≤ 1073741823) = true := by simpa using c2
                        obtain rfl := hyes.out (by rw [hq1, d1, d2]; rfl)
                        clear hno hyes hq1 c1 c2
                        go_wp2_with (first
                          | (go_at_call 43; (with_reducible refine (PK.out _).mono ?_); rintro e y4 ⟨rfl, hy4⟩; subst y4)
                          | (go_at_call 41; (with_reducible refine (PI.out _).mono ?_); rintro e y5 ⟨rfl, hb⟩; (replace hS := Lib.hid (hS.out.up hb)); (replace hV := Lib.hid (blk_up hV.out hb)); clear hb; obtain ⟨x0, x1, f0, f1⟩ := hS.out.c; (have v0 : y5.cell? ⟨wr.heap.size, 0, none⟩ = some (.int .i64 K) := by rw [Lib.cell_of_heap hV.out]; rfl); (have v1 : y5.cell? ⟨wr.heap.size, 1, none⟩ = some (.int .i64 n) := by rw [Lib.cell_of_heap hV.out]; rfl)))
                        obtain ⟨r0, r1⟩ := two_at (v0 := .int .i64 K) (v1 := .int .i64 n) x0 x1
                        refine bodyPost_ret (by simp [results, Tryd.results25, go_sem, r0, r1]; try rfl) rfl ?_
                        exact ⟨rfl, hS.out.fin _ _⟩
                      · have d2 : decide (n ≤ 1073741823) = false := by simpa using c2
                        have hn1 := Lib.hid (hno.out (by rw [hq1, d2]; simp))
                        clear hno hyes hq1 hV
                        go_wp2_with (first
                          | (go_at_call 43; (with_reducible refine (PK.out _).mono ?_); rintro e y4 ⟨rfl, hy4⟩; subst y4)
                          | (go_at_call 41; (with_reducible refine (PI.out _).mono ?_); rintro e y5 ⟨rfl, hb⟩; (replace hS := Lib.hid (hS.out.up hb)); clear hb))
                        go_roundw
                        case rel => exact ⟨j + 1, K + 1, by omega, Lib.hid (by have := hK.out; omega), by go_num, Lib.hid ⟨hS.out, by rw [hf2]; exact hn1.out⟩⟩
                        case measure => simp [intOf]; omega
                    · have d1 : decide (-1073741824 ≤ n) = false := by simpa using c1
                      have hn1 := Lib.hid (hno.out (by rw [hq1, d1]; rfl))
                      clear hno hyes hq1 hV
                      go_wp2_with (first
                        | (go_at_call 43; (with_reducible refine (PK.out _).mono ?_); rintro e y4 ⟨rfl, hy4⟩; subst y4)
                        | (go_at_call 41; (with_reducible refine (PI.out _).mono ?_); rintro e y5 ⟨rfl, hb⟩; (replace hS := Lib.hid (hS.out.up hb)); clear hb))
                      go_roundw
                      case rel => exact ⟨j + 1, K + 1, by omega, Lib.hid (by have := hK.out; omega), by go_num, Lib.hid ⟨hS.out, by rw [hf2]; exact hn1.out⟩⟩
                      case measure => simp [intOf]; omega
              · have e7 : decide ((K : Int) ≤ 7) = false := by have := hK.out; simp; omega
                obtain rfl : j = 5 := by omega
                obtain ⟨hS, rfl⟩ := hR.out
                have hz5 : lvS l n (5 - 5) (K : Int) = ((0, 0), false) := rfl
                rw [hz5]
                clear hz5
                replace hS := Lib.hid hS
                obtain ⟨x0, x1, f0, f1⟩ := hS.out.c
                clear hR
                go_wp2_with fail
                obtain ⟨r0, r1⟩ := two_at (v0 := .int .i64 0) (v1 := .int .i64 0) x0 x1
                refine bodyPost_ret (by simp [results, Tryd.results25, go_sem, r0, r1]; try rfl) rfl ?_
                first | exact ⟨rfl, hS.out.fin _ _⟩ | exact ⟨rfl, hS.out.bel⟩
        · exact absurd trivial hdone
end Wd
end Go.Proofs.YtkodnioheifalaaDoor
