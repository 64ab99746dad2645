/- Texts joined: what lacked, TNA to TND. -/
import Derived.Test.YtkodnioheifalaaDoorJ12
import Derived.Test.YtkodnioheifalaaDoorJ13
import Derived.Test.YtkodnioheifalaaDoorJ14
import Derived.Maps.AppendAt
import Derived.Deep.AppendLies
namespace Go.Proofs.YtkodnioheifalaaDoor
open Go.RowKit
set_option linter.unusedVariables false
set_option maxRecDepth 20000
namespace Wd
section
open Go.RowKit
theorem info3 : (Tryd.prog.info? 3).map (fun i => (i.zero, i.size, i.bytes)) = some (some (.int .i64 0), 1, 8) := by kernel_rfl
theorem ints_one (L : List Int) : ∀ u ∈ ints L, u.oneCell' = true := by
  intro u hu
  obtain ⟨x, _, rfl⟩ := List.mem_map.1 hu
  rfl
theorem own_base {w : World} {base : Nat} {e : TypeId} {size n : Nat} {v : Value} {xs : List Value} (h : w.ownsRow base e size v n xs) : w.ownsRow 0 e size v n xs := by
  refine ⟨h.1, ?_⟩
  rcases h.2 with h | ⟨g, cap, cur, h1, _, h3⟩
  · exact Or.inl h
  · exact Or.inr ⟨g, cap, cur, h1, Nat.zero_le _, h3⟩
end
section
open Go.RowKit
theorem nam_at : ∀ j, (hj : j < 22) → ([Value.string ⟨#[112, 117, 115, 104, 116, 101, 109, 112]⟩, Value.string ⟨#[112, 117, 115, 104, 102, 105, 101, 108, 100]⟩, Value.string ⟨#[112, 117, 115, 104, 108, 105, 116]⟩, Value.string ⟨#[112, 117, 115, 104, 115, 101, 108, 102]⟩, Value.string ⟨#[112, 117, 115, 104, 110, 105, 108]⟩, Value.string ⟨#[112, 117, 115, 104, 116, 114, 117, 101]⟩, Value.string ⟨#[112, 117, 115, 104, 102, 97, 108, 115, 101]⟩, Value.string ⟨#[112, 117, 115, 104, 110, 117, 109]⟩, Value.string ⟨#[112, 111, 112]⟩, Value.string ⟨#[100, 117, 112]⟩, Value.string ⟨#[115, 116, 111, 114, 101, 116, 101, 109, 112]⟩, Value.string ⟨#[115, 116, 111, 114, 101, 102, 105, 101, 108, 100]⟩, Value.string ⟨#[115, 101, 110, 100]⟩, Value.string ⟨#[115, 117, 112, 101, 114]⟩, Value.string ⟨#[114, 101, 116, 117, 114, 110]⟩, Value.string ⟨#[106, 117, 109, 112]⟩, Value.string ⟨#[98, 97, 99, 107]⟩, Value.string ⟨#[105, 102, 102, 97, 108, 115, 101]⟩, Value.string ⟨#[98, 108, 111, 99, 107]⟩, Value.string ⟨#[104, 111, 109, 101]⟩, Value.string ⟨#[110, 101, 119]⟩, Value.string ⟨#[112, 114, 105, 109]⟩] : List Value)[j]'hj = .string (namL.getD j ⟨#[]⟩) := by
  intro j hj
  rcases (show j = 0 ∨ j = 1 ∨ j = 2 ∨ j = 3 ∨ j = 4 ∨ j = 5 ∨ j = 6 ∨ j = 7 ∨ j = 8 ∨ j = 9 ∨ j = 10 ∨ j = 11 ∨ j = 12 ∨ j = 13 ∨ j = 14 ∨ j = 15 ∨ j = 16 ∨ j = 17 ∨ j = 18 ∨ j = 19 ∨ j = 20 ∨ j = 21 by omega) with rfl | rfl | rfl | rfl | rfl | rfl | rfl | rfl | rfl | rfl | rfl | rfl | rfl | rfl | rfl | rfl | rfl | rfl | rfl | rfl | rfl | rfl <;> rfl
end
section
open Go.RowKit
set_option maxHeartbeats 4000000 in
theorem rname_c (p : Int) (hp : In64 p) (w : World) :
    Calls Tryd.prog 54 #[.int .i64 p] w fun e w' => e = .returned (.string (namR p)) ∧ Below w.heap.size w w' := by
  have hB := Lib.hid (Below.refl w.heap.size w)
  by_cases h0 : p < 0
  · have d1 : decide (p < 0) = true := by simpa using h0
    have e : Hid (namR p = ⟨#[]⟩) := Lib.hid (if_pos (Or.inl h0))
    go_enter Tryd.func54, Tryd.ntmps54
    go_wp2
    go_ret
    exact ⟨by rw [e.out]; rfl, hB.out⟩
  · have d1 : decide (p < 0) = false := by simpa using h0
    by_cases h1 : p > 21
    · have d2 : decide (p > 21) = true := by simpa using h1
      have e : Hid (namR p = ⟨#[]⟩) := Lib.hid (if_pos (Or.inr h1))
      go_enter Tryd.func54, Tryd.ntmps54
      go_wp2
      go_ret
      exact ⟨by rw [e.out]; rfl, hB.out⟩
    · have d2 : decide (p > 21) = false := by simpa using h1
      have e : Hid (namR p = namL.getD p.toNat ⟨#[]⟩) := Lib.hid (if_neg (by omega))
      obtain ⟨j, rfl⟩ : ∃ j : Nat, p = j := ⟨p.toNat, by omega⟩
      have hj : j < 22 := by omega
      have p0 : (0 : Int) ≤ (j : Int) := by omega
      have p1 : (j : Int) < 22 := by omega
      have ha := nam_at j hj
      rw [Int.toNat_natCast] at e
      generalize namL.getD j ⟨#[]⟩ = y at *
      go_enter Tryd.func54, Tryd.ntmps54
      go_wp2
      go_ret
      exact ⟨by rw [e.out]; rfl, Below.alloc (Below.refl _ _) (Nat.le_refl _) _⟩
end
section

theorem numB_inj {n m : Int} (hn : n.natAbs < 10 ^ 20) (hm : m.natAbs < 10 ^ 20) (e : numB n = numB m) : n = m := by
  rw [← cand_numB hn, e, cand_numB hm]
end
section

theorem eatT_pre : ∀ (A B : List Bs) (S : TS), (eatT S (A ++ B)).2 = (A ++ B).length → (eatT S A).2 = A.length
  | [], B, S, _ => by simp [eatT]
  | l :: r, B, S, h => by
    rw [List.cons_append] at h
    cases hs : stepT S l with
    | none => rw [eatT_none _ hs] at h; cases h
    | some S' =>
      rw [eatT_some _ hs] at h
      have h' : (eatT S' (r ++ B)).2 = (r ++ B).length := Nat.succ.inj h
      rw [eatT_some _ hs, List.length_cons, ← eatT_pre r B S' h']
/-- a line that no text has -/
def noL (l : Bs) : Bool := (hdR l).isNone && (liR l).isNone && (ixR l).isNone && (byR l).isNone
theorem stepT_no {S : TS} {l : Bs} (h : noL l = true) : stepT S l = none := by
  simp only [noL, Bool.and_eq_true, Option.isNone_iff_eq_none] at h
  obtain ⟨⟨⟨h1, h2⟩, h3⟩, h4⟩ := h
  unfold stepT
  rw [h1, h2, h3, h4]
  split
  · rfl
  · split
    · rfl
    · split <;> simp_all
/-- a line that is none, somewhere -/
theorem parT_broken {a t : Int} {L : List (Int × Int)} {C : List Int} (hg : goM a t L = true) (hc : ∀ c ∈ C, 0 ≤ c ∧ c ≤ 255) {A B : List Bs} (e : lineR a t L C = A ++ B) {l : Bs} (hl : noL l = true) (hn : 10 ∉ l) : parT (joinL (A ++ l :: B)) = (tz, A.length + 1) := by
  obtain ⟨k, hk, h⟩ := eatT_all (C := C) hg hc
  have hno := lineR_no (a := a) (t := t) (L := L) (C := C)
  rw [e] at h hno
  have hs : splitL (joinL (A ++ l :: B)) = (A ++ l :: B, []) := by
    have := splitL_join (A ++ l :: B) [] (fun x hx => by
      rcases List.mem_append.1 hx with hx | hx
      · exact hno x (by simp [hx])
      · rcases List.mem_cons.1 hx with rfl | hx
        · exact hn
        · exact hno x (by simp [hx]))
    simpa [splitL] using this
  have h1 : (eatT tz A).2 = A.length := eatT_pre A B tz (by rw [h])
  have h2 : eatT tz (A ++ l :: B) = ((eatT tz A).1, A.length) := by
    rw [eatT_app A _ tz h1]
    have : eatT (eatT tz A).1 (l :: B) = ((eatT tz A).1, 0) := by
      rw [eatT, stepT_no hl]
    rw [this]; rfl
  unfold parT
  rw [hs]
  simp only
  rw [h2, if_neg (by simp only [List.length_append, List.length_cons]; omega)]
end
section

theorem bads : ∀ l ∈ ([[], [110, 111, 110, 115, 101, 110, 115, 101], [32, 32, 112, 111, 112], [32, 32, 112, 111, 112, 32, 50, 53, 54], [32, 32, 112, 111, 112, 32, 48, 53], [32, 112, 111, 112, 32, 48], [32, 32, 112, 117, 115, 104, 110, 117, 109, 32, 49, 50, 56], [32, 32, 111, 112, 51, 32, 49], [32, 32, 111, 112, 50, 53, 54, 32, 49], [108, 105, 116], [108, 105, 116, 32, 110, 117, 109], [108, 105, 116, 32, 110, 105, 108, 32, 48], [109, 101, 116, 104, 111, 100, 32, 49]] : List Bs), noL l = true ∧ 10 ∉ l := by decide +kernel
end
end Wd
end Go.Proofs.YtkodnioheifalaaDoor
/- The law's own number, kind, literal. -/
namespace Go.Proofs.YtkodnioheifalaaDoor
open Go.RowKit
set_option linter.unusedVariables false
set_option maxRecDepth 20000
namespace Wd
theorem enc_neg : ∀ r : Int, r < 0 → r.natAbs < 10 → Utf8.encode (48 + -r) = bs [UInt8.ofNat (48 + r.natAbs)] := by
  intro r h0 h
  have : r = -1 ∨ r = -2 ∨ r = -3 ∨ r = -4 ∨ r = -5 ∨ r = -6 ∨ r = -7 ∨ r = -8 ∨ r = -9 := by omega
  rcases this with rfl | rfl | rfl | rfl | rfl | rfl | rfl | rfl | rfl <;> decide +kernel
theorem enc_pos : ∀ r : Int, ¬ r < 0 → r.natAbs < 10 → Utf8.encode (48 + r) = bs [UInt8.ofNat (48 + r.natAbs)] := by
  intro r h0 h
  have : r = 0 ∨ r = 1 ∨ r = 2 ∨ r = 3 ∨ r = 4 ∨ r = 5 ∨ r = 6 ∨ r = 7 ∨ r = 8 ∨ r = 9 := by omega
  rcases this with rfl | rfl | rfl | rfl | rfl | rfl | rfl | rfl | rfl | rfl <;> decide +kernel
/-- what the loop has: the digits behind -/
structure Dg (n k : Int) (l : Bs) : Prop where
  mk ::
  ex : ∃ f, k.natAbs < 10 ^ f ∧ dgF 20 n.natAbs = dgF f k.natAbs ++ l
theorem Dg.step {n k : Int} {l : Bs} (h : Dg n k l) (hk : k ≠ 0) : Dg n (Int.tdiv k 10) (UInt8.ofNat (48 + k.natAbs % 10) :: l) := by
  obtain ⟨f, h1, h2⟩ := h.ex
  cases f with
  | zero =>
    have : k.natAbs = 0 := by simpa using h1
    omega
  | succ f =>
    refine ⟨f, ?_, ?_⟩
    · rw [Int.natAbs_tdiv]
      rw [Nat.pow_succ] at h1
      show k.natAbs / 10 < _
      omega
    · rw [h2, Int.natAbs_tdiv]
      show _ = dgF f (k.natAbs / 10) ++ _
      conv => lhs; unfold dgF
      rw [if_neg (by omega), List.append_assoc]
      rfl
theorem Dg.len {n k : Int} {l : Bs} (h : Dg n k l) : l.length ≤ 20 := by
  obtain ⟨f, _, h2⟩ := h.ex
  have := dg_len 20 n.natAbs
  rw [h2, List.length_append] at this
  omega
theorem Dg.done {n : Int} {l : Bs} (h : Dg n 0 l) : dgF 20 n.natAbs = l := by
  obtain ⟨f, _, h2⟩ := h.ex
  rw [h2]
  cases f <;> simp [dgF]
set_option maxHeartbeats 4000000 in
theorem lnumber_c (n : Int) (hn : In64 n) (w : World) : Calls Tryd.prog 40 #[.int .i64 n] w fun e w' => e = .returned (.string (bs (numB n))) ∧ w' = w := by
  by_cases h0 : n = 0
  · subst h0
    go_enter Tryd.func40, Tryd.ntmps40
    go_wp2_with fail
    go_ret
    exact ⟨rfl, rfl⟩
  have hz : (n == 0) = false := by simpa using h0
  obtain ⟨hn1, hn2⟩ := hn
  have S0 : Hid (Dg n n []) := Lib.hid ⟨20, by omega, by simp⟩
  go_enter Tryd.func40, Tryd.ntmps40
  go_upto_region 5 with fail
  go_loopw [3, 4] (fun v i wr => ∃ (k : Int) (l : Bs), k.natAbs ≤ n.natAbs ∧ -9223372036854775808 ≤ k ∧ k ≤ 9223372036854775807 ∧ v = .string (bs l) ∧ i = .int .i64 k ∧ Hid (Dg n k l) ∧ wr = w) (fun _ i _ => (intOf i).natAbs)
  case atStart => exact ⟨n, [], by omega, by omega, by omega, rfl, rfl, S0, rfl⟩
  case round =>
    clear S0
    obtain ⟨k, l, hkn, hk1, hk2, rfl, rfl, hD, rfl⟩ := hrel
    have s2 : (bs l).size ≤ 20 := by rw [bs_size]; exact hD.out.len
    have s3 : ¬ (9223372036854775807 : Nat) < 1 + (bs l).size := by omega
    by_cases hk0 : k = 0
    · subst hk0
      have hD' := Lib.hid hD.out.done
      by_cases hneg : n < 0
      · have hd : decide (n < 0) = true := by simpa using hneg
        have hr : Hid (bs [45] ++ bs l = bs (numB n)) := Lib.hid (by
          rw [bs_app]
          unfold numB
          rw [if_neg h0, if_pos hneg, hD'.out]
          rfl)
        have e1 : (⟨#[45]⟩ : ByteArray) = bs [45] := rfl
        go_wp2_with fail
        go_ret
        exact ⟨by rw [← hr.out]; rfl, rfl⟩
      · have hd : decide (n < 0) = false := by simpa using hneg
        have hr : Hid (bs l = bs (numB n)) := Lib.hid (by
          unfold numB
          rw [if_neg h0, if_neg hneg, hD'.out])
        go_wp2_with fail
        go_ret
        exact ⟨by rw [← hr.out]; rfl, rfl⟩
    · have hkz : (k == 0) = false := by simpa using hk0
      have hN := Lib.hid (hD.out.step hk0)
      have hr9 : (Int.tmod k 10).natAbs < 10 := by rw [Int.natAbs_tmod]; exact Nat.mod_lt _ (by decide)
      have hqq : (Int.tdiv k 10).natAbs = k.natAbs / 10 := by rw [Int.natAbs_tdiv]; rfl
      have hrr : (Int.tmod k 10).natAbs = k.natAbs % 10 := by rw [Int.natAbs_tmod]; rfl
      rw [← hrr] at hN
      have q1 : -9223372036854775808 ≤ Int.tdiv k 10 := by omega
      have q2 : Int.tdiv k 10 ≤ 9223372036854775807 := by omega
      have q3 : IntKind.i64.wrap (Int.tdiv k 10) = Int.tdiv k 10 := IntWalk.i64_in _ (by omega)
      have hlt : (Int.tdiv k 10).natAbs < k.natAbs := by omega
      have hEn := enc_neg (Int.tmod k 10)
      have hEp := enc_pos (Int.tmod k 10)
      generalize UInt8.ofNat (48 + (Int.tmod k 10).natAbs) = c9 at *
      have ec : bs [c9] ++ bs l = bs (c9 :: l) := by rw [bs_app]; rfl
      have s1 : (bs [c9]).size = 1 := bs_size _
      by_cases hneg : Int.tmod k 10 < 0
      · have hd : decide (Int.tmod k 10 < 0) = true := by simpa using hneg
        have hE := hEn hneg hr9
        clear hEn hEp hrr hqq
        go_wp2_with fail
        go_roundw
        case rel =>
          exact ⟨Int.tdiv k 10, _, by omega, by omega, by omega, by rw [← ec], rfl, hN, by trivial⟩
        case measure => first | exact hlt | (simp only [intOf]; exact hlt) | (simp only [intOf, q3]; exact hlt)
      · have hd : decide (Int.tmod k 10 < 0) = false := by simpa using hneg
        have hE := hEp hneg hr9
        clear hEn hEp hrr hqq
        go_wp2_with fail
        go_roundw
        case rel =>
          exact ⟨Int.tdiv k 10, _, by omega, by omega, by omega, by rw [← ec], rfl, hN, by trivial⟩
        case measure => first | exact hlt | (simp only [intOf]; exact hlt) | (simp only [intOf, q3]; exact hlt)
/-- the law's own kind -/
theorem lkind_c (k : Int) (w : World) : Calls Tryd.prog 43 #[.int .i64 k] w fun e w' => e = .returned (.string (bs (knd k))) ∧ w' = w := by
  unfold knd
  by_cases h3 : k = 3
  · subst h3
    go_enter Tryd.func43, Tryd.ntmps43
    go_wp2_with fail
    go_ret
    exact ⟨rfl, rfl⟩
  by_cases h5 : k = 5
  · subst h5
    go_enter Tryd.func43, Tryd.ntmps43
    go_wp2_with fail
    go_ret
    exact ⟨rfl, rfl⟩
  by_cases h6 : k = 6
  · subst h6
    go_enter Tryd.func43, Tryd.ntmps43
    go_wp2_with fail
    go_ret
    exact ⟨rfl, rfl⟩
  by_cases h7 : k = 7
  · subst h7
    go_enter Tryd.func43, Tryd.ntmps43
    go_wp2_with fail
    go_ret
    exact ⟨rfl, rfl⟩
  rw [if_neg h3, if_neg h5, if_neg h6, if_neg h7]
  have d3 : (k == 3) = false := by simpa using h3
  have d5 : (k == 5) = false := by simpa using h5
  have d6 : (k == 6) = false := by simpa using h6
  have d7 : (k == 7) = false := by simpa using h7
  go_enter Tryd.func43, Tryd.ntmps43
  go_wp2_with fail
  go_ret
  exact ⟨rfl, rfl⟩
end Wd
end Go.Proofs.YtkodnioheifalaaDoor

/- The law's own literal and instruction. -/
namespace Go.Proofs.YtkodnioheifalaaDoor
open Go.RowKit
set_option linter.unusedVariables false
set_option maxRecDepth 20000
namespace Wd
set_option maxHeartbeats 8000000 in
theorem llit_c {w : World} {k n : Int} (hn : In64 n) : Calls Tryd.prog 41 #[.agg #[.int .i64 k, .int .i64 n]] w fun e w' => e = .returned (.string (bs (litB (k, n)))) ∧ Below w.heap.size w w' := by
  have hB : Below w.heap.size w (w.alloc (.cells #[.int .i64 k, .int .i64 n] 49)) := (Below.refl _ _).alloc (Nat.le_refl _) _
  have hX := Lib.hid (heap_alloc_new w (.cells #[.int .i64 k, .int .i64 n] 49))
  replace hB := Lib.hid hB
  have hI := Lib.hid (lnumber_c n hn)
  have hKd := Lib.hid (lkind_c k)
  by_cases h : knd k = []
  · have e : litB (k, n) = [] := if_pos h
    rw [e]
    rw [h] at hKd
    have g1 := bs_em
    clear h e hI hX
    go_enter Tryd.func41, Tryd.ntmps41
    go_wp2_with (go_at_call 43; refine (hKd.out _).mono ?_; rintro e w' ⟨rfl, rfl⟩)
    go_ret
    exact ⟨rfl, hB.out⟩
  · have e : litB (k, n) = knd k ++ 32 :: numB n := if_neg h
    rw [e]
    have g1 := bs_nem h
    have l1 : (knd k).length ≤ 3 := by
      rcases knd_some h with rfl | rfl | rfl | rfl <;> decide
    have l2 := numB_len n
    have r1 : ¬ (9223372036854775807 : Nat) < (bs (knd k)).size + 1 := by rw [bs_size]; omega
    have r2 : ¬ (9223372036854775807 : Nat) < (bs (knd k)).size + 1 + (bs (numB n)).size := by rw [bs_size, bs_size]; omega
    have e3 := Lib.hid (show bs (knd k) ++ bs [32] = bs (knd k ++ [32]) from bs_app _ _)
    have e4 := Lib.hid (show bs (knd k ++ [32]) ++ bs (numB n) = bs (knd k ++ 32 :: numB n) by rw [bs_app, List.append_assoc]; rfl)
    clear h e l1 l2
    generalize knd k = K at *
    go_enter Tryd.func41, Tryd.ntmps41
    go_upto_region 3 with (go_at_call 43; refine (hKd.out _).mono ?_; rintro e w' ⟨rfl, rfl⟩)
    generalize w.alloc (.cells #[.int .i64 k, .int .i64 n] 49) = W at *
    generalize hq : w.heap.size = q at *
    have hbb := (Below.refl W.heap.size W).drew
    replace hX := Lib.hid (blk_up hX.out hbb)
    replace hB := Lib.hid hB.out.drew
    clear hbb
    refine wp_region_held_drew (S := (fun wr' => wr'.cell? ⟨q, 0, none⟩ = some (.int .i64 k) ∧ wr'.cell? ⟨q, 1, none⟩ = some (.int .i64 n))) (by kernel_rfl) ?_ (fun hHeld => ?_)
    · (try dsimp only); exact ⟨(by rw [Lib.cell_of_heap hX.out]; rfl), (by rw [Lib.cell_of_heap hX.out]; rfl)⟩
    try simp only [Act.put, nA]
    refine tk (i := 0) (oi := ⟨some 7, .fieldAddr 49 (.tmp 1) 0, 0, "law.go:67", #[], none⟩) (hy := by intro w hSw; (try dsimp only at hSw); obtain ⟨q0, q1⟩ := hSw; go_simp <;> with_reducible rfl) ?_
    try simp only [Act.put, nA]
    refine tk (i := 1) (oi := ⟨some 8, .load 3 (.tmp 7), 3, "law.go:67", #[⟨0, .data⟩], none⟩) (hy := by intro w hSw; (try dsimp only at hSw); obtain ⟨q0, q1⟩ := hSw; go_simp <;> with_reducible rfl) ?_
    try simp only [Act.put, nA]
    refine tk (i := 4) (oi := ⟨some 11, .fieldAddr 49 (.tmp 1) 1, 0, "law.go:67", #[], none⟩) (hy := by intro w hSw; (try dsimp only at hSw); obtain ⟨q0, q1⟩ := hSw; go_simp <;> with_reducible rfl) ?_
    try simp only [Act.put, nA]
    refine tk (i := 5) (oi := ⟨some 12, .load 3 (.tmp 11), 3, "law.go:67", #[⟨4, .data⟩], none⟩) (hy := by intro w hSw; (try dsimp only at hSw); obtain ⟨q0, q1⟩ := hSw; go_simp <;> with_reducible rfl) ?_
    try simp only [Act.put, nA]
    refine wpAnyH_ready (rs := [2]) (by kernel_rfl) (by simp) ?_
    refine AllReadyH.cons (o := ⟨some 9, .call { callee := .value (.func 43), args := #[.tmp 8], argTypes := #[3] }, 9, "law.go:67", #[⟨1, .data⟩], none⟩) rfl (fun K9 hK => ?_) AllReadyH.nil
    go_simp
    refine (hKd.out _).mono ?_
    rintro e y8 ⟨rfl, hy8⟩
    subst y8
    go_wp2_with fail
    refine hK.out _ _ ?_ ?_
    · (try dsimp only); exact ⟨(by rw [Lib.cell_of_heap hX.out]; rfl), (by rw [Lib.cell_of_heap hX.out]; rfl)⟩
    clear hK K9 hHeld; intro hHeld
    try simp only [Act.put, nA]
    refine tk (i := 3) (oi := ⟨some 10, .binOp .add 9 (.tmp 9) (.const (Value.string { data := #[32] })) 9, 9, "law.go:67", #[⟨2, .data⟩], none⟩) (hy := by intro w hSw; (try dsimp only at hSw); obtain ⟨q0, q1⟩ := hSw; go_simp <;> with_reducible rfl) ?_
    try simp only [Act.put, nA]
    refine wpAnyH_ready (rs := [6]) (by kernel_rfl) (by simp) ?_
    refine AllReadyH.cons (o := ⟨some 13, .call { callee := .value (.func 40), args := #[.tmp 12], argTypes := #[3] }, 9, "law.go:67", #[⟨5, .data⟩, ⟨2, .chain⟩], none⟩) rfl (fun K9 hK => ?_) AllReadyH.nil
    go_simp
    refine (hI.out _).mono ?_
    rintro e y9 ⟨rfl, hy9⟩
    subst y9
    go_wp2_with fail
    refine hK.out _ _ ?_ ?_
    · (try dsimp only); exact ⟨(by rw [Lib.cell_of_heap hX.out]; rfl), (by rw [Lib.cell_of_heap hX.out]; rfl)⟩
    clear hK K9 hHeld; intro hHeld
    try simp only [Act.put, nA]
    refine tk (i := 7) (oi := ⟨some 14, .binOp .add 9 (.tmp 10) (.tmp 13) 9, 9, "law.go:67", #[⟨3, .data⟩, ⟨6, .data⟩], none⟩) (hy := by intro w hSw; (try dsimp only at hSw); obtain ⟨q0, q1⟩ := hSw; go_simp <;> with_reducible rfl) ?_
    try simp only [Act.put, nA]
    refine tk (i := 8) (oi := ⟨some 2, .assign (.tmp 14), 9, "law.go:67", #[⟨7, .data⟩, ⟨6, .chain⟩, ⟨0, .phase⟩, ⟨1, .phase⟩, ⟨2, .phase⟩, ⟨3, .phase⟩, ⟨4, .phase⟩, ⟨5, .phase⟩, ⟨6, .phase⟩, ⟨7, .phase⟩], none⟩) (hy := by intro w hSw; (try dsimp only at hSw); obtain ⟨q0, q1⟩ := hSw; go_simp <;> with_reducible rfl) ?_
    try simp only [Act.put, nA]
    refine wpAnyH_done (by kernel_rfl) ?_ _
    go_wp2_with fail
    go_ret
    exact ⟨by rw [← e4.out, ← e3.out]; rfl, (by rw [hq]; exact hB.out)⟩
set_option maxHeartbeats 8000000 in
theorem linst_c {w : World} {o a : Int} (ho : 0 ≤ o ∧ o ≤ 255) (ha : 0 ≤ a ∧ a ≤ 255) : Calls Tryd.prog 42 #[.int .u8 o, .int .u8 a] w fun e w' => e = .returned (.string (bs (ixL o a ++ [10]))) ∧ Below w.heap.size w w' := by
  obtain ⟨o0, o1⟩ := ho
  obtain ⟨a0, a1⟩ := ha
  have hN := Lib.hid (rname_c o ⟨by omega, by omega⟩ w)
  obtain ⟨s, hs⟩ : ∃ s, s = sgn o a := ⟨_, rfl⟩
  have hsg : (o == 7) = true ∧ IntKind.i8.wrap a = s ∨ (o == 7) = false ∧ s = a := by
    by_cases h : o = 7
    · left
      refine ⟨by simpa using h, ?_⟩
      rw [hs]
      unfold sgn IntKind.wrap
      simp [IntKind.signed, IntKind.bits, h]
      split <;> omega
    · right
      refine ⟨by simpa using h, ?_⟩
      rw [hs]
      unfold sgn
      rw [if_neg (by omega)]
  have hs64 : -128 ≤ s ∧ s ≤ 255 := by
    rw [hs]; unfold sgn; split <;> omega
  have hI := Lib.hid (fun w => lnumber_c s ⟨by omega, by omega⟩ w)
  have l2 := numB_len s
  have lN : (bs (numB s)).size ≤ 21 := by rw [bs_size]; exact l2
  by_cases h : 0 ≤ o ∧ o ≤ 21
  · obtain ⟨e1, e2⟩ := nam_op h
    rw [e1] at hN
    have g1 := bs_nem e2
    have lK : (bs (opB o)).size ≤ 40 := by rw [bs_size]; exact opB_len o
    have e9 : Hid (⟨#[32, 32]⟩ ++ bs (opB o) ++ ⟨#[32]⟩ ++ bs (numB s) ++ ⟨#[10]⟩ = bs (ixL o a ++ [10])) := Lib.hid (by
      show bs [32, 32] ++ bs (opB o) ++ bs [32] ++ bs (numB s) ++ bs [10] = _
      rw [bs_app, bs_app, bs_app, bs_app, hs]
      simp [ixL])
    clear hs h e1 e2 l2
    generalize bs (ixL o a ++ [10]) = TR at *
    generalize bs (opB o) = TK at *
    generalize bs (numB s) = TN at *
    have r1 : ¬ (9223372036854775807 : Nat) < 2 + TK.size := by omega
    have r2 : ¬ (9223372036854775807 : Nat) < 2 + TK.size + 1 := by omega
    have r3 : ¬ (9223372036854775807 : Nat) < 2 + TK.size + 1 + TN.size := by omega
    have r4 : ¬ (9223372036854775807 : Nat) < 2 + TK.size + 1 + TN.size + 1 := by omega
    clear lN lK
    rcases hsg with ⟨d1, d2⟩ | ⟨d1, rfl⟩
    · go_enter Tryd.func42, Tryd.ntmps42
      go_wp2_with (first
        | (go_at_call 54; refine (hN.out).mono ?_; rintro e y1 ⟨rfl, hb⟩)
        | (go_at_call 40; refine (hI.out _).mono ?_; rintro e y2 ⟨rfl, hy2⟩; subst y2))
      go_ret
      exact ⟨by rw [← e9.out]; rfl, hb⟩
    · go_enter Tryd.func42, Tryd.ntmps42
      go_wp2_with (first
        | (go_at_call 54; refine (hN.out).mono ?_; rintro e y1 ⟨rfl, hb⟩)
        | (go_at_call 40; refine (hI.out _).mono ?_; rintro e y2 ⟨rfl, hy2⟩; subst y2))
      go_ret
      exact ⟨by rw [← e9.out]; rfl, hb⟩
  · obtain ⟨e1, e2⟩ := nam_no h
    rw [e1] at hN
    have g1 := bs_em
    have l3 := numB_len o
    have lK : (bs (numB o)).size ≤ 21 := by rw [bs_size]; exact l3
    have d1 : (o == 7) = false := by simp; omega
    obtain rfl : s = a := by
      rcases hsg with ⟨d, _⟩ | ⟨_, d⟩
      · rw [d1] at d; cases d
      · exact d
    have hJ := Lib.hid (fun w => lnumber_c o ⟨by omega, by omega⟩ w)
    have e9 : Hid (⟨#[32, 32]⟩ ++ (⟨#[111, 112]⟩ ++ bs (numB o)) ++ ⟨#[32]⟩ ++ bs (numB s) ++ ⟨#[10]⟩ = bs (ixL o s ++ [10])) := Lib.hid (by
      show bs [32, 32] ++ (bs [111, 112] ++ bs (numB o)) ++ bs [32] ++ bs (numB s) ++ bs [10] = _
      rw [bs_app, bs_app, bs_app, bs_app, bs_app]
      unfold ixL
      rw [e2, ← hs]
      simp)
    clear hs h e1 e2 l2 l3 hsg
    generalize bs (ixL o s ++ [10]) = TR at *
    generalize bs (numB o) = TK at *
    generalize bs (numB s) = TN at *
    have r0 : ¬ (9223372036854775807 : Nat) < 2 + TK.size := by omega
    have r1 : ¬ (9223372036854775807 : Nat) < 2 + (2 + TK.size) := by omega
    have r2 : ¬ (9223372036854775807 : Nat) < 2 + (2 + TK.size) + 1 := by omega
    have r3 : ¬ (9223372036854775807 : Nat) < 2 + (2 + TK.size) + 1 + TN.size := by omega
    have r4 : ¬ (9223372036854775807 : Nat) < 2 + (2 + TK.size) + 1 + TN.size + 1 := by omega
    clear lN lK
    go_enter Tryd.func42, Tryd.ntmps42
    go_upto_region 3 with (go_at_call 54; refine (hN.out).mono ?_; rintro e y1 ⟨rfl, hb⟩)
    go_upto_region 4 with (go_at_call 40; refine (hJ.out _).mono ?_; rintro e y2 ⟨rfl, hy2⟩; subst y2)
    go_wp2_with (go_at_call 40; refine (hI.out _).mono ?_; rintro e y2 ⟨rfl, hy2⟩; subst y2)
    go_ret
    exact ⟨by rw [← e9.out]; rfl, hb⟩
end Wd
end Go.Proofs.YtkodnioheifalaaDoor

/- The law's own print. -/
namespace Go.Proofs.YtkodnioheifalaaDoor
open Go.RowKit
set_option linter.unusedVariables false
set_option maxRecDepth 20000
namespace Wd
/-- while the law's print runs: the method's box -/
structure PwL (w wr : World) (q : Nat) (m : MethA) (la ca : Option Addr) (lc cc : Nat) : Prop where
  mk ::
  box : wr.heap[q]? = some (.cells #[.int .i64 m.args, .int .i64 m.temps, .slice la m.lits.length lc, .slice ca m.code.length cc] 37 (0, 0))
  bel : Below w.heap.size w wr
theorem PwL.low {w wr w2 : World} {q : Nat} {m : MethA} {la ca : Option Addr} {lc cc : Nat} (h : PwL w wr q m la ca lc cc) (b : Below wr.heap.size wr w2) : PwL w w2 q m la ca lc cc := ⟨blk_up h.box b, h.bel.trans (b.mono h.bel.size)⟩
theorem PwL.c {w wr : World} {q : Nat} {m : MethA} {la ca : Option Addr} {lc cc : Nat} (h : PwL w wr q m la ca lc cc) : wr.cell? ⟨q, 0, none⟩ = some (.int .i64 m.args) ∧ wr.cell? ⟨q, 1, none⟩ = some (.int .i64 m.temps) ∧ wr.cell? ⟨q, 2, none⟩ = some (.slice la m.lits.length lc) ∧ wr.cell? ⟨q, 3, none⟩ = some (.slice ca m.code.length cc) := by
  refine ⟨?_, ?_, ?_, ?_⟩ <;> rw [Lib.cell_of_heap h.box] <;> rfl
theorem lnK_size (m : MethA) (i j : Nat) (hL : m.lits.length ≤ 1000000) (hC : m.code.length ≤ 1000000) : (bs (joinL (lnK m i j))).size + 200 ≤ 140737488355328 := by
  rw [bs_size]; exact lnK_len m i j hL hC
set_option maxHeartbeats 16000000 in
theorem lprint_c {w : World} {v : Value} {m : MethA} (hm : MeV w v m) (hL : m.lits.length ≤ 1000000) (hC : m.code.length ≤ 1000000) :
    Calls Tryd.prog 23 #[v] w fun e w' => e = .returned (.string (bs (printR m.args m.temps m.lits m.code))) ∧ Below w.heap.size w w' := by
  obtain ⟨la, lc, ca, cc, rfl, hl, hc⟩ := hm.ex
  have hPa := Lib.hid (fun w => lnumber_c m.args hm.a64 w)
  have hPt := Lib.hid (fun w => lnumber_c m.temps hm.t64 w)
  replace hl := Lib.hid hl
  replace hc := Lib.hid hc
  have hsz := Lib.hid (fun i j => lnK_size m i j hL hC)
  have hC9 := Lib.hid hC
  have hL9 := Lib.hid hL
  have S0 : Hid (PwL w (w.alloc (.cells #[.int .i64 m.args, .int .i64 m.temps, .slice la m.lits.length lc, .slice ca m.code.length cc] 37)) w.heap.size m la ca lc cc) := Lib.hid ⟨heap_alloc_new w _, (Below.refl w.heap.size w).alloc (Nat.le_refl _) _⟩
  clear hm hL hC
  go_enter Tryd.func23, Tryd.ntmps23
  go_upto_region 1 with fail
  generalize w.alloc (.cells #[.int .i64 m.args, .int .i64 m.temps, .slice la m.lits.length lc, .slice ca m.code.length cc] 37) = W at *
  obtain ⟨q, hq⟩ : ∃ q, w.heap.size = q := ⟨_, rfl⟩
  simp only [hq] at S0 ⊢
  clear hq
  have hS := Lib.hid (S0.out.low ((Below.refl _ _).drew))
  clear S0
  have lA : (bs (numB m.args)).size ≤ 21 := by rw [bs_size]; exact numB_len _
  have lT : (bs (numB m.temps)).size ≤ 21 := by rw [bs_size]; exact numB_len _
  have e9 : Hid (⟨#[109, 101, 116, 104, 111, 100, 32]⟩ ++ bs (numB m.args) ++ ⟨#[32]⟩ ++ bs (numB m.temps) ++ ⟨#[10]⟩ = bs (joinL (lnK m 0 0))) := Lib.hid (by
    show bs [109, 101, 116, 104, 111, 100, 32] ++ bs (numB m.args) ++ bs [32] ++ bs (numB m.temps) ++ bs [10] = _
    rw [bs_app, bs_app, bs_app, bs_app]
    simp [lnK, insL, joinL, hdL, tMethod])
  generalize bs (numB m.args) = TA at *
  generalize bs (numB m.temps) = TT at *
  have r1 : ¬ (9223372036854775807 : Nat) < 7 + TA.size := by omega
  have r2 : ¬ (9223372036854775807 : Nat) < 7 + TA.size + 1 := by omega
  have r3 : ¬ (9223372036854775807 : Nat) < 7 + TA.size + 1 + TT.size := by omega
  have r4 : ¬ (9223372036854775807 : Nat) < 7 + TA.size + 1 + TT.size + 1 := by omega
  clear lA lT
  refine wp_region_held_drew (S := (fun wr' => wr'.cell? ⟨q, 0, none⟩ = some (.int .i64 m.args) ∧ wr'.cell? ⟨q, 1, none⟩ = some (.int .i64 m.temps))) (by kernel_rfl) ?_ (fun hHeld => ?_)
  · (try dsimp only); exact ⟨hS.out.c.1, hS.out.c.2.1⟩
  try simp only [Act.put, nA]
  refine tk (i := 0) (oi := ⟨some 7, .fieldAddr 37 (.tmp 1) 0, 0, "law.go:84", #[], none⟩) (hy := by intro w hSw; (try dsimp only at hSw); obtain ⟨q0, q1⟩ := hSw; go_simp <;> with_reducible rfl) ?_
  try simp only [Act.put, nA]
  refine tk (i := 1) (oi := ⟨some 8, .load 3 (.tmp 7), 3, "law.go:84", #[⟨0, .data⟩], none⟩) (hy := by intro w hSw; (try dsimp only at hSw); obtain ⟨q0, q1⟩ := hSw; go_simp <;> with_reducible rfl) ?_
  try simp only [Act.put, nA]
  refine tk (i := 5) (oi := ⟨some 12, .fieldAddr 37 (.tmp 1) 1, 0, "law.go:84", #[], none⟩) (hy := by intro w hSw; (try dsimp only at hSw); obtain ⟨q0, q1⟩ := hSw; go_simp <;> with_reducible rfl) ?_
  try simp only [Act.put, nA]
  refine tk (i := 6) (oi := ⟨some 13, .load 3 (.tmp 12), 3, "law.go:84", #[⟨5, .data⟩], none⟩) (hy := by intro w hSw; (try dsimp only at hSw); obtain ⟨q0, q1⟩ := hSw; go_simp <;> with_reducible rfl) ?_
  try simp only [Act.put, nA]
  refine wpAnyH_ready (rs := [2]) (by kernel_rfl) (by simp) ?_
  refine AllReadyH.cons (o := ⟨some 9, .call { callee := .value (.func 40), args := #[.tmp 8], argTypes := #[3] }, 9, "law.go:84", #[⟨1, .data⟩], none⟩) rfl (fun K9 hK => ?_) AllReadyH.nil
  go_simp
  refine (hPa.out _).mono ?_
  rintro e y8 ⟨rfl, hy8⟩
  subst y8
  go_wp2_with fail
  refine hK.out _ _ ?_ ?_
  · (try dsimp only); exact ⟨hS.out.c.1, hS.out.c.2.1⟩
  clear hK K9 hHeld; intro hHeld
  try simp only [Act.put, nA]
  refine tk (i := 3) (oi := ⟨some 10, .binOp .add 9 (.const (Value.string { data := #[109, 101, 116, 104, 111, 100, 32] })) (.tmp 9) 9, 9, "law.go:84", #[⟨2, .data⟩], none⟩) (hy := by intro w hSw; (try dsimp only at hSw); obtain ⟨q0, q1⟩ := hSw; go_simp <;> with_reducible rfl) ?_
  try simp only [Act.put, nA]
  refine tk (i := 4) (oi := ⟨some 11, .binOp .add 9 (.tmp 10) (.const (Value.string { data := #[32] })) 9, 9, "law.go:84", #[⟨3, .data⟩], none⟩) (hy := by intro w hSw; (try dsimp only at hSw); obtain ⟨q0, q1⟩ := hSw; go_simp <;> with_reducible rfl) ?_
  try simp only [Act.put, nA]
  refine wpAnyH_ready (rs := [7]) (by kernel_rfl) (by simp) ?_
  refine AllReadyH.cons (o := ⟨some 14, .call { callee := .value (.func 40), args := #[.tmp 13], argTypes := #[3] }, 9, "law.go:84", #[⟨6, .data⟩, ⟨2, .chain⟩], none⟩) rfl (fun K9 hK => ?_) AllReadyH.nil
  go_simp
  refine (hPt.out _).mono ?_
  rintro e y9 ⟨rfl, hy9⟩
  subst y9
  go_wp2_with fail
  refine hK.out _ _ ?_ ?_
  · (try dsimp only); exact ⟨hS.out.c.1, hS.out.c.2.1⟩
  clear hK K9 hHeld; intro hHeld
  try simp only [Act.put, nA]
  refine tk (i := 8) (oi := ⟨some 15, .binOp .add 9 (.tmp 11) (.tmp 14) 9, 9, "law.go:84", #[⟨4, .data⟩, ⟨7, .data⟩], none⟩) (hy := by intro w hSw; (try dsimp only at hSw); obtain ⟨q0, q1⟩ := hSw; go_simp <;> with_reducible rfl) ?_
  try simp only [Act.put, nA]
  refine tk (i := 9) (oi := ⟨some 16, .binOp .add 9 (.tmp 15) (.const (Value.string { data := #[10] })) 9, 9, "law.go:84", #[⟨8, .data⟩], none⟩) (hy := by intro w hSw; (try dsimp only at hSw); obtain ⟨q0, q1⟩ := hSw; go_simp <;> with_reducible rfl) ?_
  try simp only [Act.put, nA]
  refine tk (i := 10) (oi := ⟨some 3, .assign (.tmp 16), 9, "law.go:84", #[⟨9, .data⟩, ⟨7, .chain⟩, ⟨0, .phase⟩, ⟨1, .phase⟩, ⟨2, .phase⟩, ⟨3, .phase⟩, ⟨4, .phase⟩, ⟨5, .phase⟩, ⟨6, .phase⟩, ⟨7, .phase⟩, ⟨8, .phase⟩, ⟨9, .phase⟩], none⟩) (hy := by intro w hSw; (try dsimp only at hSw); obtain ⟨q0, q1⟩ := hSw; go_simp <;> with_reducible rfl) ?_
  try simp only [Act.put, nA]
  refine wpAnyH_done (by kernel_rfl) ?_ _
  clear r1 r2 r3 r4 hPa hPt
  have a2 := hS.out.c.2.2.1
  go_upto_region 3 with fail
  rw [show ByteArray.mk #[109, 101, 116, 104, 111, 100, 32] ++ TA ++ ⟨#[32]⟩ ++ TT ++ ⟨#[10]⟩ = bs (joinL (lnK m 0 0)) from e9.out]
  clear e9
  go_loopw [3, 20] (fun s i wr => ∃ (k : Nat), k ≤ m.lits.length ∧ s = .string (bs (joinL (lnK m k 0))) ∧ i = .int .i64 k ∧ Hid (PwL w wr q m la ca lc cc)) (fun _ i _ => m.lits.length - (intOf i).toNat)
  case atStart => exact ⟨0, by omega, rfl, rfl, hS⟩
  case round =>
    clear a2 hS hHeld
    obtain ⟨k, hk, rfl, rfl, hS⟩ := hrel
    by_cases hlt : k < m.lits.length
    · have hlt' : decide ((k : Int) < (m.lits.length : Int)) = true := by simp; omega
      have p0 : (0 : Int) ≤ (k : Int) := by omega
      have p1 : (k : Int) < (m.lits.length : Int) := by omega
      have hL8 := hL9.out
      obtain ⟨⟨x1, x2⟩, hx⟩ : ∃ x, m.lits[k]? = some x := ⟨m.lits[k]'(by omega), by simp⟩
      obtain ⟨i1, i2, g, off, rfl, c0, c1⟩ := PrV.at (hl.out.up hS.out.bel) hx
      simp only at c0 c1 i2
      have hN := Lib.hid (lnK_lit hx)
      have PI := Lib.hid (fun w => llit_c (w := w) (k := x1) (n := x2) i2)
      have lV : (bs (litB (x1, x2))).size ≤ 25 := by rw [bs_size]; exact litB_len _
      have e9 : Hid (bs (joinL (lnK m k 0)) ++ (⟨#[108, 105, 116, 32]⟩ ++ bs (litB (x1, x2)) ++ ⟨#[10]⟩) = bs (joinL (lnK m (k + 1) 0))) := Lib.hid (by
        show bs (joinL (lnK m k 0)) ++ (bs [108, 105, 116, 32] ++ bs (litB (x1, x2)) ++ bs [10]) = _
        rw [bs_app, bs_app, bs_app, hN.out, joinL_app, joinL_one]
        simp [liL, tLit])
      have lS := hsz.out k 0
      clear hx i1 hlt i2 hN
      generalize bs (joinL (lnK m k 0)) = TS at *
      generalize bs (litB (x1, x2)) = TV at *
      have r1 : ¬ (9223372036854775807 : Nat) < 4 + TV.size := by omega
      have r2 : ¬ (9223372036854775807 : Nat) < 4 + TV.size + 1 := by omega
      have r3 : ¬ (9223372036854775807 : Nat) < TS.size + (4 + TV.size + 1) := by omega
      clear lS lV
      replace hS := Lib.hid (hS.out.low ((Below.refl wr.heap.size wr).alloc (Nat.le_refl _) (.cells #[.int .i64 x1, .int .i64 x2] 49)))
      go_wp2_with (go_at_call 41; (with_reducible refine (PI.out _).mono ?_); rintro e y4 ⟨rfl, hb⟩; (replace hS := Lib.hid (hS.out.low hb)); clear hb)
      go_roundw
      case rel => exact ⟨k + 1, by omega, (by rw [← e9.out] <;> rfl), by go_num, hS⟩
      case measure => simp [intOf]; omega
    · have hlt' : decide ((k : Int) < (m.lits.length : Int)) = false := by simp; omega
      obtain rfl : k = m.lits.length := by omega
      clear hlt hk
      go_wp2_with fail
      go_loopw [3, 6] (fun s i wr => ∃ (j : Nat), j % 2 = 0 ∧ j ≤ m.code.length ∧ s = .string (bs (joinL (lnK m m.lits.length j))) ∧ i = .int .i64 j ∧ Hid (PwL w wr q m la ca lc cc)) (fun _ i _ => m.code.length - (intOf i).toNat)
      case atStart => exact ⟨0, rfl, by omega, rfl, rfl, hS⟩
      case round =>
        clear hS hlt'
        obtain ⟨j, hj2, hj, rfl, rfl, hS⟩ := hrel
        have hj2' := Lib.hid hj2
        have hcl := hC9.out
        obtain ⟨a0, a1, a2, a3⟩ := hS.out.c
        have p0 : (0 : Int) ≤ (j : Int) := by omega
        by_cases hlt : j + 1 < m.code.length
        · have hlt2 : decide ((j : Int) + 1 < (m.code.length : Int)) = true := by simp; omega
          have p1 : (j : Int) < (m.code.length : Int) := by omega
          have p2 : (j : Int) + 1 < (m.code.length : Int) := by omega
          have p3 : (0 : Int) ≤ (j : Int) + 1 := by omega
          have wj : IntKind.i64.wrap ((j : Int) + 1) = (j : Int) + 1 := IntWalk.i64_in _ (by omega)
          have tj : ((j : Int) + 1).toNat = j + 1 := by omega
          obtain ⟨X0, hX0⟩ : ∃ x, m.code[j]? = some x := ⟨m.code[j]'(by omega), by simp⟩
          obtain ⟨X1, hX1⟩ : ∃ x, m.code[j + 1]? = some x := ⟨m.code[j + 1]'(by omega), by simp⟩
          have ex0 : byAt m.code j = X0 := by unfold byAt; rw [List.getD_eq_getElem?_getD, hX0]; rfl
          have ex1 : byAt m.code (j + 1) = X1 := by unfold byAt; rw [List.getD_eq_getElem?_getD, hX1]; rfl
          obtain ⟨⟨b0, b1⟩, g, off, rfl, c0⟩ := ByV.at hc.out hX0
          obtain ⟨⟨b2, b3⟩, g', off', e, c1⟩ := ByV.at hc.out hX1
          cases e
          have hN := lnK_in hj2 hlt
          rw [ex0, ex1] at hN
          have PI := Lib.hid (fun w => linst_c (w := w) (o := X0) (a := X1) ⟨b0, b1⟩ ⟨b2, b3⟩)
          have hcc : Hid (∀ y, Below w.heap.size w y → y.cell? ⟨g, off + j, none⟩ = some (.int .u8 X0) ∧ y.cell? ⟨g, off + (j + 1), none⟩ = some (.int .u8 X1)) := Lib.hid (fun y b => ⟨cell_up b c0, cell_up b c1⟩)
          have lV : (bs (ixL X0 X1 ++ [10])).size ≤ 81 := by
            rw [bs_size, List.length_append]
            have := ixL_len X0 X1
            simp only [List.length_cons, List.length_nil]
            omega
          have e9 : Hid (bs (joinL (lnK m m.lits.length j)) ++ bs (ixL X0 X1 ++ [10]) = bs (joinL (lnK m m.lits.length (j + 2)))) := Lib.hid (by rw [bs_app, hN, joinL_app, joinL_one])
          have lS := hsz.out m.lits.length j
          clear hj2 hN ex0 ex1 hX0 hX1 c0 c1 b0 b1 b2 b3
          generalize bs (joinL (lnK m m.lits.length j)) = TS at *
          generalize bs (ixL X0 X1 ++ [10]) = TV at *
          have r1 : ¬ (9223372036854775807 : Nat) < TS.size + TV.size := by omega
          clear lS lV
          go_upto_region 10 with fail
          replace hS := Lib.hid (hS.out.low ((Below.refl _ _).drew))
          clear a0 a1 a2 a3
          refine wp_region_held_drew (S := (fun wr' => wr'.cell? ⟨q, 3, none⟩ = some (.slice (some ⟨g, off, none⟩) m.code.length cc) ∧ wr'.cell? ⟨g, off + j, none⟩ = some (.int .u8 X0) ∧ wr'.cell? ⟨g, off + (j + 1), none⟩ = some (.int .u8 X1))) (by kernel_rfl) ?_ (fun hHeld => ?_)
          · (try dsimp only); exact ⟨hS.out.c.2.2.2, (hcc.out _ hS.out.bel).1, (hcc.out _ hS.out.bel).2⟩
          try simp only [Act.put, nA]
          refine tk (i := 0) (oi := ⟨some 39, .move (.tmp 3), 9, "law.go:89", #[], none⟩) (hy := by intro w hSw; (try dsimp only at hSw); obtain ⟨q0, q1, q2⟩ := hSw; go_simp <;> with_reducible rfl) ?_
          try simp only [Act.put, nA]
          refine tk (i := 1) (oi := ⟨some 40, .fieldAddr 37 (.tmp 1) 3, 0, "law.go:89", #[], none⟩) (hy := by intro w hSw; (try dsimp only at hSw); obtain ⟨q0, q1, q2⟩ := hSw; go_simp <;> with_reducible rfl) ?_
          try simp only [Act.put, nA]
          refine tk (i := 2) (oi := ⟨some 41, .load 35 (.tmp 40), 35, "law.go:89", #[⟨1, .data⟩], none⟩) (hy := by intro w hSw; (try dsimp only at hSw); obtain ⟨q0, q1, q2⟩ := hSw; go_simp <;> with_reducible rfl) ?_
          try simp only [Act.put, nA]
          refine tk (i := 3) (oi := ⟨some 42, .move (.tmp 6), 3, "law.go:89", #[], none⟩) (hy := by intro w hSw; (try dsimp only at hSw); obtain ⟨q0, q1, q2⟩ := hSw; go_simp <;> with_reducible rfl) ?_
          try simp only [Act.put, nA]
          refine tk (i := 4) (oi := ⟨some 43, .indexAddr 35 (.tmp 41) (.tmp 42), 0, "law.go:89", #[⟨2, .data⟩, ⟨3, .data⟩], none⟩) (hy := by intro w hSw; (try dsimp only at hSw); obtain ⟨q0, q1, q2⟩ := hSw; go_simp <;> with_reducible rfl) ?_
          try simp only [Act.put, nA]
          refine tk (i := 5) (oi := ⟨some 44, .load 5 (.tmp 43), 5, "law.go:89", #[⟨4, .data⟩], none⟩) (hy := by intro w hSw; (try dsimp only at hSw); obtain ⟨q0, q1, q2⟩ := hSw; go_simp <;> with_reducible rfl) ?_
          try simp only [Act.put, nA]
          refine tk (i := 6) (oi := ⟨some 45, .fieldAddr 37 (.tmp 1) 3, 0, "law.go:89", #[], none⟩) (hy := by intro w hSw; (try dsimp only at hSw); obtain ⟨q0, q1, q2⟩ := hSw; go_simp <;> with_reducible rfl) ?_
          try simp only [Act.put, nA]
          refine tk (i := 7) (oi := ⟨some 46, .load 35 (.tmp 45), 35, "law.go:89", #[⟨6, .data⟩], none⟩) (hy := by intro w hSw; (try dsimp only at hSw); obtain ⟨q0, q1, q2⟩ := hSw; go_simp <;> with_reducible rfl) ?_
          try simp only [Act.put, nA]
          refine tk (i := 8) (oi := ⟨some 47, .move (.tmp 6), 3, "law.go:89", #[], none⟩) (hy := by intro w hSw; (try dsimp only at hSw); obtain ⟨q0, q1, q2⟩ := hSw; go_simp <;> with_reducible rfl) ?_
          try simp only [Act.put, nA]
          refine tk (i := 9) (oi := ⟨some 48, .binOp .add 3 (.tmp 47) (.const (.int .i64 1)) 3, 3, "law.go:89", #[⟨8, .data⟩], none⟩) (hy := by intro w hSw; (try dsimp only at hSw); obtain ⟨q0, q1, q2⟩ := hSw; go_simp <;> with_reducible rfl) ?_
          try simp only [Act.put, nA]
          refine tk (i := 10) (oi := ⟨some 49, .indexAddr 35 (.tmp 46) (.tmp 48), 0, "law.go:89", #[⟨7, .data⟩, ⟨9, .data⟩], none⟩) (hy := by intro w hSw; (try dsimp only at hSw); obtain ⟨q0, q1, q2⟩ := hSw; go_simp <;> with_reducible rfl) ?_
          try simp only [Act.put, nA]
          refine tk (i := 11) (oi := ⟨some 50, .load 5 (.tmp 49), 5, "law.go:89", #[⟨10, .data⟩], none⟩) (hy := by intro w hSw; (try dsimp only at hSw); obtain ⟨q0, q1, q2⟩ := hSw; go_simp <;> with_reducible rfl) ?_
          try simp only [Act.put, nA]
          refine wpAnyH_ready (rs := [12]) (by kernel_rfl) (by simp) ?_
          refine AllReadyH.cons (o := ⟨some 51, .call { callee := .value (.func 42), args := #[.tmp 44, .tmp 50], argTypes := #[5, 5] }, 9, "law.go:89", #[⟨5, .data⟩, ⟨11, .data⟩], none⟩) rfl (fun K9 hK => ?_) AllReadyH.nil
          go_simp
          refine (PI.out _).mono ?_
          rintro e y8 ⟨rfl, hb⟩
          replace hS := Lib.hid (hS.out.low hb)
          clear hb
          go_wp2_with fail
          refine hK.out _ _ ?_ ?_
          · (try dsimp only); exact ⟨hS.out.c.2.2.2, (hcc.out _ hS.out.bel).1, (hcc.out _ hS.out.bel).2⟩
          clear hK K9 hHeld; intro hHeld
          try simp only [Act.put, nA]
          refine tk (i := 13) (oi := ⟨some 52, .binOp .add 9 (.tmp 39) (.tmp 51) 9, 9, "law.go:89", #[⟨0, .data⟩, ⟨12, .data⟩], none⟩) (hy := by intro w hSw; (try dsimp only at hSw); obtain ⟨q0, q1, q2⟩ := hSw; go_simp <;> with_reducible rfl) ?_
          try simp only [Act.put, nA]
          refine tk (i := 14) (oi := ⟨some 3, .assign (.tmp 52), 9, "law.go:89", #[⟨13, .data⟩, ⟨12, .chain⟩, ⟨0, .phase⟩, ⟨1, .phase⟩, ⟨2, .phase⟩, ⟨3, .phase⟩, ⟨4, .phase⟩, ⟨5, .phase⟩, ⟨6, .phase⟩, ⟨7, .phase⟩, ⟨8, .phase⟩, ⟨9, .phase⟩, ⟨10, .phase⟩, ⟨11, .phase⟩, ⟨12, .phase⟩, ⟨13, .phase⟩], none⟩) (hy := by intro w hSw; (try dsimp only at hSw); obtain ⟨q0, q1, q2⟩ := hSw; go_simp <;> with_reducible rfl) ?_
          try simp only [Act.put, nA]
          refine wpAnyH_done (by kernel_rfl) ?_ _
          clear hHeld
          go_wp2_with fail
          go_roundw
          case rel => exact ⟨j + 2, by have := hj2'.out; omega, by omega, (by rw [← e9.out] <;> rfl), by go_num, hS⟩
          case measure => simp [intOf]; omega
        · have hlt2 : decide ((j : Int) + 1 < (m.code.length : Int)) = false := by simp; omega
          have wj : IntKind.i64.wrap ((j : Int) + 1) = (j : Int) + 1 := IntWalk.i64_in _ (by omega)
          have htm : Int.tmod (m.code.length : Int) 2 = ((m.code.length % 2 : Nat) : Int) := (Int.ofNat_tmod _ 2).symm
          by_cases hodd : m.code.length = j + 1
          · have ho1 : (((m.code.length % 2 : Nat) : Int) == 1) = true := by
              have : m.code.length % 2 = 1 := by omega
              rw [this]; rfl
            have hlen1 : IntKind.i64.wrap ((m.code.length : Int) - 1) = (j : Int) := by rw [IntWalk.i64_in _ (by omega)]; omega
            have hlen2 : (m.code.length : Int) - 1 = (j : Int) := by omega
            have p1 : (j : Int) < (m.code.length : Int) := by omega
            obtain ⟨X0, hX0⟩ : ∃ x, m.code[j]? = some x := ⟨m.code[j]'(by omega), by simp⟩
            have ex0 : byAt m.code j = X0 := by unfold byAt; rw [List.getD_eq_getElem?_getD, hX0]; rfl
            obtain ⟨⟨b0, b1⟩, g, off, rfl, c0⟩ := ByV.at (hc.out.up hS.out.bel) hX0
            have hN := lnK_by hj2 hodd.symm
            rw [ex0] at hN
            have hend := lnK_end (m := m) (j := j + 2) (by omega)
            have PI := Lib.hid (fun w => lnumber_c X0 ⟨by omega, by omega⟩ w)
            have lV : (bs (numB X0)).size ≤ 21 := by rw [bs_size]; exact numB_len _
            have e9 : Hid (bs (joinL (lnK m m.lits.length j)) ++ (⟨#[98, 121, 116, 101, 32]⟩ ++ bs (numB X0) ++ ⟨#[10]⟩) = bs (printR m.args m.temps m.lits m.code)) := Lib.hid (by
              show bs (joinL (lnK m m.lits.length j)) ++ (bs [98, 121, 116, 101, 32] ++ bs (numB X0) ++ bs [10]) = _
              rw [bs_app, bs_app, bs_app, ← hend, hN, joinL_app, joinL_one]
              simp [byL, tByte])
            have lS := hsz.out m.lits.length j
            clear hj2 hN ex0 hX0 hend hj hlt
            generalize bs (joinL (lnK m m.lits.length j)) = TS at *
            generalize bs (numB X0) = TV at *
            have r1 : ¬ (9223372036854775807 : Nat) < 5 + TV.size := by omega
            have r2 : ¬ (9223372036854775807 : Nat) < 5 + TV.size + 1 := by omega
            have r3 : ¬ (9223372036854775807 : Nat) < TS.size + (5 + TV.size + 1) := by omega
            clear lS lV
            go_wp2_with (go_at_call 40; (with_reducible refine (PI.out _).mono ?_); rintro e y4 ⟨rfl, hy4⟩; subst y4)
            go_ret
            exact ⟨by rw [← e9.out]; rfl, hS.out.bel⟩
          · have ho1 : (((m.code.length % 2 : Nat) : Int) == 1) = false := by
              have : m.code.length % 2 = 0 := by omega
              rw [this]; rfl
            have hend := Lib.hid (lnK_end (m := m) (j := j) (by omega))
            clear hj2 hj hlt
            go_wp2_with fail
            go_ret
            exact ⟨by rw [← hend.out]; rfl, hS.out.bel⟩
end Wd
end Go.Proofs.YtkodnioheifalaaDoor

/- The law's own goes: do a method's numbers go in? -/
namespace Go.Proofs.YtkodnioheifalaaDoor
open Go.RowKit
set_option linter.unusedVariables false
set_option maxRecDepth 20000
namespace Wd
def ok0 (m : MethA) : Bool := decide (0 ≤ m.args) && decide (m.args ≤ 255) && decide (0 ≤ m.temps) && decide (m.temps ≤ 255)
theorem ok0_all (m : MethA) : goM m.args m.temps m.lits = (ok0 m && m.lits.all goV) := rfl
theorem allv_next {L : List (Int × Int)} {k : Nat} {v : Int × Int} (h : L[k]? = some v) : (L.take (k + 1)).all goV = ((L.take k).all goV && goV v) := by
  rw [take_next h, List.all_append]
  simp
set_option maxHeartbeats 16000000 in
theorem lgoes_c {w : World} {v : Value} {m : MethA} (hm : MeV w v m) (hL : m.lits.length ≤ 1000000) :
    Calls Tryd.prog 24 #[v] w fun e w' => e = .returned (.bool (goM m.args m.temps m.lits)) ∧ Below w.heap.size w w' := by
  obtain ⟨la, lc, ca, cc, rfl, hl, hc⟩ := hm.ex
  replace hl := Lib.hid hl
  have hL9 := Lib.hid hL
  have hgo := Lib.hid (ok0_all m)
  have S0 : Hid (PwL w (w.alloc (.cells #[.int .i64 m.args, .int .i64 m.temps, .slice la m.lits.length lc, .slice ca m.code.length cc] 37)) w.heap.size m la ca lc cc) := Lib.hid ⟨heap_alloc_new w _, (Below.refl w.heap.size w).alloc (Nat.le_refl _) _⟩
  clear hm hL hc
  go_enter Tryd.func24, Tryd.ntmps24
  go_upto_region 1 with fail
  generalize w.alloc (.cells #[.int .i64 m.args, .int .i64 m.temps, .slice la m.lits.length lc, .slice ca m.code.length cc] 37) = W at *
  obtain ⟨q, hq⟩ : ∃ q, w.heap.size = q := ⟨_, rfl⟩
  simp only [hq] at S0 ⊢
  clear hq
  obtain ⟨a0, a1, a2, a3⟩ := S0.out.c
  go_cut [3] (fun v3 wx => v3 = .bool (ok0 m) ∧ wx = W)
  case first =>
    clear S0 hl hgo hL9
    have hok : ok0 m = (decide (0 ≤ m.args) && decide (m.args ≤ 255) && decide (0 ≤ m.temps) && decide (m.temps ≤ 255)) := rfl
    replace hok := Lib.hid hok
    by_cases h1 : 0 ≤ m.args
    · have d1 : decide (0 ≤ m.args) = true := by simpa using h1
      by_cases h2 : m.args ≤ 255
      · have d2 : decide (m.args ≤ 255) = true := by simpa using h2
        by_cases h3 : 0 ≤ m.temps
        · have d3 : decide (0 ≤ m.temps) = true := by simpa using h3
          go_wp2_with fail
          go_meet
          exact ⟨by rw [hok.out, d1, d2, d3]; rfl, rfl⟩
        · have d3 : decide (0 ≤ m.temps) = false := by simpa using h3
          go_wp2_with fail
          go_meet
          exact ⟨by rw [hok.out, d1, d2, d3]; rfl, rfl⟩
      · have d2 : decide (m.args ≤ 255) = false := by simpa using h2
        go_wp2_with fail
        go_meet
        exact ⟨by rw [hok.out, d1, d2]; rfl, rfl⟩
    · have d1 : decide (0 ≤ m.args) = false := by simpa using h1
      go_wp2_with fail
      go_meet
      exact ⟨by rw [hok.out, d1]; rfl, rfl⟩
  case rest =>
    obtain ⟨rfl, rfl⟩ := hcut
    go_upto_region 3 with fail
    go_loopw [3, 27] (fun s i wr => ∃ (k : Nat), k ≤ m.lits.length ∧ s = .bool (ok0 m && (m.lits.take k).all goV) ∧ i = .int .i64 k ∧ Hid (PwL w wr q m la ca lc cc)) (fun _ i _ => m.lits.length - (intOf i).toNat)
    case atStart => exact ⟨0, by omega, by simp, rfl, S0⟩
    case round =>
      clear a0 a1 a2 a3 S0
      obtain ⟨k, hk, rfl, rfl, hS⟩ := hrel
      by_cases hlt : k < m.lits.length
      · have hlt' : decide ((k : Int) < (m.lits.length : Int)) = true := by simp; omega
        have p0 : (0 : Int) ≤ (k : Int) := by omega
        have p1 : (k : Int) < (m.lits.length : Int) := by omega
        have hL8 := hL9.out
        obtain ⟨⟨x1, x2⟩, hx⟩ : ∃ x, m.lits[k]? = some x := ⟨m.lits[k]'(by omega), by simp⟩
        obtain ⟨i1, i2, g, off, rfl, c0, c1⟩ := PrV.at (hl.out.up hS.out.bel) hx
        simp only at c0 c1 i2
        have hN : Hid ((ok0 m && (m.lits.take (k + 1)).all goV) = ((ok0 m && (m.lits.take k).all goV) && goV (x1, x2))) := Lib.hid (by rw [allv_next hx, Bool.and_assoc])
        have PI := Lib.hid (fun w => lkind_c x1 w)
        clear hx i1
        replace hS := Lib.hid (hS.out.low ((Below.refl wr.heap.size wr).alloc (Nat.le_refl _) (.cells #[.int .i64 x1, .int .i64 x2] 49)))
        generalize (ok0 m && (m.lits.take k).all goV) = B at *
        cases B with
        | false =>
          go_wp2_with fail
          go_roundw
          case rel => exact ⟨k + 1, by omega, by rw [hN.out]; rfl, by go_num, hS⟩
          case measure => simp [intOf]; omega
        | true =>
          by_cases g1 : knd x1 = []
          · have g2 := bs_em
            rw [g1] at PI
            have hv : Hid (goV (x1, x2) = false) := Lib.hid (by unfold goV; simp [g1])
            go_wp2_with (go_at_call 43; (with_reducible refine (PI.out _).mono ?_); rintro e y4 ⟨rfl, hy4⟩; subst y4)
            go_roundw
            case rel => exact ⟨k + 1, by omega, by rw [hN.out, hv.out]; rfl, by go_num, hS⟩
            case measure => simp [intOf]; omega
          · have g2 := bs_nem g1
            by_cases g3 : -1073741824 ≤ x2
            · have d3 : decide (-1073741824 ≤ x2) = true := by simpa using g3
              by_cases g4 : x2 ≤ 1073741823
              · have d4 : decide (x2 ≤ 1073741823) = true := by simpa using g4
                have hv : Hid (goV (x1, x2) = true) := Lib.hid (goV_iff.2 ⟨g1, g3, g4⟩)
                clear g1
                go_wp2_with (go_at_call 43; (with_reducible refine (PI.out _).mono ?_); rintro e y4 ⟨rfl, hy4⟩; subst y4)
                go_roundw
                case rel => exact ⟨k + 1, by omega, by rw [hN.out, hv.out]; rfl, by go_num, hS⟩
                case measure => simp [intOf]; omega
              · have d4 : decide (x2 ≤ 1073741823) = false := by simpa using g4
                have hv : Hid (goV (x1, x2) = false) := Lib.hid (by unfold goV; simp [d4])
                clear g1
                go_wp2_with (go_at_call 43; (with_reducible refine (PI.out _).mono ?_); rintro e y4 ⟨rfl, hy4⟩; subst y4)
                go_roundw
                case rel => exact ⟨k + 1, by omega, by rw [hN.out, hv.out]; rfl, by go_num, hS⟩
                case measure => simp [intOf]; omega
            · have d3 : decide (-1073741824 ≤ x2) = false := by simpa using g3
              have hv : Hid (goV (x1, x2) = false) := Lib.hid (by unfold goV; simp [d3])
              clear g1
              go_wp2_with (go_at_call 43; (with_reducible refine (PI.out _).mono ?_); rintro e y4 ⟨rfl, hy4⟩; subst y4)
              go_roundw
              case rel => exact ⟨k + 1, by omega, by rw [hN.out, hv.out]; rfl, by go_num, hS⟩
              case measure => simp [intOf]; omega
      · have hlt' : decide ((k : Int) < (m.lits.length : Int)) = false := by simp; omega
        obtain rfl : k = m.lits.length := by omega
        clear hlt hk
        go_wp2_with fail
        go_ret
        exact ⟨by rw [hgo.out, List.take_length]; rfl, hS.out.bel⟩
end Wd
end Go.Proofs.YtkodnioheifalaaDoor
