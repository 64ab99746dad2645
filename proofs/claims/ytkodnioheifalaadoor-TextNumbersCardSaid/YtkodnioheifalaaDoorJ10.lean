/- Texts joined: TLF, TLG, TLH, TLI, TLJ, TLK, TLL. -/
import Derived.Test.YtkodnioheifalaaDoorJ9
import Derived.Laws.IdiomStrings
import Derived.Maps.AppendAt
import Derived.Deep.AppendLies
/- The landed text: numbers that are read. -/
namespace Go.Proofs.YtkodnioheifalaaDoor
open Go.RowKit
set_option linter.unusedVariables false
set_option maxRecDepth 20000
namespace Wd
def digC (c : UInt8) : Bool := decide (48 ≤ c.toNat) && decide (c.toNat ≤ 57)
/-- what the package's count says -/
def cntP (l : Bs) : Int × Bool :=
  if l = [] ∨ l.length > 10 ∨ (l.headD 0 = 48 ∧ l.length > 1) then (0, false)
  else if l.all digC then ((valD l : Int), true) else (0, false)
theorem valD_lt (l : Bs) (h : l.all digC = true) : valD l < 10 ^ l.length := by
  have key : ∀ (l : Bs) (a : Nat), l.all digC = true → l.foldl (fun a c => a * 10 + (c.toNat - 48)) a + 1 ≤ (a + 1) * 10 ^ l.length := by
    intro l
    induction l with
    | nil => intro a _; simp
    | cons c r ih =>
      intro a h
      simp only [List.all_cons, Bool.and_eq_true, digC, decide_eq_true_eq] at h
      have h1 := ih (a * 10 + (c.toNat - 48)) (by simpa [digC] using h.2)
      rw [List.foldl_cons, List.length_cons, Nat.pow_succ]
      have h2 : (a * 10 + (c.toNat - 48) + 1) * 10 ^ r.length ≤ (a * 10 + 10) * 10 ^ r.length := Nat.mul_le_mul_right _ (by omega)
      have h3 : (a * 10 + 10) * 10 ^ r.length = (a + 1) * (10 ^ r.length * 10) := by
        rw [Nat.mul_comm (10 ^ r.length) 10, ← Nat.mul_assoc, Nat.add_mul a 1 10]
      omega
  have := key l 0 h
  unfold valD
  omega
/-- the loop of count -/
structure CN (w wr : World) (l : Bs) (q k : Nat) (v : Int) : Prop where
  mk ::
  e : v = valD (l.take k)
  d : (l.take k).all digC = true
  b : v < 10000000000
  p : 0 ≤ v
  bel : Below w.heap.size w wr
  c : ∀ (j : Nat) (x : UInt8), l[j]? = some x → wr.cell? ⟨q, j, none⟩ = some (.int .u8 (x.toNat : Int))
theorem CN.no {w wr : World} {l : Bs} {q k : Nat} {v : Int} {x : UInt8} (hx : l[k]? = some x) (h : digC x = false) (h0 : ¬ (l = [] ∨ l.length > 10 ∨ (l.headD 0 = 48 ∧ l.length > 1))) : cntP l = (0, false) := by
  unfold cntP
  rw [if_neg h0, if_neg]
  intro e
  have := List.all_eq_true.1 e x (List.mem_of_getElem? hx)
  rw [h] at this
  cases this
theorem CN.step {w wr : World} {l : Bs} {q k : Nat} {v : Int} {x : UInt8} (h : CN w wr l q k v) (hx : l[k]? = some x) (hd : digC x = true) (h10 : l.length ≤ 10) : CN w wr l q (k + 1) (10 * v + ((x.toNat : Int) - 48)) := by
  have e : l.take (k + 1) = l.take k ++ [x] := take_next hx
  have hd' : (l.take (k + 1)).all digC = true := by rw [e, List.all_append, h.d]; simpa using hd
  have e2 : (10 * v + ((x.toNat : Int) - 48)) = (valD (l.take (k + 1)) : Nat) := by
    rw [e, valD_app, h.e]
    simp only [digC, Bool.and_eq_true, decide_eq_true_eq] at hd
    omega
  have h3 := valD_lt _ hd'
  have h4 : 10 ^ (l.take (k + 1)).length ≤ 10 ^ 10 := Nat.pow_le_pow_right (by decide) (by rw [List.length_take]; omega)
  refine ⟨e2, hd', by omega, by omega, h.bel, h.c⟩
theorem CN.done {w wr : World} {l : Bs} {q k : Nat} {v : Int} (h : CN w wr l q k v) (hk : k = l.length) (h0 : ¬ (l = [] ∨ l.length > 10 ∨ (l.headD 0 = 48 ∧ l.length > 1))) : cntP l = (v, true) := by
  have h1 := h.e; have h2 := h.d
  rw [hk, List.take_length] at h1 h2
  unfold cntP
  rw [if_neg h0, if_pos h2, h1]
set_option maxHeartbeats 8000000 in
theorem count_c (l : Bs) (hm : l.length ≤ 4611686018427387904) (w : World) :
    Calls Tryd.prog 53 #[.string (bs l)] w fun e w' => e = .returned (.tuple #[.int .i64 (cntP l).1, .bool (cntP l).2]) ∧ Below w.heap.size w w' := by
  by_cases hn : l = []
  · subst hn
    have g1 := bs_em
    go_enter Tryd.func53, Tryd.ntmps53
    go_wp2_with fail
    go_ret2
    exact ⟨rfl, Below.refl _ _⟩
  have g1 := bs_nem hn
  obtain ⟨n, hnn⟩ : ∃ n, n = l.length := ⟨_, rfl⟩
  have hsz : (bs l).size = n := by rw [bs_size, hnn]
  obtain ⟨c, hc⟩ : ∃ c, c = l.headD 0 := ⟨_, rfl⟩
  have hx : ∀ h, (bs l)[0]'h = c := fun h => by
    rw [hc]
    cases l with
    | nil => exact absurd rfl hn
    | cons c r => rfl
  have hrow := Lib.hid (fun (cap k : Nat) (x : UInt8) (hk : l[k]? = some x) => (show (bytesRow (bs l) cap)[k]? = some (Value.int .u8 (x.toNat : Int)) by
    obtain ⟨h1, h2⟩ := List.getElem?_eq_some_iff.1 hk
    rw [bytesRow_at (bs l) cap k (by simpa [bs] using h1), ← h2]
    simp [bs]))
  have h0n : 0 < n := by
    rw [hnn]
    cases l with
    | nil => exact absurd rfl hn
    | cons c r => simp
  by_cases h10 : n > 10
  · have d1 : decide ((n : Int) > 10) = true := by simp; omega
    have e : Hid (cntP l = (0, false)) := Lib.hid (by unfold cntP; rw [if_pos (Or.inr (Or.inl (by omega)))])
    generalize bs l = s at *
    clear hrow hx hnn hc hn
    go_enter Tryd.func53, Tryd.ntmps53
    go_wp2_with fail
    go_ret2
    exact ⟨by rw [e.out]; rfl, Below.refl _ _⟩
  have d1 : decide ((n : Int) > 10) = false := by simp; omega
  by_cases h48 : c = 48 ∧ n > 1
  · have d2 : ((c.toNat : Int) == 48) = true := by rw [h48.1]; rfl
    have d3 : decide ((n : Int) > 1) = true := by simp; omega
    have e : Hid (cntP l = (0, false)) := Lib.hid (by unfold cntP; rw [if_pos (Or.inr (Or.inr ⟨by rw [← hc]; exact h48.1, by omega⟩))])
    obtain ⟨h48, h48'⟩ := h48
    generalize bs l = s at *
    clear hrow hnn hn h48 hc
    go_enter Tryd.func53, Tryd.ntmps53
    go_wp2_with fail
    go_ret2
    exact ⟨by rw [e.out]; rfl, Below.refl _ _⟩
  have hno := Lib.hid (show ¬ (l = [] ∨ l.length > 10 ∨ (l.headD 0 = 48 ∧ l.length > 1)) by
    rintro (h | h | ⟨h, h'⟩)
    · exact hn h
    · omega
    · exact h48 ⟨by rw [hc]; exact h, by omega⟩)
  have hcv : ∀ w0 : World, Sem.run Tryd.prog (convert 9 35 (.string (bs l))) w0 = .ok (.slice (some ⟨w0.heap.size, 0, none⟩) n (grownCap w0 n 0 5)) (w0.drew.alloc (.cells (bytesRow (bs l) (grownCap w0 n 0 5)) 5 ((bytesRow (bs l) (grownCap w0 n 0 5)).size, (bytesRow (bs l) (grownCap w0 n 0 5)).size + 1))) := fun w0 => by
    rw [← hsz]
    exact run_bytes_of_string w0 9 35 5 (bs l) rfl rfl rfl
  have hl10 := Lib.hid (show l.length ≤ 10 by omega)
  replace hnn := Lib.hid hnn
  generalize bs l = s at *
  clear h10 hc hn hm
  have hd48 : ((c.toNat : Int) == 48) = true ∧ decide ((n : Int) > 1) = false ∨ ((c.toNat : Int) == 48) = false := by
    by_cases e : c = 48
    · exact Or.inl ⟨by rw [e]; rfl, by have : ¬ n > 1 := fun h => h48 ⟨e, h⟩; simp; omega⟩
    · right
      have : c.toNat ≠ 48 := fun h => e (UInt8.toNat_inj.1 h)
      simp
      omega
  clear h48
  rcases hd48 with ⟨d2, d3⟩ | d2
  · have hc1 := hcv
    clear hcv
    have hcv := hc1
    go_enter Tryd.func53, Tryd.ntmps53
    go_upto_region 4 with fail
    go_wp2_with fail
    have S0 : Hid (CN w (w.drew.alloc (.cells (bytesRow s (grownCap w n 0 5)) 5 ((bytesRow s (grownCap w n 0 5)).size, (bytesRow s (grownCap w n 0 5)).size + 1))) l w.heap.size 0 0) := by
      refine Lib.hid ⟨by simp [valD], by simp, by omega, by omega, (Below.refl _ _).drew.alloc (by simp) _, fun j x hx => ?_⟩
      have := hrow.out (grownCap w n 0 5) j x hx
      have h2 := heap_alloc_new w.drew (.cells (bytesRow s (grownCap w n 0 5)) 5 ((bytesRow s (grownCap w n 0 5)).size, (bytesRow s (grownCap w n 0 5)).size + 1))
      exact (Lib.cell_of_heap h2 j).trans this
    clear hcv hrow d1 d2 hx hsz
    go_loopw [4, 27] (fun v i wr => ∃ (k : Nat) (z : Int), k ≤ n ∧ v = .int .i64 z ∧ i = .int .i64 k ∧ Hid (CN w wr l w.heap.size k z)) (fun _ i _ => n - (intOf i).toNat)
    case atStart => exact ⟨0, 0, by omega, rfl, rfl, S0⟩
    case round =>
      clear S0
      obtain ⟨k, z, hk, rfl, rfl, hS⟩ := hrel
      by_cases hlt : k < n
      · have hlt' : decide ((k : Int) < (n : Int)) = true := by simp; omega
        have p0 : (0 : Int) ≤ (k : Int) := by omega
        have p1 : (k : Int) < (n : Int) := by omega
        have hn10 : n ≤ 10 := by have := hl10.out; have := hnn.out; omega
        obtain ⟨x, hx⟩ : ∃ x, l[k]? = some x := ⟨l[k]'(by have := hnn.out; omega), by simp⟩
        have c0 := hS.out.c k x hx
        by_cases hd : digC x = true
        · have hN := Lib.hid (hS.out.step hx hd hl10.out)
          simp only [digC, Bool.and_eq_true, decide_eq_true_eq] at hd
          obtain ⟨x1', x2'⟩ := hd
          have x1 : (48 : Int) ≤ (x.toNat : Int) := by omega
          have x2 : (x.toNat : Int) ≤ 57 := by omega
          clear x1' x2'
          have f1 : decide ((x.toNat : Int) < 48) = false := by simp; omega
          have f2 : decide ((x.toNat : Int) > 57) = false := by simp; omega
          have z1 := hS.out.b
          have z2 := hS.out.p
          have w1 : IntKind.u8.wrap ((x.toNat : Int) - 48) = (x.toNat : Int) - 48 := by unfold IntKind.wrap; simp [IntKind.signed, IntKind.bits]; omega
          clear hx
          generalize (x.toNat : Int) = X at *
          go_wp2_with fail
          go_roundw
          case rel =>
            have w3 : wrap64 (10 * z + wrap64 (X - 48)) = 10 * z + (X - 48) := by rw [← IntWalk.i64_left, ← IntWalk.i64_left, IntWalk.i64_in (X - 48) (by omega), IntWalk.i64_in _ (by omega)]
            exact ⟨k + 1, 10 * z + (X - 48), by omega, (by first | rfl | rw [w3]), by go_num, hN⟩
          case measure => simp [intOf]; omega
        · have hN := Lib.hid (CN.no (w := w) (wr := wr) (q := 0) (v := 0) hx (by simpa using hd) hno.out)
          simp only [digC, Bool.and_eq_true, decide_eq_true_eq] at hd
          have f1 : decide ((x.toNat : Int) < 48) = true ∨ decide ((x.toNat : Int) < 48) = false ∧ decide ((x.toNat : Int) > 57) = true := by
            by_cases h : x.toNat < 48
            · left; simp; omega
            · right; simp; omega
          clear hx hd
          generalize (x.toNat : Int) = X at *
          rcases f1 with f1 | ⟨f1, f2⟩
          · go_wp2_with fail
            go_ret2
            exact ⟨by rw [hN.out]; rfl, hS.out.bel⟩
          · go_wp2_with fail
            go_ret2
            exact ⟨by rw [hN.out]; rfl, hS.out.bel⟩
      · have hlt' : decide ((k : Int) < (n : Int)) = false := by simp; omega
        have hN := Lib.hid (hS.out.done (by have := hnn.out; omega) hno.out)
        go_wp2_with fail
        go_ret2
        exact ⟨by rw [hN.out]; rfl, hS.out.bel⟩
  · have hc1 := hcv
    clear hcv
    have hcv := hc1
    go_enter Tryd.func53, Tryd.ntmps53
    go_upto_region 4 with fail
    go_wp2_with fail
    have S0 : Hid (CN w (w.drew.alloc (.cells (bytesRow s (grownCap w n 0 5)) 5 ((bytesRow s (grownCap w n 0 5)).size, (bytesRow s (grownCap w n 0 5)).size + 1))) l w.heap.size 0 0) := by
      refine Lib.hid ⟨by simp [valD], by simp, by omega, by omega, (Below.refl _ _).drew.alloc (by simp) _, fun j x hx => ?_⟩
      have := hrow.out (grownCap w n 0 5) j x hx
      have h2 := heap_alloc_new w.drew (.cells (bytesRow s (grownCap w n 0 5)) 5 ((bytesRow s (grownCap w n 0 5)).size, (bytesRow s (grownCap w n 0 5)).size + 1))
      exact (Lib.cell_of_heap h2 j).trans this
    clear hcv hrow d1 d2 hx hsz
    go_loopw [4, 27] (fun v i wr => ∃ (k : Nat) (z : Int), k ≤ n ∧ v = .int .i64 z ∧ i = .int .i64 k ∧ Hid (CN w wr l w.heap.size k z)) (fun _ i _ => n - (intOf i).toNat)
    case atStart => exact ⟨0, 0, by omega, rfl, rfl, S0⟩
    case round =>
      clear S0
      obtain ⟨k, z, hk, rfl, rfl, hS⟩ := hrel
      by_cases hlt : k < n
      · have hlt' : decide ((k : Int) < (n : Int)) = true := by simp; omega
        have p0 : (0 : Int) ≤ (k : Int) := by omega
        have p1 : (k : Int) < (n : Int) := by omega
        have hn10 : n ≤ 10 := by have := hl10.out; have := hnn.out; omega
        obtain ⟨x, hx⟩ : ∃ x, l[k]? = some x := ⟨l[k]'(by have := hnn.out; omega), by simp⟩
        have c0 := hS.out.c k x hx
        by_cases hd : digC x = true
        · have hN := Lib.hid (hS.out.step hx hd hl10.out)
          simp only [digC, Bool.and_eq_true, decide_eq_true_eq] at hd
          obtain ⟨x1', x2'⟩ := hd
          have x1 : (48 : Int) ≤ (x.toNat : Int) := by omega
          have x2 : (x.toNat : Int) ≤ 57 := by omega
          clear x1' x2'
          have f1 : decide ((x.toNat : Int) < 48) = false := by simp; omega
          have f2 : decide ((x.toNat : Int) > 57) = false := by simp; omega
          have z1 := hS.out.b
          have z2 := hS.out.p
          have w1 : IntKind.u8.wrap ((x.toNat : Int) - 48) = (x.toNat : Int) - 48 := by unfold IntKind.wrap; simp [IntKind.signed, IntKind.bits]; omega
          clear hx
          generalize (x.toNat : Int) = X at *
          go_wp2_with fail
          go_roundw
          case rel =>
            have w3 : wrap64 (10 * z + wrap64 (X - 48)) = 10 * z + (X - 48) := by rw [← IntWalk.i64_left, ← IntWalk.i64_left, IntWalk.i64_in (X - 48) (by omega), IntWalk.i64_in _ (by omega)]
            exact ⟨k + 1, 10 * z + (X - 48), by omega, (by first | rfl | rw [w3]), by go_num, hN⟩
          case measure => simp [intOf]; omega
        · have hN := Lib.hid (CN.no (w := w) (wr := wr) (q := 0) (v := 0) hx (by simpa using hd) hno.out)
          simp only [digC, Bool.and_eq_true, decide_eq_true_eq] at hd
          have f1 : decide ((x.toNat : Int) < 48) = true ∨ decide ((x.toNat : Int) < 48) = false ∧ decide ((x.toNat : Int) > 57) = true := by
            by_cases h : x.toNat < 48
            · left; simp; omega
            · right; simp; omega
          clear hx hd
          generalize (x.toNat : Int) = X at *
          rcases f1 with f1 | ⟨f1, f2⟩
          · go_wp2_with fail
            go_ret2
            exact ⟨by rw [hN.out]; rfl, hS.out.bel⟩
          · go_wp2_with fail
            go_ret2
            exact ⟨by rw [hN.out]; rfl, hS.out.bel⟩
      · have hlt' : decide ((k : Int) < (n : Int)) = false := by simp; omega
        have hN := Lib.hid (hS.out.done (by have := hnn.out; omega) hno.out)
        go_wp2_with fail
        go_ret2
        exact ⟨by rw [hN.out]; rfl, hS.out.bel⟩
theorem cnt_sound {d : Bs} {v : Int} (h : cntP d = (v, true)) : 0 ≤ v ∧ v < 10000000000 ∧ d = numB v := by
  unfold cntP at h
  split at h
  · cases h
  · rename_i h0
    split at h
    · rename_i hd
      have e : v = (valD d : Nat) := (congrArg Prod.fst h).symm
      have hlt := valD_lt d hd
      have hl : d.length ≤ 10 := by have : ¬ d.length > 10 := fun h => h0 (Or.inr (Or.inl h)); omega
      have h4 : 10 ^ d.length ≤ 10 ^ 10 := Nat.pow_le_pow_right (by decide) hl
      refine ⟨by omega, by omega, ?_⟩
      have hdg : ∀ c ∈ d, 48 ≤ c.toNat ∧ c.toNat ≤ 57 := fun c hc => by
        have := List.all_eq_true.1 hd c hc
        simpa [digC] using this
      cases d with
      | nil => exact absurd (Or.inl rfl) h0
      | cons c r =>
        by_cases hc : c = 48
        · have hr : r = [] := by
            cases r with
            | nil => rfl
            | cons a b => exact absurd (Or.inr (Or.inr ⟨by simpa using hc, by simp⟩)) h0
          subst hr hc
          rw [e]
          rfl
        · have e2 := dg_valD 20 (c :: r) hdg (fun c' r' e' => by
            cases e'
            intro hh
            exact hc (UInt8.toNat_inj.1 hh)) (by omega)
          have hv : v ≠ 0 := by
            intro hv
            rw [show valD (c :: r) = 0 by omega] at e2
            cases e2
          unfold numB
          rw [if_neg hv, if_neg (by omega), e, Int.natAbs_natCast, e2]
    · cases h
theorem cnt_numB {v : Int} (h0 : 0 ≤ v) (h1 : v < 10000000000) : cntP (numB v) = (v, true) := by
  by_cases hv : v = 0
  · subst hv; rfl
  · have e : numB v = dgF 20 v.natAbs := by unfold numB; rw [if_neg hv, if_neg (by omega)]
    have e2 : dgF 20 v.natAbs = dgF 10 v.natAbs := by rw [dg_dec 20 _ (by omega) (by omega), dg_dec 10 _ (by omega) (by omega)]
    have hl := dg_len 10 v.natAbs
    rw [← e2, ← e] at hl
    have hd : (numB v).all digC = true := List.all_eq_true.2 (fun c hc => by
      rw [e] at hc
      have := dg_dig 20 _ c hc
      simpa [digC] using this)
    have hh : (numB v).headD 0 ≠ 48 := by
      cases e3 : numB v with
      | nil => exact absurd e3 numB_nil
      | cons c r =>
        intro hc
        have := dg_head 20 v.natAbs (by omega) c r (by rw [← e, e3])
        simp at hc
        rw [hc] at this
        exact this rfl
    unfold cntP
    rw [if_neg, if_pos hd]
    · have := valD_dg 20 v.natAbs (by omega)
      rw [← e] at this
      rw [this, Int.natAbs_of_nonneg h0]
    · rintro (h | h | ⟨h, _⟩)
      · exact numB_nil h
      · omega
      · exact hh h
/-- what the package's number says -/
def numP (lo hi : Int) (l : Bs) : Int × Bool :=
  if ([45] : Bs).isPrefixOf l = true then
    (if (cntP (l.drop 1)).1 = 0 then (0, false) else (-(cntP (l.drop 1)).1, (cntP (l.drop 1)).2 && decide (lo ≤ -(cntP (l.drop 1)).1) && decide (-(cntP (l.drop 1)).1 ≤ hi)))
  else ((cntP l).1, (cntP l).2 && decide (lo ≤ (cntP l).1) && decide ((cntP l).1 ≤ hi))
theorem num_sound {lo hi n : Int} {l : Bs} (h : numP lo hi l = (n, true)) : lo ≤ n ∧ n ≤ hi ∧ l = numB n := by
  unfold numP at h
  split at h
  · rename_i hp
    obtain ⟨r, rfl⟩ : ∃ r, l = 45 :: r := by
      cases l with
      | nil => cases hp
      | cons c r => simp at hp; exact ⟨r, by rw [hp]⟩
    rw [List.drop_succ_cons, List.drop_zero] at h
    rcases e : cntP r with ⟨v, b⟩
    rw [e] at h
    simp only at h
    split at h
    · cases h
    · rename_i hv
      obtain ⟨h1, h2⟩ := Prod.mk.inj h
      simp only [Bool.and_eq_true, decide_eq_true_eq] at h2
      obtain ⟨⟨hb, h3⟩, h4⟩ := h2
      rw [hb] at e
      obtain ⟨v0, v1, rfl⟩ := cnt_sound e
      refine ⟨by omega, by omega, ?_⟩
      rw [← h1]
      unfold numB
      rw [if_neg hv, if_neg (show ¬ v < 0 by omega), if_neg (show ¬ -v = 0 by omega), if_pos (show -v < 0 by omega), Int.natAbs_neg]
  · rcases e : cntP l with ⟨v, b⟩
    rw [e] at h
    simp only at h
    obtain ⟨h1, h2⟩ := Prod.mk.inj h
    simp only [Bool.and_eq_true, decide_eq_true_eq] at h2
    obtain ⟨⟨hb, h3⟩, h4⟩ := h2
    rw [hb] at e
    obtain ⟨v0, v1, e2⟩ := cnt_sound e
    exact ⟨by omega, by omega, by rw [← h1]; exact e2⟩
theorem num_numB {lo hi n : Int} (h0 : lo ≤ n) (h1 : n ≤ hi) (h2 : -10000000000 < n) (h3 : n < 10000000000) : numP lo hi (numB n) = (n, true) := by
  by_cases hn : n < 0
  · have e : numB n = 45 :: numB (-n) := by
      unfold numB
      rw [if_neg (by omega), if_pos hn, if_neg (by omega), if_neg (by omega), Int.natAbs_neg]
    unfold numP
    rw [e, if_pos (by simp), List.drop_succ_cons, List.drop_zero, cnt_numB (by omega) (by omega)]
    show (if -n = 0 then ((0 : Int), false) else (- -n, true && decide (lo ≤ - -n) && decide (- -n ≤ hi))) = _
    rw [if_neg (by omega), Int.neg_neg, decide_eq_true h0, decide_eq_true h1]
    rfl
  · have hp : ([45] : Bs).isPrefixOf (numB n) = false := by
      have hd : (numB n) ≠ [] := numB_nil
      cases e : numB n with
      | nil => exact absurd e hd
      | cons c r =>
        have := (cnt_numB (v := n) (by omega) h3)
        unfold cntP at this
        split at this
        · cases this
        · split at this
          · rename_i ha
            rw [e, List.all_cons, Bool.and_eq_true] at ha
            have := ha.1
            simp only [digC, Bool.and_eq_true, decide_eq_true_eq] at this
            cases hb : List.isPrefixOf ([45] : Bs) (c :: r) with
            | false => rfl
            | true =>
              simp at hb
              rw [← hb] at this
              exact absurd this.1 (by decide)
          · cases this
    unfold numP
    rw [hp, if_neg (by decide), cnt_numB (by omega) h3]
    show (n, true && decide (lo ≤ n) && decide (n ≤ hi)) = _
    rw [decide_eq_true h0, decide_eq_true h1]
    rfl
theorem cnt_rng (d : Bs) : 0 ≤ (cntP d).1 ∧ (cntP d).1 < 10000000000 := by
  rcases e : cntP d with ⟨v, b⟩
  cases b with
  | true =>
    obtain ⟨h1, h2, _⟩ := cnt_sound e
    exact ⟨h1, h2⟩
  | false =>
    have : v = 0 := by
      unfold cntP at e
      split at e
      · exact (congrArg Prod.fst e).symm
      · split at e
        · cases e
        · exact (congrArg Prod.fst e).symm
    rw [this]
    exact ⟨by decide, by decide⟩
set_option maxHeartbeats 4000000 in
theorem number_c (l : Bs) (lo hi : Int) (hm : l.length ≤ 4611686018427387904) (w : World) :
    Calls Tryd.prog 36 #[.string (bs l), .int .i64 lo, .int .i64 hi] w fun e w' => e = .returned (.tuple #[.int .i64 (numP lo hi l).1, .bool (numP lo hi l).2]) ∧ Below w.heap.size w w' := by
  have CP := Lib.hid (fun w => cutp_c l [45] w)
  unfold numP
  by_cases hp : ([45] : Bs).isPrefixOf l = true
  · have CC := Lib.hid (count_c (l.drop 1) (by rw [List.length_drop]; omega) w)
    have hR := cnt_rng (l.drop 1)
    rw [if_pos hp]
    rw [hp, if_pos rfl, show ([45] : Bs).length = 1 from rfl] at CP
    rcases e : cntP (l.drop 1) with ⟨v, b⟩
    rw [e] at CC hR
    obtain ⟨v0, v1⟩ := hR
    simp only at CC v0 v1
    simp only
    clear e hm hp
    generalize List.drop 1 l = r at *
    by_cases hv : v = 0
    · rw [if_pos hv]
      have f1 : (v == 0) = true := by simpa using hv
      clear hv
      go_enter Tryd.func36, Tryd.ntmps36
      go_wp2_with (first
        | (go_at_call 52; (refine (CP.out _).mono ?_); rintro e w2 ⟨rfl, rfl⟩)
        | (go_at_call 53; (with_reducible refine CC.out.mono ?_); rintro e w2 ⟨rfl, hb⟩))
      go_ret2
      exact ⟨rfl, hb⟩
    · rw [if_neg hv]
      have f1 : (v == 0) = false := by simpa using hv
      have w1 : IntKind.i64.wrap (-v) = -v := IntWalk.i64_in _ (by omega)
      clear hv
      go_enter Tryd.func36, Tryd.ntmps36
      go_upto_region 2 with (go_at_call 52; (refine (CP.out _).mono ?_); rintro e w2 ⟨rfl, rfl⟩)
      cases b with
      | false =>
        go_wp2_with (go_at_call 53; (with_reducible refine CC.out.mono ?_); rintro e w2 ⟨rfl, hb⟩)
        go_ret2
        exact ⟨rfl, hb⟩
      | true =>
        by_cases q1 : lo ≤ -v
        · have d1 : decide (-v ≥ lo) = true := by simpa using q1
          have e1 : Hid (decide (lo ≤ -v) = true) := Lib.hid (by simpa using q1)
          by_cases q2 : -v ≤ hi
          · have d2 : decide (-v ≤ hi) = true := by simpa using q2
            have e2 : Hid (decide (-v ≤ hi) = true) := Lib.hid (by simpa using q2)
            have q1' := Lib.hid q1
            have q2' := Lib.hid q2
            clear q1 q2
            go_wp2_with (go_at_call 53; (with_reducible refine CC.out.mono ?_); rintro e w2 ⟨rfl, hb⟩)
            go_ret2
            exact ⟨by rw [e1.out, e2.out]; rfl, hb⟩
          · have d2 : decide (-v ≤ hi) = false := by simpa using q2
            have e2 : Hid (decide (-v ≤ hi) = false) := Lib.hid (by simpa using q2)
            have q1' := Lib.hid q1
            have q2' := Lib.hid q2
            clear q1 q2
            go_wp2_with (go_at_call 53; (with_reducible refine CC.out.mono ?_); rintro e w2 ⟨rfl, hb⟩)
            go_ret2
            exact ⟨by rw [e1.out, e2.out]; rfl, hb⟩
        · have d1 : decide (-v ≥ lo) = false := by simpa using q1
          have e1 : Hid (decide (lo ≤ -v) = false) := Lib.hid (by simpa using q1)
          have q1' := Lib.hid q1
          clear q1
          go_wp2_with (go_at_call 53; (with_reducible refine CC.out.mono ?_); rintro e w2 ⟨rfl, hb⟩)
          go_ret2
          exact ⟨by rw [e1.out]; rfl, hb⟩
  · have CC := Lib.hid (count_c l hm w)
    have hR := cnt_rng l
    have hp' : ([45] : Bs).isPrefixOf l = false := (Bool.not_eq_true _).mp hp
    rw [if_neg hp]
    rw [hp', if_neg (by decide)] at CP
    rcases e : cntP l with ⟨v, b⟩
    rw [e] at CC hR
    obtain ⟨v0, v1⟩ := hR
    simp only at CC v0 v1
    simp only
    clear e hm hp hp'
    go_enter Tryd.func36, Tryd.ntmps36
    go_upto_region 2 with (go_at_call 52; (refine (CP.out _).mono ?_); rintro e w2 ⟨rfl, rfl⟩)
    cases b with
    | false =>
      go_wp2_with (go_at_call 53; (with_reducible refine CC.out.mono ?_); rintro e w2 ⟨rfl, hb⟩)
      go_ret2
      exact ⟨rfl, hb⟩
    | true =>
      by_cases q1 : lo ≤ v
      · have d1 : decide (v ≥ lo) = true := by simpa using q1
        have e1 : Hid (decide (lo ≤ v) = true) := Lib.hid (by simpa using q1)
        by_cases q2 : v ≤ hi
        · have d2 : decide (v ≤ hi) = true := by simpa using q2
          have e2 : Hid (decide (v ≤ hi) = true) := Lib.hid (by simpa using q2)
          have q1' := Lib.hid q1
          have q2' := Lib.hid q2
          clear q1 q2
          go_wp2_with (go_at_call 53; (with_reducible refine CC.out.mono ?_); rintro e w2 ⟨rfl, hb⟩)
          go_ret2
          exact ⟨by rw [e1.out, e2.out]; rfl, hb⟩
        · have d2 : decide (v ≤ hi) = false := by simpa using q2
          have e2 : Hid (decide (v ≤ hi) = false) := Lib.hid (by simpa using q2)
          have q1' := Lib.hid q1
          have q2' := Lib.hid q2
          clear q1 q2
          go_wp2_with (go_at_call 53; (with_reducible refine CC.out.mono ?_); rintro e w2 ⟨rfl, hb⟩)
          go_ret2
          exact ⟨by rw [e1.out, e2.out]; rfl, hb⟩
      · have d1 : decide (v ≥ lo) = false := by simpa using q1
        have e1 : Hid (decide (lo ≤ v) = false) := Lib.hid (by simpa using q1)
        have q1' := Lib.hid q1
        clear q1
        go_wp2_with (go_at_call 53; (with_reducible refine CC.out.mono ?_); rintro e w2 ⟨rfl, hb⟩)
        go_ret2
        exact ⟨by rw [e1.out]; rfl, hb⟩
end Wd
end Go.Proofs.YtkodnioheifalaaDoor

/- The landed text: literals that are read. -/
namespace Go.Proofs.YtkodnioheifalaaDoor
open Go.RowKit
set_option linter.unusedVariables false
set_option maxRecDepth 20000
namespace Wd
theorem cut1_mem {x : UInt8} : ∀ {l : Bs}, x ∈ l → l = (cut1 x l).1 ++ x :: (cut1 x l).2
  | [], h => by cases h
  | c :: r, h => by
    rw [cut1]
    by_cases e : c = x
    · rw [if_pos e, e]; rfl
    · rw [if_neg e]
      have h' : x ∈ r := by
        rcases List.mem_cons.1 h with h | h
        · exact absurd h.symm e
        · exact h
      exact congrArg (c :: ·) (cut1_mem h')
theorem cut1_no {x : UInt8} : ∀ {l : Bs}, x ∉ l → (cut1 x l).2 = []
  | [], _ => rfl
  | c :: r, h => by
    rw [cut1, if_neg (fun e => h (by rw [e]; simp))]
    exact cut1_no (fun h' => h (by simp [h']))
theorem cut1_le {x : UInt8} : ∀ (l : Bs), (cut1 x l).1.length ≤ l.length ∧ (cut1 x l).2.length ≤ l.length
  | [] => by simp [cut1]
  | c :: r => by
    have := cut1_le (x := x) r
    rw [cut1]
    split
    · simp
    · simp; omega
theorem num_nil {lo hi n : Int} {l : Bs} (h : numP lo hi l = (n, true)) : l ≠ [] := by
  rw [(num_sound h).2.2]
  exact numB_nil
/-- what the package's Value says -/
def valP (l : Bs) : (Int × Int) × Bool :=
  if (numP (-1073741824) 1073741823 (cut1 32 l).2).2 = false then ((0, 0), false)
  else if (cut1 32 l).1 = knd 3 then ((3, (numP (-1073741824) 1073741823 (cut1 32 l).2).1), true)
  else if (cut1 32 l).1 = knd 5 then ((5, (numP (-1073741824) 1073741823 (cut1 32 l).2).1), true)
  else if (cut1 32 l).1 = knd 6 then ((6, (numP (-1073741824) 1073741823 (cut1 32 l).2).1), true)
  else if (cut1 32 l).1 = knd 7 then ((7, (numP (-1073741824) 1073741823 (cut1 32 l).2).1), true)
  else ((0, 0), false)
theorem val_sound {l : Bs} {v : Int × Int} (h : valP l = (v, true)) : valR l = some v := by
  unfold valP at h
  rcases e : numP (-1073741824) 1073741823 (cut1 32 l).2 with ⟨n, b⟩
  rw [e] at h
  cases b with
  | false => cases h
  | true =>
    rw [if_neg (by simp)] at h
    obtain ⟨h1, h2, h3⟩ := num_sound e
    have hm : (32 : UInt8) ∈ l := by
      by_cases hm : (32 : UInt8) ∈ l
      · exact hm
      · exact absurd (cut1_no hm) (num_nil e)
    have hl := cut1_mem hm
    have key : ∀ k, knd k ≠ [] → (cut1 32 l).1 = knd k → valR l = some (k, n) := fun k hk ek => valR_iff.2 ⟨goV_iff.2 ⟨hk, h1, h2⟩, by unfold litB; rw [if_neg hk]; rw [hl, ek, h3]⟩
    split at h
    · rename_i hk; rw [key 3 (by decide) hk]; exact congrArg (fun x : (Int × Int) × Bool => some x.1) h
    · split at h
      · rename_i hk; rw [key 5 (by decide) hk]; exact congrArg (fun x : (Int × Int) × Bool => some x.1) h
      · split at h
        · rename_i hk; rw [key 6 (by decide) hk]; exact congrArg (fun x : (Int × Int) × Bool => some x.1) h
        · split at h
          · rename_i hk; rw [key 7 (by decide) hk]; exact congrArg (fun x : (Int × Int) × Bool => some x.1) h
          · cases h
theorem val_zero {l : Bs} {v : Int × Int} (h : valP l = (v, false)) : v = (0, 0) := by
  unfold valP at h
  split at h
  · exact (congrArg Prod.fst h).symm
  · split at h
    · cases h
    · split at h
      · cases h
      · split at h
        · cases h
        · split at h
          · cases h
          · exact (congrArg Prod.fst h).symm
theorem val_eq (l : Bs) : valP l = match valR l with | some v => (v, true) | none => ((0, 0), false) := by
  cases e : valR l with
  | some v =>
    obtain ⟨h1, h2⟩ := valR_iff.1 e
    obtain ⟨hk, h3, h4⟩ := goV_iff.1 h1
    have hc := cut_lit hk []
    rw [List.append_nil, List.append_nil, ← h2] at hc
    have hn := num_numB h3 h4 (by omega) (by omega)
    unfold valP
    rw [hc, hn]
    obtain ⟨k, n⟩ := v
    rcases knd_some hk with rfl | rfl | rfl | rfl <;> rfl
  | none =>
    rcases e2 : valP l with ⟨v, b⟩
    cases b with
    | true => rw [val_sound e2] at e; cases e
    | false => rw [val_zero e2]
theorem idx4 : (∀ w, (Instr.index 83 (.agg #[.int .i64 3, .int .i64 5, .int .i64 6, .int .i64 7]) (.int .i64 0)).run Tryd.prog w = .ok (.int .i64 3) w) ∧ (∀ w, (Instr.index 83 (.agg #[.int .i64 3, .int .i64 5, .int .i64 6, .int .i64 7]) (.int .i64 1)).run Tryd.prog w = .ok (.int .i64 5) w) ∧ (∀ w, (Instr.index 83 (.agg #[.int .i64 3, .int .i64 5, .int .i64 6, .int .i64 7]) (.int .i64 2)).run Tryd.prog w = .ok (.int .i64 6) w) ∧ (∀ w, (Instr.index 83 (.agg #[.int .i64 3, .int .i64 5, .int .i64 6, .int .i64 7]) (.int .i64 3)).run Tryd.prog w = .ok (.int .i64 7) w) := ⟨fun w => by kernel_rfl, fun w => by kernel_rfl, fun w => by kernel_rfl, fun w => by kernel_rfl⟩
set_option maxHeartbeats 4000000 in
theorem value_c (l : Bs) (hm : l.length ≤ 4611686018427387904) (w : World) :
    Calls Tryd.prog 18 #[.string (bs l)] w fun e w' => e = .returned (.tuple #[.agg #[.int .i64 (valP l).1.1, .int .i64 (valP l).1.2], .bool (valP l).2]) ∧ Below w.heap.size w w' := by
  have C1 := Lib.hid (fun w => cut_c l 32 hm w)
  have C2 := Lib.hid (fun w => number_c (cut1 32 l).2 (-1073741824) 1073741823 (by have := (cut1_le (x := 32) l).2; omega) w)
  unfold valP
  generalize cut1 32 l = c at *
  obtain ⟨W, D⟩ := c
  simp only at C1 C2 ⊢
  generalize numP (-1073741824) 1073741823 D = c at *
  obtain ⟨n, b⟩ := c
  simp only at C1 C2 ⊢
  generalize hA : (if b = false then ((0, 0), false) else if W = knd 3 then ((3, n), true) else if W = knd 5 then ((5, n), true) else if W = knd 6 then ((6, n), true) else if W = knd 7 then ((7, n), true) else (((0 : Int), (0 : Int)), false)) = A
  replace hA := Lib.hid hA
  go_enter Tryd.func18, Tryd.ntmps18
  have S0 : Hid ((w.alloc (.cells #[.int .i64 0, .int .i64 0] 49)).heap[w.heap.size]? = some (.cells #[.int .i64 0, .int .i64 0] 49 (0, 0)) ∧ Below w.heap.size w (w.alloc (.cells #[.int .i64 0, .int .i64 0] 49))) := Lib.hid ⟨heap_alloc_new w _, (Below.refl _ _).alloc (Nat.le_refl _) _⟩
  go_upto_region 3 with (first
        | (go_at_call 26; (refine (C1.out _).mono ?_); rintro e y2 ⟨rfl, hb⟩)
        | (go_at_call 36; (with_reducible refine (C2.out _).mono ?_); rintro e y3 ⟨rfl, hb2⟩))
  have hS : Hid (y3.heap[w.heap.size]? = some (.cells #[.int .i64 0, .int .i64 0] 49 (0, 0)) ∧ Below w.heap.size w y3) := by
    obtain ⟨h1, h2⟩ := S0.out
    have h3 := hb.trans (hb2.mono hb.size)
    exact Lib.hid ⟨(h3.block _ (by simp)).trans h1, h2.trans (h3.mono h2.size)⟩
  clear S0 hb hb2 C1 C2
  obtain ⟨hh, hw⟩ := hS.out
  have x0 : y3.cell? ⟨w.heap.size, 0, none⟩ = some (.int .i64 0) := by rw [Lib.cell_of_heap hh]; rfl
  have x1 : y3.cell? ⟨w.heap.size, 1, none⟩ = some (.int .i64 0) := by rw [Lib.cell_of_heap hh]; rfl
  have f0 : y3.frozen? ⟨w.heap.size, 0, none⟩ = false := Lib.frozen_of_heap hh 0
  have f1 : y3.frozen? ⟨w.heap.size, 1, none⟩ = false := Lib.frozen_of_heap hh 1
  replace hw := Lib.hid hw
  clear hh
  cases b with
  | false =>
    obtain rfl : A = ((0, 0), false) := hA.out.symm
    go_wp2_with fail
    obtain ⟨r0, r1⟩ := two_at (v0 := .int .i64 0) (v1 := .int .i64 0) x0 x1
    refine bodyPost_ret (by simp [results, Tryd.results18, go_sem, r0, r1]; try rfl) rfl ?_
    exact ⟨rfl, (hw.out.setCell (Nat.le_refl _) (p := ⟨w.heap.size, 0, none⟩) _).setCell (Nat.le_refl _) (p := ⟨w.heap.size, 1, none⟩) _⟩
  | true =>
    have hA' := Lib.hid ((if_neg (by decide)).symm.trans hA.out)
    have K3 := Lib.hid (fun w => ktext_c 3 w)
    have K5 := Lib.hid (fun w => ktext_c 5 w)
    have K6 := Lib.hid (fun w => ktext_c 6 w)
    have K7 := Lib.hid (fun w => ktext_c 7 w)
    have IX := Lib.hid idx4
    by_cases h3 : W = knd 3
    · obtain rfl : A = ((3, n), true) := by rw [← hA'.out, if_pos h3]
      have g3 : ((bs W).toList == (bs (knd 3)).toList) = true := bl_eq (by rw [h3])
      have z0 := IX.out.1
      clear IX hA hA' h3
      generalize knd 3 = X3 at *
      generalize knd 5 = X5 at *
      generalize knd 6 = X6 at *
      generalize knd 7 = X7 at *
      go_wp2_with fail
      refine wp_loop_rounds 6 ?_
      rw [rounds_succ]
      go_wp2_with (go_at_call 35; (with_reducible refine (K3.out _).mono ?_); rintro e y9 ⟨rfl, rfl⟩)
      obtain ⟨r0, r1⟩ := two_at (v0 := .int .i64 3) (v1 := .int .i64 n) x0 x1
      refine bodyPost_ret (by simp [results, Tryd.results18, go_sem, r0, r1]; try rfl) rfl ?_
      exact ⟨rfl, (hw.out.setCell (Nat.le_refl _) (p := ⟨w.heap.size, 0, none⟩) _).setCell (Nat.le_refl _) (p := ⟨w.heap.size, 1, none⟩) _⟩
    by_cases h5 : W = knd 5
    · obtain rfl : A = ((5, n), true) := by rw [← hA'.out, if_neg h3, if_pos h5]
      have g3 : ((bs W).toList == (bs (knd 3)).toList) = false := bl_ne (fun e => h3 (bs_inj e))
      have g5 : ((bs W).toList == (bs (knd 5)).toList) = true := bl_eq (by rw [h5])
      have z0 := IX.out.1
      have z1 := IX.out.2.1
      clear IX hA hA' h3 h5
      generalize knd 3 = X3 at *
      generalize knd 5 = X5 at *
      generalize knd 6 = X6 at *
      generalize knd 7 = X7 at *
      go_wp2_with fail
      refine wp_loop_rounds 6 ?_
      rw [rounds_succ]
      go_wp2_with (go_at_call 35; (with_reducible refine (K3.out _).mono ?_); rintro e y9 ⟨rfl, rfl⟩)
      rw [rounds_succ]
      go_wp2_with (go_at_call 35; (with_reducible refine (K5.out _).mono ?_); rintro e y9 ⟨rfl, rfl⟩)
      obtain ⟨r0, r1⟩ := two_at (v0 := .int .i64 5) (v1 := .int .i64 n) x0 x1
      refine bodyPost_ret (by simp [results, Tryd.results18, go_sem, r0, r1]; try rfl) rfl ?_
      exact ⟨rfl, (hw.out.setCell (Nat.le_refl _) (p := ⟨w.heap.size, 0, none⟩) _).setCell (Nat.le_refl _) (p := ⟨w.heap.size, 1, none⟩) _⟩
    by_cases h6 : W = knd 6
    · obtain rfl : A = ((6, n), true) := by rw [← hA'.out, if_neg h3, if_neg h5, if_pos h6]
      have g3 : ((bs W).toList == (bs (knd 3)).toList) = false := bl_ne (fun e => h3 (bs_inj e))
      have g5 : ((bs W).toList == (bs (knd 5)).toList) = false := bl_ne (fun e => h5 (bs_inj e))
      have g6 : ((bs W).toList == (bs (knd 6)).toList) = true := bl_eq (by rw [h6])
      have z0 := IX.out.1
      have z1 := IX.out.2.1
      have z2 := IX.out.2.2.1
      clear IX hA hA' h3 h5 h6
      generalize knd 3 = X3 at *
      generalize knd 5 = X5 at *
      generalize knd 6 = X6 at *
      generalize knd 7 = X7 at *
      go_wp2_with fail
      refine wp_loop_rounds 6 ?_
      rw [rounds_succ]
      go_wp2_with (go_at_call 35; (with_reducible refine (K3.out _).mono ?_); rintro e y9 ⟨rfl, rfl⟩)
      rw [rounds_succ]
      go_wp2_with (go_at_call 35; (with_reducible refine (K5.out _).mono ?_); rintro e y9 ⟨rfl, rfl⟩)
      rw [rounds_succ]
      go_wp2_with (go_at_call 35; (with_reducible refine (K6.out _).mono ?_); rintro e y9 ⟨rfl, rfl⟩)
      obtain ⟨r0, r1⟩ := two_at (v0 := .int .i64 6) (v1 := .int .i64 n) x0 x1
      refine bodyPost_ret (by simp [results, Tryd.results18, go_sem, r0, r1]; try rfl) rfl ?_
      exact ⟨rfl, (hw.out.setCell (Nat.le_refl _) (p := ⟨w.heap.size, 0, none⟩) _).setCell (Nat.le_refl _) (p := ⟨w.heap.size, 1, none⟩) _⟩
    by_cases h7 : W = knd 7
    · obtain rfl : A = ((7, n), true) := by rw [← hA'.out, if_neg h3, if_neg h5, if_neg h6, if_pos h7]
      have g3 : ((bs W).toList == (bs (knd 3)).toList) = false := bl_ne (fun e => h3 (bs_inj e))
      have g5 : ((bs W).toList == (bs (knd 5)).toList) = false := bl_ne (fun e => h5 (bs_inj e))
      have g6 : ((bs W).toList == (bs (knd 6)).toList) = false := bl_ne (fun e => h6 (bs_inj e))
      have g7 : ((bs W).toList == (bs (knd 7)).toList) = true := bl_eq (by rw [h7])
      have z0 := IX.out.1
      have z1 := IX.out.2.1
      have z2 := IX.out.2.2.1
      have z3 := IX.out.2.2.2
      clear IX hA hA' h3 h5 h6 h7
      generalize knd 3 = X3 at *
      generalize knd 5 = X5 at *
      generalize knd 6 = X6 at *
      generalize knd 7 = X7 at *
      go_wp2_with fail
      refine wp_loop_rounds 6 ?_
      rw [rounds_succ]
      go_wp2_with (go_at_call 35; (with_reducible refine (K3.out _).mono ?_); rintro e y9 ⟨rfl, rfl⟩)
      rw [rounds_succ]
      go_wp2_with (go_at_call 35; (with_reducible refine (K5.out _).mono ?_); rintro e y9 ⟨rfl, rfl⟩)
      rw [rounds_succ]
      go_wp2_with (go_at_call 35; (with_reducible refine (K6.out _).mono ?_); rintro e y9 ⟨rfl, rfl⟩)
      rw [rounds_succ]
      go_wp2_with (go_at_call 35; (with_reducible refine (K7.out _).mono ?_); rintro e y9 ⟨rfl, rfl⟩)
      obtain ⟨r0, r1⟩ := two_at (v0 := .int .i64 7) (v1 := .int .i64 n) x0 x1
      refine bodyPost_ret (by simp [results, Tryd.results18, go_sem, r0, r1]; try rfl) rfl ?_
      exact ⟨rfl, (hw.out.setCell (Nat.le_refl _) (p := ⟨w.heap.size, 0, none⟩) _).setCell (Nat.le_refl _) (p := ⟨w.heap.size, 1, none⟩) _⟩
    have g3 : ((bs W).toList == (bs (knd 3)).toList) = false := bl_ne (fun e => h3 (bs_inj e))
    have g5 : ((bs W).toList == (bs (knd 5)).toList) = false := bl_ne (fun e => h5 (bs_inj e))
    have g6 : ((bs W).toList == (bs (knd 6)).toList) = false := bl_ne (fun e => h6 (bs_inj e))
    have g7 : ((bs W).toList == (bs (knd 7)).toList) = false := bl_ne (fun e => h7 (bs_inj e))
    obtain rfl : A = ((0, 0), false) := by rw [← hA'.out, if_neg h3, if_neg h5, if_neg h6, if_neg h7]
    have z0 := IX.out.1
    have z1 := IX.out.2.1
    have z2 := IX.out.2.2.1
    have z3 := IX.out.2.2.2
    clear IX hA hA' h3 h5 h6 h7
    generalize knd 3 = X3 at *
    generalize knd 5 = X5 at *
    generalize knd 6 = X6 at *
    generalize knd 7 = X7 at *
    go_wp2_with fail
    refine wp_loop_rounds 6 ?_
    rw [rounds_succ]
    go_wp2_with (go_at_call 35; (with_reducible refine (K3.out _).mono ?_); rintro e y9 ⟨rfl, rfl⟩)
    rw [rounds_succ]
    go_wp2_with (go_at_call 35; (with_reducible refine (K5.out _).mono ?_); rintro e y9 ⟨rfl, rfl⟩)
    rw [rounds_succ]
    go_wp2_with (go_at_call 35; (with_reducible refine (K6.out _).mono ?_); rintro e y9 ⟨rfl, rfl⟩)
    rw [rounds_succ]
    go_wp2_with (go_at_call 35; (with_reducible refine (K7.out _).mono ?_); rintro e y9 ⟨rfl, rfl⟩)
    rw [rounds_succ]
    go_wp2_with fail
    obtain ⟨r0, r1⟩ := two_at (v0 := .int .i64 0) (v1 := .int .i64 0) x0 x1
    refine bodyPost_ret (by simp [results, Tryd.results18, go_sem, r0, r1]; try rfl) rfl ?_
    exact ⟨rfl, (hw.out.setCell (Nat.le_refl _) (p := ⟨w.heap.size, 0, none⟩) _).setCell (Nat.le_refl _) (p := ⟨w.heap.size, 1, none⟩) _⟩
end Wd
end Go.Proofs.YtkodnioheifalaaDoor

/- The landed text: ops and arguments that are read. -/
namespace Go.Proofs.YtkodnioheifalaaDoor
open Go.RowKit
set_option linter.unusedVariables false
set_option maxRecDepth 20000
namespace Wd
/-- what follows a prefix, as strings.CutPrefix answers -/
def cpx (p l : Bs) : Bs := if p.isPrefixOf l = true then l.drop p.length else l
theorem pre_eq : ∀ {p l : Bs}, p.isPrefixOf l = true → l = p ++ l.drop p.length
  | [], l, _ => by simp
  | c :: p, [], h => by cases h
  | c :: p, d :: l, h => by
    simp only [List.isPrefixOf, Bool.and_eq_true, beq_iff_eq] at h
    rw [List.length_cons, List.drop_succ_cons, List.cons_append, ← pre_eq h.2, h.1]
theorem pre_app (p l : Bs) : p.isPrefixOf (p ++ l) = true := by
  induction p with
  | nil => simp [List.isPrefixOf]
  | cons c p ih => simp [ih]
theorem cpx_le (p l : Bs) : (cpx p l).length ≤ l.length := by
  unfold cpx
  split
  · rw [List.length_drop]; omega
  · exact Nat.le_refl _
/-- what the package's opOf says -/
def opP (W : Bs) : Int × Bool :=
  if W = [] then (0, false)
  else match opL.findIdx? (fun x => decide (x = W)) with
    | some k => ((k : Int), true)
    | none => ((numP 0 255 (cpx [111, 112] W)).1, (([111, 112] : Bs).isPrefixOf W && (numP 0 255 (cpx [111, 112] W)).2) && !decide (0 ≤ (numP 0 255 (cpx [111, 112] W)).1 ∧ (numP 0 255 (cpx [111, 112] W)).1 ≤ 21))
theorem find_some {W : Bs} {k : Nat} (h : opL.findIdx? (fun x => decide (x = W)) = some k) : k < 22 ∧ opB (k : Int) = W := by
  obtain ⟨h1, h2, _⟩ := List.findIdx?_eq_some_iff_getElem.1 h
  have h1' : k < 22 := h1
  refine ⟨h1', ?_⟩
  unfold opB
  rw [if_pos (by omega), Int.toNat_natCast, List.getD_eq_getElem?_getD, List.getElem?_eq_getElem h1]
  simpa using h2
theorem op_sound {W : Bs} {o : Int} (h : opP W = (o, true)) : (0 ≤ o ∧ o ≤ 255) ∧ W = opB o := by
  unfold opP at h
  split at h
  · cases h
  · split at h
    · rename_i k hk
      obtain ⟨h1, h2⟩ := find_some hk
      have e : (k : Int) = o := congrArg Prod.fst h
      rw [← e]
      exact ⟨⟨by omega, by omega⟩, h2.symm⟩
    · have e1 := congrArg Prod.fst h
      have e2 := congrArg Prod.snd h
      simp only at e1 e2
      rw [e1] at e2
      simp only [Bool.and_eq_true] at e2
      obtain ⟨⟨hp, hn⟩, h21⟩ := e2
      have hN : numP 0 255 (cpx [111, 112] W) = (o, true) := by
        rw [← e1, ← hn]
      obtain ⟨h1, h2, h3⟩ := num_sound hN
      refine ⟨⟨h1, h2⟩, ?_⟩
      rw [(nam_no (p := o) (by have h9 := h21; simp at h9; omega)).2, ← h3, pre_eq hp]
      unfold cpx
      rw [pre_app, if_pos rfl]
      rfl
theorem op_opB {o : Int} (h : 0 ≤ o ∧ o ≤ 255) : opP (opB o) = (o, true) := by
  have key : ∀ k : _root_.Fin 256, opP (opB (k.1 : Int)) = ((k.1 : Int), true) := by decide +kernel
  obtain ⟨k, rfl⟩ : ∃ k : Nat, o = k := ⟨o.toNat, by omega⟩
  exact key ⟨k, by omega⟩
def argP (o : Int) (D : Bs) : Int × Bool := if o = 7 then numP (-128) 127 D else numP 0 255 D
/-- what the package's readInst reads -/
def inP (l : Bs) : Option (Int × Int) :=
  if (([32, 32] : Bs).isPrefixOf l && (opP (cut1 32 (cpx [32, 32] l)).1).2) = true then
    (if (argP (opP (cut1 32 (cpx [32, 32] l)).1).1 (cut1 32 (cpx [32, 32] l)).2).2 = true then some ((opP (cut1 32 (cpx [32, 32] l)).1).1, (argP (opP (cut1 32 (cpx [32, 32] l)).1).1 (cut1 32 (cpx [32, 32] l)).2).1 % 256) else none)
  else none
theorem arg_sound {o a : Int} {D : Bs} (h : argP o D = (a, true)) : (0 ≤ a % 256 ∧ a % 256 ≤ 255) ∧ sgn o (a % 256) = a ∧ D = numB a := by
  unfold argP at h
  split at h
  · rename_i h7
    obtain ⟨h1, h2, h3⟩ := num_sound h
    refine ⟨⟨by omega, by omega⟩, ?_, h3⟩
    unfold sgn
    by_cases hx : 128 ≤ a % 256
    · rw [if_pos ⟨h7, hx⟩]; omega
    · rw [if_neg (fun x => hx x.2)]; omega
  · rename_i h7
    obtain ⟨h1, h2, h3⟩ := num_sound h
    refine ⟨⟨by omega, by omega⟩, ?_, h3⟩
    unfold sgn
    rw [if_neg (fun x => h7 x.1)]; omega
theorem arg_numB {o a : Int} (h : 0 ≤ a ∧ a ≤ 255) : argP o (numB (sgn o a)) = (sgn o a, true) ∧ sgn o a % 256 = a := by
  unfold argP
  by_cases h7 : o = 7
  · rw [if_pos h7]
    unfold sgn
    by_cases hx : 128 ≤ a
    · rw [if_pos ⟨h7, hx⟩]
      exact ⟨num_numB (by omega) (by omega) (by omega) (by omega), by omega⟩
    · rw [if_neg (fun x => hx x.2)]
      exact ⟨num_numB (by omega) (by omega) (by omega) (by omega), by omega⟩
  · rw [if_neg h7]
    unfold sgn
    rw [if_neg (fun x => h7 x.1)]
    exact ⟨num_numB (by omega) (by omega) (by omega) (by omega), by omega⟩
theorem arg_nil {o a : Int} {D : Bs} (h : argP o D = (a, true)) : D ≠ [] := by
  rw [(arg_sound h).2.2]; exact numB_nil
theorem in_eq (l : Bs) : inP l = ixR l := by
  cases e : ixR l with
  | some v =>
    obtain ⟨o, a⟩ := v
    obtain ⟨h1, h2, rfl⟩ := ixR_iff.1 e
    have hc : cpx [32, 32] (ixL o a) = opB o ++ 32 :: numB (sgn o a) := by
      unfold cpx
      rw [show ixL o a = [32, 32] ++ (opB o ++ 32 :: numB (sgn o a)) from by simp [ixL], pre_app, if_pos rfl]
      rfl
    have hp : ([32, 32] : Bs).isPrefixOf (ixL o a) = true := by
      rw [show ixL o a = [32, 32] ++ (opB o ++ 32 :: numB (sgn o a)) from by simp [ixL], pre_app]
    have hn := cut1_app 32 (opB o) (numB (sgn o a)) (opB_no (by decide))
    obtain ⟨h3, h4⟩ := arg_numB (o := o) h2
    unfold inP
    rw [hc, hn, hp, op_opB h1]
    simp only
    rw [h3, if_pos (by rfl), if_pos rfl, h4]
  | none =>
    cases e2 : inP l with
    | none => rfl
    | some v =>
      exfalso
      unfold inP at e2
      split at e2
      · rename_i hh
        simp only [Bool.and_eq_true] at hh
        obtain ⟨hp, ho⟩ := hh
        split at e2
        · rename_i ha
          rcases eo : opP (cut1 32 (cpx [32, 32] l)).1 with ⟨o, bo⟩
          rw [eo] at ho ha
          simp only at ho ha
          rw [ho] at eo
          rcases ea : argP o (cut1 32 (cpx [32, 32] l)).2 with ⟨a, ba⟩
          rw [ea] at ha
          simp only at ha
          rw [ha] at ea
          obtain ⟨o1, o2⟩ := op_sound eo
          obtain ⟨a1, a2, a3⟩ := arg_sound ea
          have hm : (32 : UInt8) ∈ cpx [32, 32] l := by
            by_cases hm : (32 : UInt8) ∈ cpx [32, 32] l
            · exact hm
            · exact absurd (cut1_no hm) (arg_nil ea)
          have hl := cut1_mem hm
          rw [o2, a3] at hl
          have : l = ixL o (a % 256) := by
            rw [pre_eq hp]
            unfold cpx at hl
            rw [hp, if_pos rfl] at hl
            rw [hl]
            unfold ixL
            rw [a2]
            rfl
          rw [ixR_iff.2 ⟨o1, a1, this⟩] at e
          cases e
        · cases e2
      · cases e2
end Wd
end Go.Proofs.YtkodnioheifalaaDoor

/- The landed text: ops and arguments that are read: the walks. -/
namespace Go.Proofs.YtkodnioheifalaaDoor
open Go.RowKit
set_option linter.unusedVariables false
set_option maxRecDepth 20000
namespace Wd
def OpI (W : Bs) (k : Nat) : Prop := ∀ j : Nat, j < k → ¬ namR (j : Int) = bs W
theorem OpI.step {W : Bs} {k : Nat} (h : OpI W k) (h2 : ¬ namR (k : Int) = bs W) : OpI W (k + 1) := fun j hj => by
  by_cases e : j = k
  · rw [e]; exact h2
  · exact h j (by omega)
theorem nam_at22 {j : Nat} (h : j < opL.length) : namR (j : Int) = bs opL[j] := by
  have h' : j < 22 := h
  rw [(nam_op (p := (j : Int)) (by omega)).1]
  unfold opB
  rw [if_pos (by omega), Int.toNat_natCast, List.getD_eq_getElem?_getD, List.getElem?_eq_getElem h]
  rfl
theorem find_at {W : Bs} {k : Nat} (hI : OpI W k) (h : namR (k : Int) = bs W) (hW : W ≠ []) : opL.findIdx? (fun x => decide (x = W)) = some k := by
  have hk : k < opL.length := by
    show k < 22
    by_cases hk : k < 22
    · exact hk
    · rw [(nam_no (p := (k : Int)) (by omega)).1] at h
      exact absurd (bs_inj h).symm hW
  refine List.findIdx?_eq_some_iff_getElem.2 ⟨hk, ?_, fun j hj => ?_⟩
  · rw [nam_at22 hk] at h
    simpa using bs_inj h
  · have := hI j hj
    rw [nam_at22 (by omega)] at this
    simp
    exact fun e => this (by rw [e])
theorem find_none {W : Bs} (hI : OpI W 256) : opL.findIdx? (fun x => decide (x = W)) = none := by
  rw [List.findIdx?_eq_none_iff]
  intro x hx
  obtain ⟨j, hj, rfl⟩ := List.getElem_of_mem hx
  have hj' : j < 22 := hj
  have := hI j (by omega)
  rw [nam_at22 hj] at this
  simp
  exact fun e => this (by rw [e])
set_option maxHeartbeats 4000000 in
theorem argof_c (o : Int) (D : Bs) (hm : D.length ≤ 4611686018427387904) (w : World) :
    Calls Tryd.prog 57 #[.int .i64 o, .string (bs D)] w fun e w' => e = .returned (.tuple #[.int .i64 (argP o D).1, .bool (argP o D).2]) ∧ Below w.heap.size w w' := by
  unfold argP
  by_cases h : o = 7
  · rw [if_pos h]
    have C := Lib.hid (number_c D (-128) 127 hm w)
    subst h
    go_enter Tryd.func57, Tryd.ntmps57
    go_wp2_with (go_at_call 36; (with_reducible refine C.out.mono ?_); rintro e w2 ⟨rfl, hb⟩)
    go_ret2
    exact ⟨rfl, hb⟩
  · rw [if_neg h]
    have C := Lib.hid (number_c D 0 255 hm w)
    have f : (o == 7) = false := by simpa using h
    go_enter Tryd.func57, Tryd.ntmps57
    go_wp2_with (go_at_call 36; (with_reducible refine C.out.mono ?_); rintro e w2 ⟨rfl, hb⟩)
    go_ret2
    exact ⟨rfl, hb⟩
set_option maxHeartbeats 8000000 in
theorem opof_c (W : Bs) (hm : W.length ≤ 4611686018427387904) (w : World) :
    Calls Tryd.prog 56 #[.string (bs W)] w fun e w' => e = .returned (.tuple #[.int .i64 (opP W).1, .bool (opP W).2]) ∧ Below w.heap.size w w' := by
  by_cases hW : W = []
  · subst hW
    have g := bs_em
    go_enter Tryd.func56, Tryd.ntmps56
    go_wp2_with fail
    go_ret2
    exact ⟨rfl, Below.refl _ _⟩
  have g := bs_nem hW
  have hB := Lib.hid (Below.refl w.heap.size w)
  have hI0 : Hid (OpI W 0) := Lib.hid (fun j hj => by omega)
  have hW' := Lib.hid hW
  have CP := Lib.hid (fun w => cutp_c W [111, 112] w)
  have CN := Lib.hid (fun w => number_c (cpx [111, 112] W) 0 255 (by have := cpx_le [111, 112] W; omega) w)
  have hn9 : Hid ((numP 0 255 (cpx [111, 112] W)).2 = true → 0 ≤ (numP 0 255 (cpx [111, 112] W)).1 ∧ (numP 0 255 (cpx [111, 112] W)).1 ≤ 255) := Lib.hid (fun h => by
    have := num_sound (lo := 0) (hi := 255) (l := cpx [111, 112] W) (n := (numP 0 255 (cpx [111, 112] W)).1) (by rw [← h])
    exact ⟨this.1, this.2.1⟩)
  have hP : Hid (∀ x, x = opP W → opL.findIdx? (fun x => decide (x = W)) = none → x = ((numP 0 255 (cpx [111, 112] W)).1, (([111, 112] : Bs).isPrefixOf W && (numP 0 255 (cpx [111, 112] W)).2) && !decide (0 ≤ (numP 0 255 (cpx [111, 112] W)).1 ∧ (numP 0 255 (cpx [111, 112] W)).1 ≤ 21))) := Lib.hid (fun x hx h => by rw [hx]; unfold opP; rw [if_neg hW, h])
  have hP2 : Hid (∀ k : Nat, opL.findIdx? (fun x => decide (x = W)) = some k → opP W = ((k : Int), true)) := Lib.hid (fun k h => by unfold opP; rw [if_neg hW, h])
  obtain ⟨A, hA⟩ : ∃ A, A = opP W := ⟨_, rfl⟩
  rw [← hA]
  replace hA := Lib.hid hA
  change Hid (∀ w, Calls _ _ _ _ (fun e w' => e = .returned (.tuple #[.string (bs (cpx [111, 112] W)), .bool (([111, 112] : Bs).isPrefixOf W)]) ∧ w' = w)) at CP
  generalize cpx [111, 112] W = D at *
  generalize numP 0 255 D = c at *
  obtain ⟨n, bn⟩ := c
  simp only at CN hn9 hP
  generalize hpp : ([111, 112] : Bs).isPrefixOf W = bp at *
  clear hpp hm hW
  go_enter Tryd.func56, Tryd.ntmps56
  go_wp2_with fail
  go_loopw [11] (fun i wr => ∃ (k : Nat), k ≤ 256 ∧ i = .int .i64 k ∧ Hid (OpI W k) ∧ Hid (Below w.heap.size w wr)) (fun i _ => 256 - (intOf i).toNat)
  case atStart => exact ⟨0, by omega, rfl, hI0, hB⟩
  case round =>
    clear hI0 hB
    obtain ⟨k, hk, rfl, hI, hB⟩ := hrel
    by_cases hlt : k < 256
    · have hlt' : decide ((k : Int) < 256) = true := by simp; omega
      have KN := Lib.hid (kname_c (k : Int) ⟨by omega, by omega⟩ wr)
      by_cases hn : namR (k : Int) = bs W
      · have f : ((namR (k : Int)).toList == (bs W).toList) = true := bl_eq hn
        have e := Lib.hid (hP2.out k (find_at hI.out hn hW'.out))
        obtain rfl := hA.out
        clear hn hA
        generalize namR (k : Int) = X at *
        go_wp2_with (go_at_call 51; (with_reducible refine KN.out.mono ?_); rintro e w2 ⟨rfl, hb⟩)
        go_ret2
        exact ⟨by rw [e.out]; rfl, hB.out.trans (hb.mono hB.out.size)⟩
      · have f : ((namR (k : Int)).toList == (bs W).toList) = false := bl_ne hn
        have hI2 := Lib.hid (hI.out.step hn)
        clear hn hA
        generalize namR (k : Int) = X at *
        go_wp2_with (go_at_call 51; (with_reducible refine KN.out.mono ?_); rintro e w2 ⟨rfl, hb⟩)
        go_roundw
        case rel => exact ⟨k + 1, by omega, by go_num, hI2, Lib.hid (hB.out.trans (hb.mono hB.out.size))⟩
        case measure => simp [intOf]; omega
    · have hlt' : decide ((k : Int) < 256) = false := by simp; omega
      obtain rfl : k = 256 := by omega
      have eA := Lib.hid (hP.out A hA.out (find_none hI.out))
      clear hP hP2 hA hI
      cases bp with
      | false =>
        go_wp2_with (first
          | (go_at_call 52; (refine (CP.out _).mono ?_); rintro e w2 ⟨rfl, rfl⟩)
          | (go_at_call 36; (with_reducible refine (CN.out _).mono ?_); rintro e w3 ⟨rfl, hb⟩))
        go_ret2
        exact ⟨by rw [eA.out]; rfl, hB.out.trans (hb.mono hB.out.size)⟩
      | true =>
        cases bn with
        | false =>
          go_wp2_with (first
            | (go_at_call 52; (refine (CP.out _).mono ?_); rintro e w2 ⟨rfl, rfl⟩)
            | (go_at_call 36; (with_reducible refine (CN.out _).mono ?_); rintro e w3 ⟨rfl, hb⟩))
          go_ret2
          exact ⟨by rw [eA.out]; rfl, hB.out.trans (hb.mono hB.out.size)⟩
        | true =>
          have hr := hn9.out rfl
          have KN := Lib.hid (fun w => kname_c n ⟨by omega, by omega⟩ w)
          by_cases h21 : 0 ≤ n ∧ n ≤ 21
          · have f : (namR n).toList.isEmpty = false := by rw [(nam_op h21).1]; exact bs_nem (nam_op h21).2
            have h21' : Hid (decide (0 ≤ n ∧ n ≤ 21) = true) := Lib.hid (decide_eq_true h21)
            clear h21 hn9 hr
            generalize namR n = X at *
            go_wp2_with (first
              | (go_at_call 52; (refine (CP.out _).mono ?_); rintro e w2 ⟨rfl, rfl⟩)
              | (go_at_call 36; (with_reducible refine (CN.out _).mono ?_); rintro e w3 ⟨rfl, hb⟩)
              | (go_at_call 51; (with_reducible refine (KN.out _).mono ?_); rintro e w4 ⟨rfl, hb2⟩))
            go_ret2
            exact ⟨by rw [eA.out, h21'.out]; rfl, (hB.out.trans (hb.mono hB.out.size)).trans (hb2.mono (Nat.le_trans hB.out.size hb.size))⟩
          · have f : (namR n).toList.isEmpty = true := by rw [(nam_no h21).1]; exact bs_em
            have h21' : Hid (decide (0 ≤ n ∧ n ≤ 21) = false) := Lib.hid (decide_eq_false h21)
            clear h21 hn9 hr
            generalize namR n = X at *
            go_wp2_with (first
              | (go_at_call 52; (refine (CP.out _).mono ?_); rintro e w2 ⟨rfl, rfl⟩)
              | (go_at_call 36; (with_reducible refine (CN.out _).mono ?_); rintro e w3 ⟨rfl, hb⟩)
              | (go_at_call 51; (with_reducible refine (KN.out _).mono ?_); rintro e w4 ⟨rfl, hb2⟩))
            go_ret2
            exact ⟨by rw [eA.out, h21'.out]; rfl, (hB.out.trans (hb.mono hB.out.size)).trans (hb2.mono (Nat.le_trans hB.out.size hb.size))⟩
end Wd
end Go.Proofs.YtkodnioheifalaaDoor

/- The landed text: lines that are read: what the package says of each. -/
namespace Go.Proofs.YtkodnioheifalaaDoor
open Go.RowKit
set_option linter.unusedVariables false
set_option maxRecDepth 20000
namespace Wd
theorem cpx_app (p l : Bs) : cpx p (p ++ l) = l := by
  unfold cpx
  rw [pre_app, if_pos rfl, List.drop_left]
theorem cpx_pre {p l : Bs} (h : p.isPrefixOf l = true) : l = p ++ cpx p l := by
  unfold cpx
  rw [if_pos h]
  exact pre_eq h
def liP (l : Bs) : Option (Int × Int) := if (tLit.isPrefixOf l && (valP (cpx tLit l)).2) = true then some (valP (cpx tLit l)).1 else none
theorem li_eq (l : Bs) : liP l = liR l := by
  cases e : liR l with
  | some v =>
    obtain ⟨h1, rfl⟩ := liR_iff.1 e
    have hv : valP (litB v) = (v, true) := by rw [val_eq, valR_iff.2 ⟨h1, rfl⟩]
    unfold liP
    rw [show liL v = tLit ++ litB v from rfl, pre_app, cpx_app, hv]
    rfl
  | none =>
    unfold liP
    split
    · rename_i h
      simp only [Bool.and_eq_true] at h
      rcases ev : valP (cpx tLit l) with ⟨v, b⟩
      rw [ev] at h
      rw [show b = true from h.2] at ev
      obtain ⟨h1, h2⟩ := valR_iff.1 (val_sound ev)
      rw [liR_iff.2 ⟨h1, by rw [cpx_pre h.1, h2]; rfl⟩] at e
      cases e
    · rfl
def byP (l : Bs) : Option Int := if (tByte.isPrefixOf l && (numP 0 255 (cpx tByte l)).2) = true then some (numP 0 255 (cpx tByte l)).1 else none
theorem by_eq (l : Bs) : byP l = byR l := by
  cases e : byR l with
  | some b =>
    obtain ⟨h1, rfl⟩ := byR_iff.1 e
    have hv := num_numB (lo := 0) (hi := 255) h1.1 h1.2 (by omega) (by omega)
    unfold byP
    rw [show byL b = tByte ++ numB b from rfl, pre_app, cpx_app, hv]
    rfl
  | none =>
    unfold byP
    split
    · rename_i h
      simp only [Bool.and_eq_true] at h
      rcases ev : numP 0 255 (cpx tByte l) with ⟨v, b⟩
      rw [ev] at h
      rw [show b = true from h.2] at ev
      obtain ⟨h1, h2, h3⟩ := num_sound ev
      rw [byR_iff.2 ⟨⟨h1, h2⟩, by rw [cpx_pre h.1, h3]; rfl⟩] at e
      cases e
    · rfl
def hdP (l : Bs) : Option (Int × Int) :=
  if (tMethod.isPrefixOf l && (numP 0 255 (cut1 32 (cpx tMethod l)).1).2 && (numP 0 255 (cut1 32 (cpx tMethod l)).2).2) = true then some ((numP 0 255 (cut1 32 (cpx tMethod l)).1).1, (numP 0 255 (cut1 32 (cpx tMethod l)).2).1) else none
theorem hd_eq (l : Bs) : hdP l = hdR l := by
  cases e : hdR l with
  | some v =>
    obtain ⟨a, t⟩ := v
    obtain ⟨h1, h2, rfl⟩ := hdR_iff.1 e
    have hv := num_numB (lo := 0) (hi := 255) h1.1 h1.2 (by omega) (by omega)
    have hv2 := num_numB (lo := 0) (hi := 255) h2.1 h2.2 (by omega) (by omega)
    unfold hdP
    rw [show hdL a t = tMethod ++ (numB a ++ 32 :: numB t) from by simp [hdL], pre_app, cpx_app, cut1_app 32 (numB a) (numB t) (numB_no (by decide)), hv, hv2]
    rfl
  | none =>
    unfold hdP
    split
    · rename_i h
      simp only [Bool.and_eq_true] at h
      obtain ⟨⟨hp, h1⟩, h2⟩ := h
      rcases ev : numP 0 255 (cut1 32 (cpx tMethod l)).1 with ⟨a, b⟩
      rcases ev2 : numP 0 255 (cut1 32 (cpx tMethod l)).2 with ⟨t, b2⟩
      rw [ev] at h1
      rw [ev2] at h2
      rw [show b = true from h1] at ev
      rw [show b2 = true from h2] at ev2
      obtain ⟨a1, a2, a3⟩ := num_sound ev
      obtain ⟨t1, t2, t3⟩ := num_sound ev2
      have hm : (32 : UInt8) ∈ cpx tMethod l := by
        by_cases hm : (32 : UInt8) ∈ cpx tMethod l
        · exact hm
        · exact absurd (cut1_no hm) (num_nil ev2)
      have hl := cut1_mem hm
      rw [a3, t3] at hl
      rw [hdR_iff.2 ⟨⟨a1, a2⟩, ⟨t1, t2⟩, by rw [cpx_pre hp, hl]; simp [hdL]⟩] at e
      cases e
    · rfl
/-! ### the reader in its box -/
def lastOk (k : Nat) (last : Int) : Prop := (k = 0 ∧ last = 0) ∨ (k = 1 ∧ (last = 1 ∨ last = 2)) ∨ (k = 2 ∧ last = 3) ∨ (k = 3 ∧ last = 4)
structure RdX (wr : World) (p : Nat) (S : TS) (la : Option Addr) (lc : Nat) (ca : Option Addr) (cc : Nat) (last : Int) : Prop where
  mk ::
  box : wr.heap[p]? = some (.cells #[.int .i64 S.a, .int .i64 S.t, .slice la S.L.length lc, .slice ca S.C.length cc, .int .i64 last] 66 (0, 0))
  ol : wr.ownsRow (p + 1) 49 2 (.slice la S.L.length lc) S.L.length (pr2 S.L)
  oc : wr.ownsRow (p + 1) 5 1 (.slice ca S.C.length cc) S.C.length (bys S.C)
structure RdS (w wr : World) (p : Nat) (S : TS) : Prop where
  mk ::
  ex : ∃ la lc ca cc last, RdX wr p S la lc ca cc last ∧ lastOk S.k last
  bel : Below p w wr
theorem row_up {w w1 : World} {base : Nat} {e : TypeId} {size n : Nat} {v : Value} {xs : List Value} (h : w.ownsRow base e size v n xs) (b : Below w.heap.size w w1) : w1.ownsRow base e size v n xs := by
  obtain ⟨h1, h2⟩ := h
  refine ⟨h1, ?_⟩
  rcases h2 with h2 | ⟨g, cap, cur, e1, h3, h4, h5⟩
  · exact Or.inl h2
  · refine Or.inr ⟨g, cap, cur, e1, h3, ?_, h5⟩
    refine (b.block _ ?_).trans h4
    rcases Nat.lt_or_ge g w.heap.size with h' | h'
    · exact h'
    · rw [Array.getElem?_eq_none h'] at h4
      cases h4
theorem RdX.lt {wr : World} {p : Nat} {S : TS} {la : Option Addr} {lc : Nat} {ca : Option Addr} {cc : Nat} {last : Int} (h : RdX wr p S la lc ca cc last) : p < wr.heap.size := by
  rcases Nat.lt_or_ge p wr.heap.size with h' | h'
  · exact h'
  · have := h.box; rw [Array.getElem?_eq_none h'] at this; cases this
theorem RdX.up {wr w2 : World} {p : Nat} {S : TS} {la : Option Addr} {lc : Nat} {ca : Option Addr} {cc : Nat} {last : Int} (h : RdX wr p S la lc ca cc last) (b : Below wr.heap.size wr w2) : RdX w2 p S la lc ca cc last :=
  ⟨(b.block _ h.lt).trans h.box, row_up h.ol b, row_up h.oc b⟩
theorem RdS.lt {w wr : World} {p : Nat} {S : TS} (h : RdS w wr p S) : p < wr.heap.size := by
  obtain ⟨_, _, _, _, _, hx, _⟩ := h.ex
  exact hx.lt
theorem RdS.up {w wr w2 : World} {p : Nat} {S : TS} (h : RdS w wr p S) (b : Below wr.heap.size wr w2) : RdS w w2 p S := by
  obtain ⟨la, lc, ca, cc, last, hx, hl⟩ := h.ex
  exact ⟨⟨la, lc, ca, cc, last, hx.up b, hl⟩, h.bel.trans (b.mono (Nat.le_of_lt h.lt))⟩
theorem RdX.c {wr : World} {p : Nat} {S : TS} {la : Option Addr} {lc : Nat} {ca : Option Addr} {cc : Nat} {last : Int} (h : RdX wr p S la lc ca cc last) : wr.cell? ⟨p, 0, none⟩ = some (.int .i64 S.a) ∧ wr.cell? ⟨p, 1, none⟩ = some (.int .i64 S.t) ∧ wr.cell? ⟨p, 2, none⟩ = some (.slice la S.L.length lc) ∧ wr.cell? ⟨p, 3, none⟩ = some (.slice ca S.C.length cc) ∧ wr.cell? ⟨p, 4, none⟩ = some (.int .i64 last) := by
  refine ⟨?_, ?_, ?_, ?_, ?_⟩ <;> rw [Lib.cell_of_heap h.box] <;> rfl
theorem RdX.z {wr : World} {p : Nat} {S : TS} {la : Option Addr} {lc : Nat} {ca : Option Addr} {cc : Nat} {last : Int} (h : RdX wr p S la lc ca cc last) (j : Nat) : wr.frozen? ⟨p, j, none⟩ = false := Lib.frozen_of_heap h.box j
/-- a cell of the reader's box is written: the rows stay -/
theorem set_block (w : World) (p j : Nat) (v : Value) (cs : Array Value) (T : TypeId) (z : Nat × Nat) (h : w.heap[p]? = some (.cells cs T z)) : (w.setCell ⟨p, j, none⟩ v).heap[p]? = some (.cells (cs.setIfInBounds j v) T z) := by
  simp [World.setCell, Array.getElem?_modify, h]
theorem rowx_set {w : World} {base : Nat} {e T : TypeId} {size n p j : Nat} {v x : Value} {xs : List Value} {cs : Array Value} {z : Nat × Nat} (h : w.ownsRow base e size v n xs) (hp : w.heap[p]? = some (.cells cs T z)) (hT : T ≠ e) : (w.setCell ⟨p, j, none⟩ x).ownsRow base e size v n xs := by
  obtain ⟨h1, h2⟩ := h
  refine ⟨h1, ?_⟩
  rcases h2 with h2 | ⟨g, cap, cur, e1, h3, h4, h5⟩
  · exact Or.inl h2
  · refine Or.inr ⟨g, cap, cur, e1, h3, ?_, h5⟩
    refine (Below.heap_setCell _ _ _ _ ?_).trans h4
    intro e2
    simp only at e2
    subst e2
    rw [h4] at hp
    simp at hp
    exact hT hp.2.1.symm
end Wd
end Go.Proofs.YtkodnioheifalaaDoor

/- The landed text: lines that are read: a method's first, a byte alone. -/
namespace Go.Proofs.YtkodnioheifalaaDoor
open Go.RowKit
set_option linter.unusedVariables false
set_option maxRecDepth 20000
namespace Wd
set_option maxHeartbeats 8000000 in
theorem rmethod_c {w wr : World} {p : Nat} {S : TS} (l : Bs) (h : RdS w wr p S) (hm : l.length ≤ 4611686018427387904) :
    Calls Tryd.prog 45 #[.pointer (some ⟨p, 0, none⟩), .string (bs l)] wr fun e w' => (∃ a t, hdR l = some (a, t) ∧ e = .returned (.bool true) ∧ RdS w w' p { S with k := 1, a := a, t := t }) ∨ (hdR l = none ∧ e = .returned (.bool false) ∧ RdS w w' p S) := by
  rw [← hd_eq]
  have CP := Lib.hid (fun w => cutp_c l tMethod w)
  change Hid (∀ w, Calls _ _ _ _ (fun e w' => e = .returned (.tuple #[.string (bs (cpx tMethod l)), .bool (tMethod.isPrefixOf l)]) ∧ w' = w)) at CP
  have CC := Lib.hid (fun w => cut_c (cpx tMethod l) 32 (by have := cpx_le tMethod l; omega) w)
  have C1 := Lib.hid (fun w => number_c (cut1 32 (cpx tMethod l)).1 0 255 (by have := (cut1_le (x := 32) (cpx tMethod l)).1; have := cpx_le tMethod l; omega) w)
  have C2 := Lib.hid (fun w => number_c (cut1 32 (cpx tMethod l)).2 0 255 (by have := (cut1_le (x := 32) (cpx tMethod l)).2; have := cpx_le tMethod l; omega) w)
  unfold hdP
  generalize decide ((32 : UInt8) ∈ cpx tMethod l) = mm at *
  generalize cpx tMethod l = r at *
  generalize cut1 32 r = c at *
  obtain ⟨A, B⟩ := c
  simp only at CC C1 C2 ⊢
  generalize numP 0 255 A = c at *
  obtain ⟨a, ba⟩ := c
  generalize numP 0 255 B = c at *
  obtain ⟨t, bt⟩ := c
  simp only at CC C1 C2 ⊢
  generalize hpp : tMethod.isPrefixOf l = bp at *
  clear hpp hm
  generalize hX : (if (bp && ba && bt) = true then some (a, t) else none) = X
  replace hX := Lib.hid hX
  obtain ⟨la, lc, ca, cc, last, hx, hl⟩ := h.ex
  have hbel := Lib.hid h.bel
  replace hx := Lib.hid hx
  replace hl := Lib.hid hl
  clear h
  go_enter Tryd.func45, Tryd.ntmps45
  go_upto_region 2 with (go_at_call 52; (refine (CP.out _).mono ?_); rintro e w2 ⟨rfl, rfl⟩)
  go_upto_region 3 with (go_at_call 26; (refine (CC.out _).mono ?_); rintro e y1 ⟨rfl, hb1⟩)
  go_upto_region 4 with (go_at_call 36; (with_reducible refine (C1.out _).mono ?_); rintro e y2 ⟨rfl, hb2⟩)
  go_upto_region 5 with (go_at_call 36; (with_reducible refine (C2.out _).mono ?_); rintro e y3 ⟨rfl, hb3⟩)
  have hb : Below w2.heap.size w2 y3 := (hb1.trans (hb2.mono hb1.size)).trans (hb3.mono (Nat.le_trans hb1.size hb2.size))
  clear hb1 hb2 hb3 CP CC C1 C2
  replace hbel := Lib.hid (hbel.out.trans (hb.mono (Nat.le_of_lt hx.out.lt)))
  replace hx := Lib.hid (hx.out.up hb)
  clear hb
  by_cases hok : (bp && ba && bt) = true
  · obtain rfl : X = some (a, t) := by rw [← hX.out, if_pos hok]
    simp only [Bool.and_eq_true] at hok
    obtain ⟨⟨rfl, rfl⟩, rfl⟩ := hok
    obtain ⟨c0, c1, c2, c3, c4⟩ := hx.out.c
    have z0 := hx.out.z 0
    have z1 := hx.out.z 1
    have z4 := hx.out.z 4
    go_wp2_with fail
    go_ret
    refine Or.inl ⟨a, t, rfl, rfl, ⟨la, lc, ca, cc, 1, ⟨?_, ?_, ?_⟩, Or.inr (Or.inl ⟨rfl, Or.inl rfl⟩)⟩, ?_⟩
    · exact set_block _ _ _ _ _ _ _ (set_block _ _ _ _ _ _ _ (set_block _ _ _ _ _ _ _ hx.out.box))
    · exact rowx_set (rowx_set (rowx_set hx.out.ol hx.out.box (by decide)) (set_block _ _ _ _ _ _ _ hx.out.box) (by decide)) (set_block _ _ _ _ _ _ _ (set_block _ _ _ _ _ _ _ hx.out.box)) (by decide)
    · exact rowx_set (rowx_set (rowx_set hx.out.oc hx.out.box (by decide)) (set_block _ _ _ _ _ _ _ hx.out.box) (by decide)) (set_block _ _ _ _ _ _ _ (set_block _ _ _ _ _ _ _ hx.out.box)) (by decide)
    · exact ((hbel.out.setCell (Nat.le_refl _) (p := ⟨p, 0, none⟩) _).setCell (Nat.le_refl _) (p := ⟨p, 1, none⟩) _).setCell (Nat.le_refl _) (p := ⟨p, 4, none⟩) _
  · obtain rfl : X = none := by rw [← hX.out, if_neg hok]
    have hS : Hid (RdS w y3 p S) := Lib.hid ⟨⟨la, lc, ca, cc, last, hx.out, hl.out⟩, hbel.out⟩
    clear hx hl hbel hX
    cases bp with
    | false =>
      go_wp2_with fail
      go_ret
      exact ⟨rfl, hS.out⟩
    | true =>
      cases ba with
      | false =>
        go_wp2_with fail
        go_ret
        exact ⟨rfl, hS.out⟩
      | true =>
        cases bt with
        | false =>
          go_wp2_with fail
          go_ret
          exact ⟨rfl, hS.out⟩
        | true => exact absurd rfl hok
end Wd
end Go.Proofs.YtkodnioheifalaaDoor

/- The landed text: lines that are read: the reader's rows grow; a byte alone. -/
namespace Go.Proofs.YtkodnioheifalaaDoor
open Go.RowKit
set_option linter.unusedVariables false
set_option maxRecDepth 20000
namespace Wd
theorem row_far {w w2 : World} {base base' : Nat} {e e' : TypeId} {size size' n n' : Nat} {v v' : Value} {xs xs' : List Value} (h : w.ownsRow base e size v n xs) (h' : w.ownsRow base' e' size' v' n' xs') (he : e ≠ e') (hg : w.grownBy w2 v'.ownBlock) : w2.ownsRow base e size v n xs := by
  obtain ⟨h1, h2⟩ := h
  refine ⟨h1, ?_⟩
  rcases h2 with h2 | ⟨g, cap, cur, e1, h3, h4, h5⟩
  · exact Or.inl h2
  · have hlt : g < w.heap.size := by
      rcases Nat.lt_or_ge g w.heap.size with h' | h'
      · exact h'
      · rw [Array.getElem?_eq_none h'] at h4; cases h4
    refine Or.inr ⟨g, cap, cur, e1, h3, (hg.block g hlt ?_).trans h4, h5⟩
    intro hh
    rcases h'.2 with ⟨rfl, _⟩ | ⟨g', cap', cur', rfl, _, h6, _⟩
    · simp [Value.ownBlock] at hh
    · simp only [Value.ownBlock, Option.some.injEq] at hh
      subst hh
      rw [h4] at h6
      simp at h6
      exact he h6.2
theorem box_far {w w2 : World} {base' p : Nat} {e' T : TypeId} {size' n' : Nat} {v' : Value} {xs' : List Value} {cs : Array Value} {z : Nat × Nat} (h : w.heap[p]? = some (.cells cs T z)) (h' : w.ownsRow base' e' size' v' n' xs') (he : T ≠ e') (hg : w.grownBy w2 v'.ownBlock) : w2.heap[p]? = some (.cells cs T z) := by
  have hlt : p < w.heap.size := by
    rcases Nat.lt_or_ge p w.heap.size with h' | h'
    · exact h'
    · rw [Array.getElem?_eq_none h'] at h; cases h
  refine (hg.block p hlt ?_).trans h
  intro hh
  rcases h'.2 with ⟨rfl, _⟩ | ⟨g', cap', cur', rfl, _, h6, _⟩
  · simp [Value.ownBlock] at hh
  · simp only [Value.ownBlock, Option.some.injEq] at hh
    subst hh
    rw [h] at h6
    simp at h6
    exact he h6.2.1
section
variable {w y y2 : World} {p : Nat} {S : TS} {la : Option Addr} {lc : Nat} {ca : Option Addr} {cc : Nat} {last last' : Int}
theorem RdX.gcode (h : RdX y p S la lc ca cc last) (hg : y.grownBy y2 (Value.slice ca S.C.length cc).ownBlock) : y2.heap[p]? = some (.cells #[.int .i64 S.a, .int .i64 S.t, .slice la S.L.length lc, .slice ca S.C.length cc, .int .i64 last] 66 (0, 0)) ∧ y2.ownsRow (p + 1) 49 2 (.slice la S.L.length lc) S.L.length (pr2 S.L) :=
  ⟨box_far h.box h.oc (by decide) hg, row_far h.ol h.oc (by decide) hg⟩
theorem RdX.glit (h : RdX y p S la lc ca cc last) (hg : y.grownBy y2 (Value.slice la S.L.length lc).ownBlock) : y2.heap[p]? = some (.cells #[.int .i64 S.a, .int .i64 S.t, .slice la S.L.length lc, .slice ca S.C.length cc, .int .i64 last] 66 (0, 0)) ∧ y2.ownsRow (p + 1) 5 1 (.slice ca S.C.length cc) S.C.length (bys S.C) :=
  ⟨box_far h.box h.ol (by decide) hg, row_far h.oc h.ol (by decide) hg⟩
/-- the code is another row now -/
theorem RdX.setc {C' : List Int} {k' : Nat} {a' : Option Addr} {c' : Nat} (hb : y2.heap[p]? = some (.cells #[.int .i64 S.a, .int .i64 S.t, .slice la S.L.length lc, .slice ca S.C.length cc, .int .i64 last] 66 (0, 0))) (hl : y2.ownsRow (p + 1) 49 2 (.slice la S.L.length lc) S.L.length (pr2 S.L)) (ho : y2.ownsRow (p + 1) 5 1 (.slice a' C'.length c') C'.length (bys C')) :
    RdX ((y2.setCell ⟨p, 3, none⟩ (.slice a' C'.length c')).setCell ⟨p, 4, none⟩ (.int .i64 last')) p { S with k := k', C := C' } la lc a' c' last' :=
  ⟨set_block _ _ _ _ _ _ _ (set_block _ _ _ _ _ _ _ hb), rowx_set (rowx_set hl hb (by decide)) (set_block _ _ _ _ _ _ _ hb) (by decide), rowx_set (rowx_set ho hb (by decide)) (set_block _ _ _ _ _ _ _ hb) (by decide)⟩
theorem RdX.setl {L' : List (Int × Int)} {k' : Nat} {a' : Option Addr} {c' : Nat} (hb : y2.heap[p]? = some (.cells #[.int .i64 S.a, .int .i64 S.t, .slice la S.L.length lc, .slice ca S.C.length cc, .int .i64 last] 66 (0, 0))) (hl : y2.ownsRow (p + 1) 49 2 (.slice a' L'.length c') L'.length (pr2 L')) (ho : y2.ownsRow (p + 1) 5 1 (.slice ca S.C.length cc) S.C.length (bys S.C)) :
    RdX ((y2.setCell ⟨p, 2, none⟩ (.slice a' L'.length c')).setCell ⟨p, 4, none⟩ (.int .i64 last')) p { S with k := k', L := L' } a' c' ca cc last' :=
  ⟨set_block _ _ _ _ _ _ _ (set_block _ _ _ _ _ _ _ hb), rowx_set (rowx_set hl hb (by decide)) (set_block _ _ _ _ _ _ _ hb) (by decide), rowx_set (rowx_set ho hb (by decide)) (set_block _ _ _ _ _ _ _ hb) (by decide)⟩
theorem own_ge {w : World} {base : Nat} {e : TypeId} {size n : Nat} {v : Value} {xs : List Value} (h : w.ownsRow base e size v n xs) (k : Nat) (hk : v.ownBlock = some k) : base ≤ k := by
  rcases h.2 with ⟨rfl, _⟩ | ⟨g, cap, cur, rfl, h3, _⟩
  · simp [Value.ownBlock] at hk
  · simp only [Value.ownBlock, Option.some.injEq] at hk
    omega
theorem bel_grown {w y y2 : World} {p : Nat} {v : Value} (h : Below p w y) (hp : p ≤ y.heap.size) (hg : y.grownBy y2 v.ownBlock) (ho : ∀ k, v.ownBlock = some k → p + 1 ≤ k) : Below p w y2 :=
  h.grown hg hp (fun k hk => by have := ho k hk; omega)
end
set_option maxHeartbeats 8000000 in
theorem ralone_c {w wr : World} {p : Nat} {S : TS} (l : Bs) (h : RdS w wr p S) (hm : l.length ≤ 4611686018427387904) (hC : S.C.length ≤ 1000000000) :
    Calls Tryd.prog 48 #[.pointer (some ⟨p, 0, none⟩), .string (bs l)] wr fun e w' => (∃ b, byR l = some b ∧ e = .returned (.bool true) ∧ RdS w w' p { S with k := 3, C := S.C ++ [b] }) ∨ (byR l = none ∧ e = .returned (.bool false) ∧ RdS w w' p S) := by
  rw [← by_eq]
  have CP := Lib.hid (fun w => cutp_c l tByte w)
  change Hid (∀ w, Calls _ _ _ _ (fun e w' => e = .returned (.tuple #[.string (bs (cpx tByte l)), .bool (tByte.isPrefixOf l)]) ∧ w' = w)) at CP
  have C1 := Lib.hid (fun w => number_c (cpx tByte l) 0 255 (by have := cpx_le tByte l; omega) w)
  have hr : Hid ((numP 0 255 (cpx tByte l)).2 = true → 0 ≤ (numP 0 255 (cpx tByte l)).1 ∧ (numP 0 255 (cpx tByte l)).1 ≤ 255) := Lib.hid (fun h => by
    have := num_sound (lo := 0) (hi := 255) (l := cpx tByte l) (n := (numP 0 255 (cpx tByte l)).1) (by rw [← h])
    exact ⟨this.1, this.2.1⟩)
  unfold byP
  generalize cpx tByte l = r at *
  generalize numP 0 255 r = c at *
  obtain ⟨a, ba⟩ := c
  simp only at C1 hr ⊢
  generalize hpp : tByte.isPrefixOf l = bp at *
  clear hpp hm
  generalize hX : (if (bp && ba) = true then some a else none) = X
  replace hX := Lib.hid hX
  obtain ⟨la, lc, ca, cc, last, hx, hl⟩ := h.ex
  have hbel := Lib.hid h.bel
  replace hx := Lib.hid hx
  replace hl := Lib.hid hl
  replace hC := Lib.hid hC
  clear h
  go_enter Tryd.func48, Tryd.ntmps48
  go_upto_region 2 with (go_at_call 52; (refine (CP.out _).mono ?_); rintro e w2 ⟨rfl, rfl⟩)
  go_upto_region 3 with (go_at_call 36; (with_reducible refine (C1.out _).mono ?_); rintro e y3 ⟨rfl, hb⟩)
  clear CP C1
  replace hbel := Lib.hid (hbel.out.trans (hb.mono (Nat.le_of_lt hx.out.lt)))
  replace hx := Lib.hid (hx.out.up hb)
  clear hb
  by_cases hok : (bp && ba) = true
  · obtain rfl : X = some a := by rw [← hX.out, if_pos hok]
    simp only [Bool.and_eq_true] at hok
    obtain ⟨rfl, rfl⟩ := hok
    obtain ⟨r0, r1⟩ := hr.out rfl
    have hba := Lib.hid ((Below.refl y3.heap.size y3).alloc (Nat.le_refl _) (.cells #[.int .u8 a] 5))
    have hlt3 := hx.out.lt
    have hX1 := Lib.hid (hx.out.up hba.out)
    have hB1 := Lib.hid (hbel.out.trans (hba.out.mono (Nat.le_of_lt hx.out.lt)))
    obtain ⟨i0, hi, hz0, hz1, hz2⟩ := info_parts infoB8
    have w8 : IntKind.u8.wrap a = a := by unfold IntKind.wrap; simp [IntKind.signed, IntKind.bits]; omega
    have c3 := hx.out.c.2.2.2.1
    have hn : Hid (∀ (j : Nat) u, (bys [a])[j]? = some u → (y3.alloc (.cells #[.int .u8 a] 5)).cell? ((⟨y3.heap.size, 0, none⟩ : Addr).add j) = some u) := Lib.hid (World.news_of_block (heap_alloc_new y3 (.cells #[.int .u8 a] 5)))
    have hcl := hC.out
    go_wp2_with (at_builtin; refine wpList_append_own _ rfl _ _ 35 rfl (p + 1) 5 i0 (.int .u8 0) 1 1 Tryd.underlying35 hi hz0 hz1 hz2 rfl (by decide) _ _ _ rfl hX1.out.oc ⟨y3.heap.size, 0, none⟩ 1 1 (bys [a]) rfl rfl hn.out (bys_one _) (by unfold maxLen; omega) (by omega) (by simp; omega) ?_)
    intro v' y5 hown hgr _
    obtain ⟨hbx, hol⟩ := hX1.out.gcode hgr
    obtain ⟨ao, cap, rfl⟩ : ∃ ao cap, v' = .slice ao (S.C ++ [a]).length cap := by
      rw [List.length_append, List.length_singleton]
      rcases hown.2 with ⟨hv, h0⟩ | ⟨g, cap, cur, hv, _⟩
      · omega
      · exact ⟨_, _, hv⟩
    have hown2 : y5.ownsRow (p + 1) 5 1 (.slice ao (S.C ++ [a]).length cap) (S.C ++ [a]).length (bys (S.C ++ [a])) := by
      have := hown
      rw [show bys S.C ++ bys [a] = bys (S.C ++ [a]) by simp [bys]] at this
      rw [List.length_append, List.length_singleton] at this ⊢
      exact this
    have hB2 := Lib.hid (bel_grown hB1.out (by simp; omega) hgr (fun k hk => own_ge hX1.out.oc k hk))
    have hfin := Lib.hid (RdX.setc (k' := 3) (last' := 4) hbx hol hown2)
    have d3 : y5.cell? ⟨p, 3, none⟩ = some (.slice ca S.C.length cc) := by rw [Lib.cell_of_heap hbx]; rfl
    have d4 : y5.cell? ⟨p, 4, none⟩ = some (.int .i64 last) := by rw [Lib.cell_of_heap hbx]; rfl
    have f3 : y5.frozen? ⟨p, 3, none⟩ = false := Lib.frozen_of_heap hbx 3
    have f4 : y5.frozen? ⟨p, 4, none⟩ = false := Lib.frozen_of_heap hbx 4
    clear hown hown2 hgr hbx hol c3 hn
    go_wp2_with fail
    go_ret
    have hf := hfin.out
    rw [show (S.C ++ [a]).length = S.C.length + 1 by simp] at hf
    exact Or.inl ⟨a, rfl, rfl, ⟨la, lc, ao, cap, 4, hf, Or.inr (Or.inr (Or.inr ⟨rfl, rfl⟩))⟩, (hB2.out.setCell (Nat.le_refl _) (p := ⟨p, 3, none⟩) _).setCell (Nat.le_refl _) (p := ⟨p, 4, none⟩) _⟩
  · obtain rfl : X = none := by rw [← hX.out, if_neg hok]
    have hS : Hid (RdS w y3 p S) := Lib.hid ⟨⟨la, lc, ca, cc, last, hx.out, hl.out⟩, hbel.out⟩
    clear hx hl hbel hX
    cases bp with
    | false =>
      go_wp2_with fail
      go_ret
      exact ⟨rfl, hS.out⟩
    | true =>
      cases ba with
      | false =>
        go_wp2_with fail
        go_ret
        exact ⟨rfl, hS.out⟩
      | true => exact absurd rfl hok
end Wd
end Go.Proofs.YtkodnioheifalaaDoor
