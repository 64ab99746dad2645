/- Rows of numbers: what an append reads and leaves; the book's small functions. -/
import Derived.Test.YthlijmdohejheaaRows
import Derived.Test.YthlijmdohejheaaRPure
import Derived.Test.YthlijmdohejheaaRLast
import Derived.WalkKit
import Derived.WalkSpells
import Derived.WalkLawsBesides
import Derived.Handy
import Derived.Lib.Hide
import Derived.BigQuiet
import Derived.LoopN
import Derived.OneCell
import Derived.Maps.AppendAt
import Derived.Deep.AppendLies
import Derived.Deep.RegionHeldLaw
namespace Go.Proofs.Ythlijmdohejheaa
open Go.RowKit
set_option linter.unusedVariables false
namespace Wd
theorem info3 : (Try.prog.info? 3).map (fun i => (i.zero, i.size, i.bytes)) = some (some (.int .i64 0), 1, 8) := by kernel_rfl
theorem ints_one (L : List Int) : ∀ u ∈ ints L, u.oneCell' = true := by
  intro u hu
  obtain ⟨x, _, rfl⟩ := List.mem_map.1 hu
  rfl
theorem ints_len (L : List Int) : (ints L).length = L.length * 1 := by simp [ints]
theorem drop_at (L : List Int) (k : Nat) : ∀ j x, (L.drop k)[j]? = some x → L[k + j]? = some x := by
  intro j x h; rw [List.getElem?_drop] at h; exact h
theorem take_at (L : List Int) (k : Nat) : ∀ j x, (L.take k)[j]? = some x → L[0 + j]? = some x := by
  intro j x h
  rw [List.getElem?_take] at h
  split at h
  · rw [Nat.zero_add]; exact h
  · cases h
theorem news_at {w : World} {e : TypeId} {g n cap k : Nat} {L M : List Int} (h : w.ownsRow 0 e 1 (.slice (some ⟨g, 0, none⟩) n cap) n (ints L)) (hM : ∀ j x, M[j]? = some x → L[k + j]? = some x) :
    ∀ j u, (ints M)[j]? = some u → w.cell? ((⟨g, k, none⟩ : Addr).add j) = some u := by
  intro j u hu
  simp only [ints, List.getElem?_map, Option.map_eq_some_iff] at hu
  obtain ⟨x, hx, rfl⟩ := hu
  rw [Addr.add_lit]
  exact row_cell h (hM j x hx)
theorem one_at {w : World} {g : Nat} {i : Int} (h : w.cell? ⟨g, 0, none⟩ = some (.int .i64 i)) : ∀ j u, (ints [i])[j]? = some u → w.cell? ((⟨g, 0, none⟩ : Addr).add j) = some u := by
  intro j u hu
  match j, hu with
  | 0, hu =>
    simp [ints] at hu; subst hu
    rw [Addr.add_lit]; exact h
theorem cell_up {w w' : World} (g : Below w.heap.size w w') {p : Addr} {v : Value} (h : w.cell? p = some v) : w'.cell? p = some v := (g.cell (World.block_lt_of_cell? w p h)).trans h
theorem slice_form {w : World} {e : TypeId} {base size n : Nat} {v : Value} {xs : List Value} (h : w.ownsRow base e size v n xs) : ∃ a m c, v = .slice a m c := by
  rcases h.2 with ⟨rfl, _⟩ | ⟨g, cap, cur, rfl, _⟩ <;> exact ⟨_, _, _, rfl⟩
theorem own_base {w : World} {base : Nat} {e : TypeId} {size n : Nat} {v : Value} {xs : List Value} (h : w.ownsRow base e size v n xs) : w.ownsRow 0 e size v n xs := by
  refine ⟨h.1, ?_⟩
  rcases h.2 with h | ⟨g, cap, cur, h1, _, h3⟩
  · exact Or.inl h
  · exact Or.inr ⟨g, cap, cur, h1, Nat.zero_le _, h3⟩
theorem SL.keep {w w' : World} {e : TypeId} {v : Value} {L : List Int} (h : SL w e v L) (b : Below w.heap.size w w') : SL w' e v L :=
  World.ownsRow.kept h ⟨b.os, b.tape, b.output, b.size, fun k hk _ => b.block k hk⟩ (row := none) (by cases v.ownBlock <;> simp)
theorem grown_refl (w : World) (b : Option Nat) : w.grownBy w b := ⟨rfl, rfl, rfl, Nat.le_refl _, fun _ _ _ => rfl⟩
theorem tmod_split (n D : Int) (hD : 1 ≤ D) : ∃ r, n.tmod D = r ∧ -D < r ∧ r < D ∧ ((0 ≤ r ∧ n % D = r) ∨ (r < 0 ∧ n % D = r + D)) := by
  have h1 := Int.tmod_lt_of_pos n (show 0 < D by omega)
  have h2 : -D < n.tmod D := by have := Int.tmod_lt_of_pos (-n) (show 0 < D by omega); rw [Int.neg_tmod] at this; omega
  refine ⟨_, rfl, h2, h1, ?_⟩
  have key := Int.tmod_add_mul_tdiv n D
  generalize n.tmod D = r at *
  generalize n.tdiv D = q at *
  by_cases h : 0 ≤ r
  · left
    refine ⟨h, ?_⟩
    rw [← key, Int.add_mul_emod_self_left]
    exact Int.emod_eq_of_lt h h1
  · right
    refine ⟨by omega, ?_⟩
    have e : n = (r + D) + D * (q - 1) := by rw [Int.mul_sub, Int.mul_one]; omega
    rw [e, Int.add_mul_emod_self_left]
    exact Int.emod_eq_of_lt (by omega) (by omega)
/-- a number brought into lo .. hi -/
def within (n lo hi : Int) : Int := if lo ≤ n ∧ n ≤ hi then n else lo + n % (hi - lo + 1)
set_option maxHeartbeats 16000000 in
theorem within_c (n lo hi : Int) (h1 : -9223372036854775808 ≤ n) (h2 : n ≤ 9223372036854775807) (h3 : -1000000 ≤ lo) (h4 : lo ≤ hi) (h5 : hi ≤ 1000000) (w : World) :
    Calls Try.prog 13 #[.int .i64 n, .int .i64 lo, .int .i64 hi] w fun e w' => e = .returned (.int .i64 (within n lo hi)) ∧ w' = w := by
  by_cases c1 : lo ≤ n
  · by_cases c2 : n ≤ hi
    · have e : within n lo hi = n := if_pos ⟨c1, c2⟩
      rw [e]
      go_enter Try.func13, Try.ntmps13
      go_wp2
      go_ret
      exact ⟨rfl, rfl⟩
    · have e : within n lo hi = lo + n % (hi - lo + 1) := if_neg (fun h => c2 h.2)
      obtain ⟨r, hr, r1, r2, ⟨r3, r4⟩ | ⟨r3, r4⟩⟩ := tmod_split n (hi - lo + 1) (by omega)
      all_goals
        rw [r4] at e
        rw [e]; clear e r4
        go_enter Try.func13, Try.ntmps13
        go_wp2
        go_ret
        exact ⟨by first | rfl | (refine congrArg Ending.returned (congrArg (Value.int .i64) ?_); omega), rfl⟩
  · have e : within n lo hi = lo + n % (hi - lo + 1) := if_neg (fun h => c1 h.1)
    obtain ⟨r, hr, r1, r2, ⟨r3, r4⟩ | ⟨r3, r4⟩⟩ := tmod_split n (hi - lo + 1) (by omega)
    all_goals
      rw [r4] at e
      rw [e]; clear e r4
      go_enter Try.func13, Try.ntmps13
      go_wp2
      go_ret
      exact ⟨by first | rfl | (refine congrArg Ending.returned (congrArg (Value.int .i64) ?_); omega), rfl⟩
theorem within_bd (n lo hi : Int) (h : lo ≤ hi) : lo ≤ within n lo hi ∧ within n lo hi ≤ hi := by
  unfold within
  split
  · rename_i h'; exact h'
  · have h1 := Int.emod_nonneg n (show hi - lo + 1 ≠ 0 by omega)
    have h2 := Int.emod_lt_of_pos n (show 0 < hi - lo + 1 by omega)
    omega
theorem SL.form {w : World} {e : TypeId} {v : Value} {L : List Int} (h : SL w e v L) : ∃ a c, v = .slice a L.length c := by
  rcases h.2 with ⟨rfl, h0⟩ | ⟨g, cap, cur, rfl, _⟩
  · exact ⟨_, _, by rw [h0]⟩
  · exact ⟨_, _, rfl⟩
theorem take_same {A B : List Int} {k : Nat} {x : Int} (h : A.take k = B.take k) (ha : A[k]? = some x) (hb : B[k]? = some x) : A.take (k + 1) = B.take (k + 1) := by
  rw [List.take_add_one, List.take_add_one, h, ha, hb]
theorem take_all {A B : List Int} {n : Nat} (h : A.take n = B.take n) (ha : n = A.length) (hb : n = B.length) : A = B := by
  rw [ha, List.take_length] at h
  rw [← ha, hb, List.take_length] at h
  exact h
/-- 0, 1, .. m less 1 -/
def rng (m : Nat) : List Int := (List.range m).map (fun (k : Nat) => (k : Int))
theorem rng_succ (m : Nat) : rng (m + 1) = rng m ++ [(m : Int)] := by simp [rng, List.range_succ]
theorem rng_len (m : Nat) : (rng m).length = m := by simp [rng]
theorem rng_nd (m : Nat) : (rng m).Nodup := by
  unfold rng
  rw [List.Nodup, List.pairwise_map]
  exact (List.nodup_range (n := m)).imp (fun h e => h (by omega))
/-- what an append reads: nothing, or a row of numbers -/
def Reads (w : World) (u : Value) (M : List Int) : Prop := (u = .slice none 0 0 ∧ M = []) ∨ ∃ ad c, u = .slice (some ad) M.length c ∧ ∀ j x, (ints M)[j]? = some x → w.cell? (ad.add j) = some x
theorem SL.reads {w : World} {e : TypeId} {v : Value} {M : List Int} (h : SL w e v M) : Reads w v M := by
  rcases h.cases with ⟨rfl, rfl⟩ | ⟨g, cap, rfl, _, _, _, hown⟩
  · exact Or.inl ⟨rfl, rfl⟩
  · refine Or.inr ⟨_, _, rfl, fun j x hx => ?_⟩
    simp only [ints, List.getElem?_map, Option.map_eq_some_iff] at hx
    obtain ⟨y, hy, rfl⟩ := hx
    rw [Addr.add_lit, Nat.zero_add]
    exact row_cell hown hy
theorem Reads.one {w : World} {g : Nat} {i : Int} (h : w.cell? ⟨g, 0, none⟩ = some (.int .i64 i)) : Reads w (.slice (some ⟨g, 0, none⟩) 1 1) [i] := Or.inr ⟨_, _, rfl, one_at h⟩
/-- nothing is appended -/
theorem run_app_nil {P : Program} (w : World) (base : Nat) (t ty e : TypeId) (i : TypeInfo) (size n : Nat) (ht : P.underlying t = some (.slice e)) (hi : P.info? e = some i) (v : Value) (xs : List Value) (hown : w.ownsRow base e size v n xs) :
    (Builtin.append_ #[t, t] ty #[v, .slice none 0 0]).run P w = .ok v w := by
  rcases hown.2 with ⟨rfl, rfl⟩ | ⟨g, cap, cur, rfl, _, _, hle, _⟩
  · simp [Builtin.append_, run_underlying ht, sizeOf, typeInfo, hi, Builtin.lenOf, Builtin.firstCells]
  · simp [Builtin.append_, run_underlying ht, sizeOf, typeInfo, hi, Builtin.lenOf, Builtin.firstCells, hle, storeCells]
/-- an append of a row of numbers, or of none, onto a row of numbers of the call's own -/
theorem run_app (w : World) (base n : Nat) (v u : Value) (X M : List Int) (ty : TypeId) (hown : w.ownsRow base 3 1 v n (ints X)) (hu : Reads w u M) (h63 : n + M.length ≤ 100000) (hbase : base ≤ w.heap.size) :
    ∃ v' w', (Builtin.append_ #[29, 29] ty #[v, u]).run Try.prog w = .ok v' w' ∧ w'.ownsRow base 3 1 v' (n + M.length) (ints (X ++ M)) ∧ w.grownBy w' v.ownBlock ∧ (v'.ownBlock = v.ownBlock ∨ v'.ownBlock = some w.heap.size) := by
  obtain ⟨i0, hi0, hz0, hz1, hz2⟩ := info_parts info3
  rcases hu with ⟨rfl, rfl⟩ | ⟨ad, c, rfl, hc⟩
  · refine ⟨v, w, run_app_nil w base 29 ty 3 i0 1 n Try.underlying29 hi0 v _ hown, by simpa using hown, grown_refl _ _, Or.inl rfl⟩
  · have hmx : 100000 ≤ maxLen := by decide
    obtain ⟨v', w', hr, h2, h3, _, h5⟩ := run_append_own_at (P := Try.prog) w base 29 ty 3 i0 (.int .i64 0) 1 8 Try.underlying29 hi0 hz0 hz1 hz2 rfl (by decide) v n (ints X) hown ad M.length c (ints M) (ints_len M) hc (ints_one _) (by omega) (by omega) hbase
    exact ⟨v', w', hr, by simpa [ints] using h2, h3, h5⟩
/-- the same, at a step of a region that draws -/
theorem step_app {w : World} {ops : Array Oper} {o : Oper} {a : Act} {K : Act → World → Prop} {Q : Exit → Act → World → Prop} {E : Prop} (hgd : o.guard = none) (s x : Operand)
    (ho : o.op = .call { callee := .builtin .append, args := #[s, x], argTypes := #[29, 29] }) (base n : Nat) (v u : Value) (X M : List Int) (hs : a.eval s = v) (hx : a.eval x = u)
    (hown : w.ownsRow base 3 1 v n (ints X)) (hu : Reads w u M) (h63 : n + M.length ≤ 100000) (hbase : base ≤ w.heap.size)
    (h : ∀ v' w', w'.ownsRow base 3 1 v' (n + M.length) (ints (X ++ M)) → w.grownBy w' v.ownBlock → (v'.ownBlock = v.ownBlock ∨ v'.ownBlock = some w.heap.size) → K (a.put o.dst v') w') :
    if Region.wanted o (yielded ops a.tmps) = true then Oper.wp Try.prog o a w K Q else E := by
  have hw : Region.wanted o (yielded ops a.tmps) = true := by simp [Region.wanted, hgd]
  rw [if_pos hw]
  obtain ⟨v', w', hr, h2, h3, h5⟩ := run_app w base n v u X M o.type hown hu h63 hbase
  unfold Oper.wp execOp
  simp only [ho, resolve, invoke, builtin, Sem.run_bind, Sem.run_pure, Result.andThen_ok, List.map_toArray, List.map_cons, List.map_nil, hs, hx, hr]
  exact h v' w' h2 h3 h5
/-- the same, at the head of a list of operations -/
theorem wpList_app {w : World} {ops : Array Oper} {rest : List Oper} {o : Oper} {a : Act} {Q : Exit → Act → World → Prop} (hgd : o.guard = none) (s x : Operand)
    (ho : o.op = .call { callee := .builtin .append, args := #[s, x], argTypes := #[29, 29] }) (base n : Nat) (v u : Value) (X M : List Int) (hs : a.eval s = v) (hx : a.eval x = u)
    (hown : w.ownsRow base 3 1 v n (ints X)) (hu : Reads w u M) (h63 : n + M.length ≤ 100000) (hbase : base ≤ w.heap.size)
    (h : ∀ v' w', w'.ownsRow base 3 1 v' (n + M.length) (ints (X ++ M)) → w.grownBy w' v.ownBlock → (v'.ownBlock = v.ownBlock ∨ v'.ownBlock = some w.heap.size) → wpList Try.prog ops Q rest (a.put o.dst v') w') :
    wpList Try.prog ops Q (o :: rest) a w := by
  refine wpList_plain hgd fun K hK => ?_
  obtain ⟨v', w', hr, h2, h3, h5⟩ := run_app w base n v u X M o.type hown hu h63 hbase
  unfold Oper.wp execOp
  simp only [ho, resolve, invoke, builtin, Sem.run_bind, Sem.run_pure, Result.andThen_ok, List.map_toArray, List.map_cons, List.map_nil, hs, hx, hr]
  exact hK _ _ (h v' w' h2 h3 h5)
end Wd
end Go.Proofs.Ythlijmdohejheaa
