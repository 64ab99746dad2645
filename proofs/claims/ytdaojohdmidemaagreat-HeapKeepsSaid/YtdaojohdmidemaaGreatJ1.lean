/- Texts joined: RPure, RLast, MBase, TRef, TOps, TZero, MRef. -/
import Derived.Test.YtdaojohdmidemaaGreatRows
import Derived.RowKit
import Derived.Laws.OwnMore
import Derived.Deep.Draws
import Derived.OrdersHeld
import Derived.Deep.RegionHeld
import Derived.RegionTactic
import Derived.WalkKit
import Derived.WalkSpells
import Derived.WalkLawsBesides
import Derived.Handy
import Derived.Lib.Hide
import Derived.BigQuiet
import Derived.LoopN
import Derived.OneCell
import Derived.Maps.AppendAt
import Derived.Deep.AppendLies
import Derived.Deep.RegionHeldLaw
import Derived.StillTailTactics
import Derived.BigRegion
/- Rings as lists: no program is named here. -/
namespace Go.Proofs.YtdaojohdmidemaaGreat
open Go.RowKit
set_option linter.unusedVariables false
namespace Wd
/-- where it stands; -1: nowhere -/
def idx (L : List Int) (i : Int) : Int := if i ∈ L then ((L.idxOf i : Nat) : Int) else -1
/-- the one behind -/
def nxt (L : List Int) (i : Int) : Int := if i ∈ L then (L[(L.idxOf i + 1) % L.length]?).getD 0 else -1
/-- the one ahead -/
def prv (L : List Int) (i : Int) : Int := if i ∈ L then (L[(L.idxOf i + L.length - 1) % L.length]?).getD 0 else -1
/-- all from it on -/
def frm (L : List Int) (i : Int) : List Int := if i ∈ L then L.drop (L.idxOf i) ++ L.take (L.idxOf i) else []
/-- what is left when one is taken out -/
def outL (L : List Int) (i : Int) : List Int := if i ∈ L then L.take (L.idxOf i) ++ L.drop (L.idxOf i + 1) else L
/-- what is in when one is put in ahead of another -/
def inL (L : List Int) (i a : Int) : List Int := if a ∈ L then L.take (L.idxOf a) ++ [i] ++ L.drop (L.idxOf a) else [i]
/-- may it be put in -/
def inOk (N : Int) (L : List Int) (i a : Int) : Bool := decide (0 ≤ i) && decide (i < N) && !decide (i ∈ L) && (decide (a ∈ L) || (a == -1 && L.isEmpty))
theorem idx_hit (L : List Int) (i : Int) (k : Nat) (h : i ∉ L.take k) (hk : L[k]? = some i) : idx L i = k := by
  have hm : i ∈ L := List.mem_of_getElem? hk
  unfold idx; rw [if_pos hm]
  have hk' := List.getElem?_eq_some_iff.1 hk
  obtain ⟨hlt, he⟩ := hk'
  have : L = L.take k ++ (i :: L.drop (k + 1)) := by
    rw [← he, List.getElem_cons_drop, List.take_append_drop]
  have h2 : L.idxOf i = k := by
    rw [this, List.idxOf_append, if_neg h]
    simp
    omega
  rw [h2]
theorem idx_miss (L : List Int) (i : Int) (h : i ∉ L.take L.length) : idx L i = -1 := by
  rw [List.take_length] at h
  simp [idx, h]
theorem take_step (L : List Int) (i x : Int) (k : Nat) (h : i ∉ L.take k) (hk : L[k]? = some x) (hx : x ≠ i) : i ∉ L.take (k + 1) := by
  rw [List.take_add_one, hk]
  simp only [Option.toList, List.mem_append, List.mem_singleton, not_or]
  exact ⟨h, fun e => hx e.symm⟩
/-- the numbers as values -/
abbrev ints (L : List Int) : List Value := L.map (Value.int .i64)
theorem row_cell {w : World} {e : TypeId} {g n cap : Nat} {L : List Int} (h : w.ownsRow 0 e 1 (.slice (some ⟨g, 0, none⟩) n cap) n (ints L)) {k : Nat} {x : Int} (hx : L[k]? = some x) : w.cell? ⟨g, k, none⟩ = some (.int .i64 x) := by
  have hl : L.length = n := by have := h.1; simpa using this
  have hk := (List.getElem?_eq_some_iff.1 hx).1
  rw [h.cellAt k (by omega)]
  simp [ints, hx]
/-- a slice of numbers: nil and none, or a row of its own -/
def SL (w : World) (e : TypeId) (v : Value) (L : List Int) : Prop := w.ownsRow 0 e 1 v L.length (ints L)
theorem SL.cases {w : World} {e : TypeId} {v : Value} {L : List Int} (h : SL w e v L) : (v = .slice none 0 0 ∧ L = []) ∨ ∃ g cap, v = .slice (some ⟨g, 0, none⟩) L.length cap ∧ L.length ≤ cap ∧ cap ≤ maxLen ∧ g < w.heap.size ∧ w.ownsRow 0 e 1 (.slice (some ⟨g, 0, none⟩) L.length cap) L.length (ints L) := by
  rcases h.2 with ⟨rfl, h0⟩ | ⟨g, cap, cur, rfl, _, hh, hle, hm, _⟩
  · exact Or.inl ⟨rfl, List.length_eq_zero_iff.1 h0⟩
  · exact Or.inr ⟨g, cap, rfl, hle, hm, (Array.getElem?_eq_some_iff.1 hh).1, h⟩
end Wd
end Go.Proofs.YtdaojohdmidemaaGreat

/- A region that draws, whose last operation waits for all others: the others in whatever order, and then it. No program is named here. -/
namespace Go.Proofs.YtdaojohdmidemaaGreat
namespace Wd
section
variable {P : Program} {ops : Array Oper} {Q : Exit → Act → World → Prop} {md : Region.Mode} {S : World → Prop} {d : Nat}
/-- what is asked behind the others: number d, and then Q; where one of them leaves by another way, Q -/
def LastQ (P : Program) (ops : Array Oper) (Q : Exit → Act → World → Prop) (d : Nat) : Exit → Act → World → Prop
  | .normal, a, w => wpOp P ops Q d (Q .normal) a w
  | e, a, w => Q e a w
theorem upon_last {o : Oper} {a : Act} {K : Act → World → Prop} {r : Result Next} (h : o.upon P a K (LastQ P ops Q d) r) : o.upon P a K Q r := by
  cases r with
  | ok n w' =>
    cases n
    case enter f args => exact Calls.mono h fun e w'' he => by cases e <;> exact he
    all_goals exact h
  | halt x w' => cases x <;> exact h
theorem wpOp_last {i : Nat} {K : Act → World → Prop} {a : Act} {w : World} (h : wpOp P ops (LastQ P ops Q d) i K a w) : wpOp P ops Q i K a w := by
  cases ho : ops[i]? with
  | none => simpa [wpOp, ho] using h
  | some o =>
    simp only [wpOp, ho] at h ⊢
    split <;> rename_i hw
    · rw [if_pos hw] at h
      exact h.imp upon_last (fun h => ⟨h.1, h.2⟩)
    · rwa [if_neg hw] at h
/-- nobody waits for one that stands behind it -/
def onward (md : Region.Mode) (ops : Array Oper) : Bool :=
  (List.range ops.size).all fun i => ((ops[i]?).map fun o => o.after.all fun e => !Region.binds md e || decide (e.on < i)).getD false
/-- does number k wait for number i -/
def waitsFor (md : Region.Mode) (ops : Array Oper) (k i : Nat) : Bool := ((ops[k]?).map fun o => o.after.any fun e => Region.binds md e && e.on == i).getD false
/-- does number k wait for number i, or for one that waits for it, and so on -/
def waitsDeep (md : Region.Mode) (ops : Array Oper) : Nat → Nat → Nat → Bool
  | 0, k, i => waitsFor md ops k i
  | f + 1, k, i => waitsDeep md ops f k i || (List.range ops.size).any fun j => waitsFor md ops k j && waitsDeep md ops f j i
/-- number d waits for each other one -/
def waitsAll (md : Region.Mode) (ops : Array Oper) (d : Nat) : Bool := (List.range ops.size).all fun i => i == d || waitsDeep md ops 2 d i
theorem waitsFor_ready {k i : Nat} {listed : Array Bool} (hk : k ∈ Region.ready md ops listed) (h : waitsFor md ops k i = true) : listed.getD i false = true := by
  obtain ⟨_, o, ho, hall⟩ := mem_ready.1 hk
  simp only [waitsFor, ho, Option.map_some, Option.getD_some, Array.any_eq_true', Bool.and_eq_true, beq_iff_eq] at h
  obtain ⟨e, he, hb, rfl⟩ := h
  exact hall e he hb
/-- whoever has come up, those that it waits for have -/
def Whole (md : Region.Mode) (ops : Array Oper) (listed : Array Bool) : Prop := ∀ k i, waitsFor md ops k i = true → listed.getD k false = true → listed.getD i false = true
theorem Whole.deep {listed : Array Bool} (h : Whole md ops listed) : ∀ (f k i : Nat), waitsDeep md ops f k i = true → listed.getD k false = true → listed.getD i false = true
  | 0, k, i, hw, hk => h k i hw hk
  | f + 1, k, i, hw, hk => by
    simp only [waitsDeep, Bool.or_eq_true, List.any_eq_true, Bool.and_eq_true] at hw
    rcases hw with hw | ⟨j, _, h1, h2⟩
    · exact h.deep f k i hw hk
    · exact h.deep f j i h2 (h k j h1 hk)
theorem Whole.deep_ready {k : Nat} {listed : Array Bool} (h : Whole md ops listed) (hk : k ∈ Region.ready md ops listed) : ∀ (f i : Nat), waitsDeep md ops f k i = true → listed.getD i false = true
  | 0, i, hw => waitsFor_ready hk hw
  | f + 1, i, hw => by
    simp only [waitsDeep, Bool.or_eq_true, List.any_eq_true, Bool.and_eq_true] at hw
    rcases hw with hw | ⟨j, _, h1, h2⟩
    · exact h.deep_ready hk f i hw
    · exact h.deep f j i h2 (waitsFor_ready hk h1)
theorem Whole.step {k : Nat} {listed : Array Bool} (h : Whole md ops listed) (hk : k ∈ Region.ready md ops listed) : Whole md ops (listed.setIfInBounds k true) := by
  intro m i hw hm
  by_cases c : m = k
  · subst c; exact getD_set_true (waitsFor_ready hk hw)
  · rw [getD_set_ne false (Ne.symm c)] at hm
    exact getD_set_true (h m i hw hm)
theorem getD_both {l : Array Bool} {i : Nat} (hi : i < l.size) : l.getD i true = l.getD i false := by simp [hi]
/-- as long as one is left, one may come up -/
theorem none_left (hf : onward md ops = true) {listed : Array Bool} (hs : listed.size = ops.size) (hr : Region.ready md ops listed = []) : ∀ (m i : Nat), i < m → i < ops.size → listed.getD i false = true := by
  intro m
  induction m with
  | zero => intro i h; omega
  | succ m ih =>
    intro i _ hi
    cases hb : listed.getD i false with
    | true => rfl
    | false =>
      exfalso
      have ho : ops[i]? = some ops[i] := by simp [hi]
      have hin : i ∈ Region.ready md ops listed := by
        refine mem_ready.2 ⟨by rw [getD_both (by omega)]; exact hb, ops[i], ho, fun e he hbd => ?_⟩
        have h1 := List.all_eq_true.1 hf i (List.mem_range.2 hi)
        rw [ho] at h1
        have h2 := Array.all_eq_true_iff_forall_mem.1 h1 e he
        simp only [hbd, Bool.not_true, Bool.false_or, decide_eq_true_eq] at h2
        exact ih e.on (by omega) (by omega)
      rw [hr] at hin
      cases hin
/-- THE LAW: the others in whatever order, and then number d: that is all of them in whatever order -/
theorem wpAny_last (hf : onward md ops = true) (hw : waitsAll md ops d = true) (hd : d < ops.size) : ∀ (fuel : Nat) (listed : Array Bool) (a : Act) (w : World), listed.size = ops.size → Whole md ops listed → listed.getD d true = false →
    wpAny P md ops (LastQ P ops Q d) fuel (listed.setIfInBounds d true) a w → wpAny P md ops Q (fuel + 1) listed a w := by
  intro fuel
  induction fuel with
  | zero =>
    intro listed a w hs hcl hdl H
    refine ⟨fun h0 => ?_, fun i hi => ?_⟩
    · have := none_left hf hs h0 (d + 1) d (by omega) hd
      rw [← getD_both (by omega), hdl] at this
      cases this
    · by_cases c : i = d
      · subst c
        exact wpOp_mono (fun a' w' h => ⟨H.1, h⟩) H.2
      · have := ready_mono hi c
        rw [H.1] at this
        cases this
  | succ fuel ih =>
    intro listed a w hs hcl hdl H
    refine ⟨fun h0 => ?_, fun i hi => ?_⟩
    · have := none_left hf hs h0 (d + 1) d (by omega) hd
      rw [← getD_both (by omega), hdl] at this
      cases this
    · by_cases c : i = d
      · subst c
        have hE : Region.ready md ops (listed.setIfInBounds i true) = [] := by
          refine List.eq_nil_iff_forall_not_mem.2 (fun j hj => ?_)
          obtain ⟨hj0, oj, hoj, _⟩ := mem_ready.1 hj
          have hjs : j < ops.size := (Array.getElem?_eq_some_iff.1 hoj).1
          by_cases cj : j = i
          · subst cj
            simp [hs, hd] at hj0
          · rw [getD_set_ne true (Ne.symm cj)] at hj0
            have h1 := List.all_eq_true.1 hw j (List.mem_range.2 hjs)
            simp only [Bool.or_eq_true, beq_iff_eq, cj, false_or] at h1
            have h2 : listed.getD j false = true := hcl.deep_ready hi 2 j h1
            rw [← getD_both (by omega), hj0] at h2
            cases h2
        exact wpOp_mono (fun a' w' h => wpAny_done hE h _) (H.1 hE)
      · refine wpOp_mono (fun a' w' h => ih (listed.setIfInBounds i true) a' w' (by simpa using hs) (hcl.step hi) (by rw [getD_set_ne true c]; exact hdl) ?_) (wpOp_last (H.2 i (ready_mono hi c)))
        rw [Array.setIfInBounds_comm _ _ c]
        exact h
/-- the beginning: the others, in whatever order, while S holds -/
theorem wp_region_last {id fuel : Nat} {a : Act} {w : World} (hm : P.follows .mixedOrders = true) (hc : (onward .any ops && waitsAll .any ops d && decide (d < ops.size)) = true) (hfu : fuel + 1 = ops.size) (hS : S w.drew)
    (h : S w.drew → wpAnyH P .any ops (LastQ P ops Q d) S fuel ((Array.replicate ops.size false).setIfInBounds d true) a w.drew) : (Code.region id ops true).wp P Q a w := by
  simp only [Bool.and_eq_true, decide_eq_true_eq] at hc
  refine wp_region_any hm ?_
  rw [← hfu]
  have := wpAny_last (P := P) (Q := Q) hc.1.1 hc.1.2 hc.2 fuel (Array.replicate ops.size false) a w.drew (by simp) (fun k i _ h => by simp [Array.getElem?_replicate] at h; split at h <;> simp at h) (by simp [hc.2]) (wpAny_of_held _ _ _ _ (h hS))
  rw [← hfu] at this
  exact this
/-- the end: number d alone is left -/
theorem last_step {o : Oper} {fuel : Nat} {listed : Array Bool} {a : Act} {w : World} (ho : ops[d]? = some o) (hr : Region.ready md ops listed = [])
    (h : ∀ K' : Act → World → Prop, Shut (∀ a w, Q .normal a w → K' a w) → if Region.wanted o (yielded ops a.tmps) = true then Oper.wp P o a w K' Q else K' (a.put o.dst undef) w) : wpAnyH P md ops (LastQ P ops Q d) S fuel listed a w :=
  wpAnyH_done hr (wpOp_step ho (fun K' hK => h K' hK)) fuel
end
end Wd
end Go.Proofs.YtdaojohdmidemaaGreat

/- Rows of numbers: what an append reads and leaves; the book's small functions. -/
namespace Go.Proofs.YtdaojohdmidemaaGreat
open Go.RowKit
set_option linter.unusedVariables false
namespace Wd
theorem info3 : (Tryz.prog.info? 3).map (fun i => (i.zero, i.size, i.bytes)) = some (some (.int .i64 0), 1, 8) := by kernel_rfl
theorem ints_one (L : List Int) : ∀ u ∈ ints L, u.oneCell' = true := by
  intro u hu
  obtain ⟨x, _, rfl⟩ := List.mem_map.1 hu
  rfl
theorem ints_len (L : List Int) : (ints L).length = L.length * 1 := by simp [ints]
theorem drop_at (L : List Int) (k : Nat) : ∀ j x, (L.drop k)[j]? = some x → L[k + j]? = some x := by
  intro j x h; rw [List.getElem?_drop] at h; exact h
theorem take_at (L : List Int) (k : Nat) : ∀ j x, (L.take k)[j]? = some x → L[0 + j]? = some x := by
  intro j x h
  rw [List.getElem?_take] at h
  split at h
  · rw [Nat.zero_add]; exact h
  · cases h
theorem news_at {w : World} {e : TypeId} {g n cap k : Nat} {L M : List Int} (h : w.ownsRow 0 e 1 (.slice (some ⟨g, 0, none⟩) n cap) n (ints L)) (hM : ∀ j x, M[j]? = some x → L[k + j]? = some x) :
    ∀ j u, (ints M)[j]? = some u → w.cell? ((⟨g, k, none⟩ : Addr).add j) = some u := by
  intro j u hu
  simp only [ints, List.getElem?_map, Option.map_eq_some_iff] at hu
  obtain ⟨x, hx, rfl⟩ := hu
  rw [Addr.add_lit]
  exact row_cell h (hM j x hx)
theorem one_at {w : World} {g : Nat} {i : Int} (h : w.cell? ⟨g, 0, none⟩ = some (.int .i64 i)) : ∀ j u, (ints [i])[j]? = some u → w.cell? ((⟨g, 0, none⟩ : Addr).add j) = some u := by
  intro j u hu
  match j, hu with
  | 0, hu =>
    simp [ints] at hu; subst hu
    rw [Addr.add_lit]; exact h
theorem cell_up {w w' : World} (g : Below w.heap.size w w') {p : Addr} {v : Value} (h : w.cell? p = some v) : w'.cell? p = some v := (g.cell (World.block_lt_of_cell? w p h)).trans h
theorem slice_form {w : World} {e : TypeId} {base size n : Nat} {v : Value} {xs : List Value} (h : w.ownsRow base e size v n xs) : ∃ a m c, v = .slice a m c := by
  rcases h.2 with ⟨rfl, _⟩ | ⟨g, cap, cur, rfl, _⟩ <;> exact ⟨_, _, _, rfl⟩
theorem own_base {w : World} {base : Nat} {e : TypeId} {size n : Nat} {v : Value} {xs : List Value} (h : w.ownsRow base e size v n xs) : w.ownsRow 0 e size v n xs := by
  refine ⟨h.1, ?_⟩
  rcases h.2 with h | ⟨g, cap, cur, h1, _, h3⟩
  · exact Or.inl h
  · exact Or.inr ⟨g, cap, cur, h1, Nat.zero_le _, h3⟩
theorem SL.keep {w w' : World} {e : TypeId} {v : Value} {L : List Int} (h : SL w e v L) (b : Below w.heap.size w w') : SL w' e v L :=
  World.ownsRow.kept h ⟨b.os, b.tape, b.output, b.size, fun k hk _ => b.block k hk⟩ (row := none) (by cases v.ownBlock <;> simp)
theorem grown_refl (w : World) (b : Option Nat) : w.grownBy w b := ⟨rfl, rfl, rfl, Nat.le_refl _, fun _ _ _ => rfl⟩
theorem tmod_split (n D : Int) (hD : 1 ≤ D) : ∃ r, n.tmod D = r ∧ -D < r ∧ r < D ∧ ((0 ≤ r ∧ n % D = r) ∨ (r < 0 ∧ n % D = r + D)) := by
  have h1 := Int.tmod_lt_of_pos n (show 0 < D by omega)
  have h2 : -D < n.tmod D := by have := Int.tmod_lt_of_pos (-n) (show 0 < D by omega); rw [Int.neg_tmod] at this; omega
  refine ⟨_, rfl, h2, h1, ?_⟩
  have key := Int.tmod_add_mul_tdiv n D
  generalize n.tmod D = r at *
  generalize n.tdiv D = q at *
  by_cases h : 0 ≤ r
  · left
    refine ⟨h, ?_⟩
    rw [← key, Int.add_mul_emod_self_left]
    exact Int.emod_eq_of_lt h h1
  · right
    refine ⟨by omega, ?_⟩
    have e : n = (r + D) + D * (q - 1) := by rw [Int.mul_sub, Int.mul_one]; omega
    rw [e, Int.add_mul_emod_self_left]
    exact Int.emod_eq_of_lt (by omega) (by omega)
/-- a number brought into lo .. hi -/
def within (n lo hi : Int) : Int := if lo ≤ n ∧ n ≤ hi then n else lo + n % (hi - lo + 1)
set_option maxHeartbeats 16000000 in
theorem within_c (n lo hi : Int) (h1 : -9223372036854775808 ≤ n) (h2 : n ≤ 9223372036854775807) (h3 : -1000000 ≤ lo) (h4 : lo ≤ hi) (h5 : hi ≤ 1000000) (w : World) :
    Calls Tryz.prog 8 #[.int .i64 n, .int .i64 lo, .int .i64 hi] w fun e w' => e = .returned (.int .i64 (within n lo hi)) ∧ w' = w := by
  by_cases c1 : lo ≤ n
  · by_cases c2 : n ≤ hi
    · have e : within n lo hi = n := if_pos ⟨c1, c2⟩
      rw [e]
      go_enter Tryz.func8, Tryz.ntmps8
      go_wp2
      go_ret
      exact ⟨rfl, rfl⟩
    · have e : within n lo hi = lo + n % (hi - lo + 1) := if_neg (fun h => c2 h.2)
      obtain ⟨r, hr, r1, r2, ⟨r3, r4⟩ | ⟨r3, r4⟩⟩ := tmod_split n (hi - lo + 1) (by omega)
      all_goals
        rw [r4] at e
        rw [e]; clear e r4
        go_enter Tryz.func8, Tryz.ntmps8
        go_wp2
        go_ret
        exact ⟨by first | rfl | (refine congrArg Ending.returned (congrArg (Value.int .i64) ?_); omega), rfl⟩
  · have e : within n lo hi = lo + n % (hi - lo + 1) := if_neg (fun h => c1 h.1)
    obtain ⟨r, hr, r1, r2, ⟨r3, r4⟩ | ⟨r3, r4⟩⟩ := tmod_split n (hi - lo + 1) (by omega)
    all_goals
      rw [r4] at e
      rw [e]; clear e r4
      go_enter Tryz.func8, Tryz.ntmps8
      go_wp2
      go_ret
      exact ⟨by first | rfl | (refine congrArg Ending.returned (congrArg (Value.int .i64) ?_); omega), rfl⟩
theorem within_bd (n lo hi : Int) (h : lo ≤ hi) : lo ≤ within n lo hi ∧ within n lo hi ≤ hi := by
  unfold within
  split
  · rename_i h'; exact h'
  · have h1 := Int.emod_nonneg n (show hi - lo + 1 ≠ 0 by omega)
    have h2 := Int.emod_lt_of_pos n (show 0 < hi - lo + 1 by omega)
    omega
theorem SL.form {w : World} {e : TypeId} {v : Value} {L : List Int} (h : SL w e v L) : ∃ a c, v = .slice a L.length c := by
  rcases h.2 with ⟨rfl, h0⟩ | ⟨g, cap, cur, rfl, _⟩
  · exact ⟨_, _, by rw [h0]⟩
  · exact ⟨_, _, rfl⟩
theorem take_same {A B : List Int} {k : Nat} {x : Int} (h : A.take k = B.take k) (ha : A[k]? = some x) (hb : B[k]? = some x) : A.take (k + 1) = B.take (k + 1) := by
  rw [List.take_add_one, List.take_add_one, h, ha, hb]
theorem take_all {A B : List Int} {n : Nat} (h : A.take n = B.take n) (ha : n = A.length) (hb : n = B.length) : A = B := by
  rw [ha, List.take_length] at h
  rw [← ha, hb, List.take_length] at h
  exact h
set_option maxHeartbeats 16000000 in
theorem same_ints (A B : List Int) (u v : Value) (w : World) (ha : SL w 3 u A) (hb : SL w 3 v B) (la : A.length ≤ 8192) (lb : B.length ≤ 8192) :
    Calls Tryz.prog 32 #[u, v] w fun e w' => e = .returned (.bool (decide (A = B))) ∧ ∃ q, w' = w.drewN q := by
  by_cases hl : A.length = B.length
  · by_cases hz : A.length = 0
    · have e : decide (A = B) = true := by
        have h1 := List.length_eq_zero_iff.1 hz
        have h2 := List.length_eq_zero_iff.1 (hl ▸ hz)
        simp [h1, h2]
      obtain ⟨a, c, rfl⟩ := ha.form
      obtain ⟨a', c', rfl⟩ := hb.form
      rw [e, ← hl, hz]
      clear e ha hb hl hz la lb
      go_enter Tryz.func32, Tryz.ntmps32
      go_wp2
      refine wp_loop_rounds 1 ?_
      rw [rounds_succ]
      go_wp2
      go_ret
      exact ⟨rfl, 0, rfl⟩
    · rcases ha.cases with ⟨_, rfl⟩ | ⟨g, cap, rfl, hle, hm, hg, hown⟩
      · exact absurd rfl hz
      rcases hb.cases with ⟨_, rfl⟩ | ⟨g', cap', rfl, hle', hm', hg', hown'⟩
      · exact absurd hl hz
      obtain ⟨n, hn⟩ : ∃ n, n = A.length := ⟨_, rfl⟩
      have hn' : n = B.length := hn.trans hl
      rw [← hn] at hle la
      rw [← hn'] at hle' lb
      rw [← hn, ← hn']
      have HA := Lib.hid hown
      have HB := Lib.hid hown'
      have HN := Lib.hid hn
      have HN' := Lib.hid hn'
      clear ha hb hown hown' hl hz hn hn'
      go_enter Tryz.func32, Tryz.ntmps32
      go_wp2
      go_loopw [5] (fun i wr => ∃ k : Nat, k ≤ n ∧ i = .int .i64 k ∧ Hid (A.take k = B.take k) ∧ ∃ q, wr = w.drewN q) (fun i _ => n - (intOf i).toNat)
      case atStart => exact ⟨0, by omega, rfl, Lib.hid (by simp), 0, rfl⟩
      case round =>
        obtain ⟨k, hk, rfl, ht, q, rfl⟩ := hrel
        by_cases hlt : k < n
        · have hlt' : decide ((k : Int) < (n : Int)) = true := by simp; omega
          obtain ⟨x, hx⟩ : ∃ x, A[k]? = some x := ⟨A[k]'(by have := HN.out; omega), by simp⟩
          obtain ⟨y, hy⟩ : ∃ y, B[k]? = some y := ⟨B[k]'(by have := HN'.out; omega), by simp⟩
          have cx := row_cell HA.out hx
          have cy := row_cell HB.out hy
          have p0 : (0 : Int) ≤ (k : Int) := by omega
          have p1 : (k : Int) < (n : Int) := by omega
          by_cases he : x = y
          · subst he
            have H1 := Lib.hid (take_same ht.out hx hy)
            clear hx hy
            go_wp2
            go_quiet (fail)
            go_wp2
            go_roundw
            case rel => exact ⟨k + 1, by omega, by go_num, H1, _, rfl⟩
            case measure => simp [intOf]; omega
          · have e : decide (A = B) = false := by
              simp only [decide_eq_false_iff_not]
              intro h
              rw [h, hy] at hx
              exact he (Option.some.inj hx).symm
            have he' : (x != y) = true := by simpa using he
            clear hx hy
            go_wp2
            go_quiet (fail)
            go_wp2
            go_ret
            exact ⟨by rw [e]; rfl, _, World.drewN_drewN ..⟩
        · have e : decide (A = B) = true := by
            have hkn : k = n := by omega
            have h2 := ht.out
            rw [hkn] at h2
            simpa using take_all h2 HN.out HN'.out
          go_wp2
          go_ret
          exact ⟨by rw [e]; rfl, q, rfl⟩
  · have e : decide (A = B) = false := by
      simp only [decide_eq_false_iff_not]
      intro h; exact hl (by rw [h])
    obtain ⟨a, c, rfl⟩ := ha.form
    obtain ⟨a', c', rfl⟩ := hb.form
    have hl' : ((A.length : Int) != (B.length : Int)) = true := by simp only [bne_iff_ne, ne_eq]; omega
    rw [e]
    clear e ha hb
    go_enter Tryz.func32, Tryz.ntmps32
    go_wp2
    go_ret
    exact ⟨rfl, 0, rfl⟩
/-- 0, 1, .. m less 1 -/
def rng (m : Nat) : List Int := (List.range m).map (fun (k : Nat) => (k : Int))
theorem rng_succ (m : Nat) : rng (m + 1) = rng m ++ [(m : Int)] := by simp [rng, List.range_succ]
theorem rng_len (m : Nat) : (rng m).length = m := by simp [rng]
theorem rng_nd (m : Nat) : (rng m).Nodup := by
  unfold rng
  rw [List.Nodup, List.pairwise_map]
  exact (List.nodup_range (n := m)).imp (fun h e => h (by omega))
/-- what an append reads: nothing, or a row of numbers -/
def Reads (w : World) (u : Value) (M : List Int) : Prop := (u = .slice none 0 0 ∧ M = []) ∨ ∃ ad c, u = .slice (some ad) M.length c ∧ ∀ j x, (ints M)[j]? = some x → w.cell? (ad.add j) = some x
theorem SL.reads {w : World} {e : TypeId} {v : Value} {M : List Int} (h : SL w e v M) : Reads w v M := by
  rcases h.cases with ⟨rfl, rfl⟩ | ⟨g, cap, rfl, _, _, _, hown⟩
  · exact Or.inl ⟨rfl, rfl⟩
  · refine Or.inr ⟨_, _, rfl, fun j x hx => ?_⟩
    simp only [ints, List.getElem?_map, Option.map_eq_some_iff] at hx
    obtain ⟨y, hy, rfl⟩ := hx
    rw [Addr.add_lit, Nat.zero_add]
    exact row_cell hown hy
theorem Reads.one {w : World} {g : Nat} {i : Int} (h : w.cell? ⟨g, 0, none⟩ = some (.int .i64 i)) : Reads w (.slice (some ⟨g, 0, none⟩) 1 1) [i] := Or.inr ⟨_, _, rfl, one_at h⟩
/-- nothing is appended -/
theorem run_app_nil {P : Program} (w : World) (base : Nat) (t ty e : TypeId) (i : TypeInfo) (size n : Nat) (ht : P.underlying t = some (.slice e)) (hi : P.info? e = some i) (v : Value) (xs : List Value) (hown : w.ownsRow base e size v n xs) :
    (Builtin.append_ #[t, t] ty #[v, .slice none 0 0]).run P w = .ok v w := by
  rcases hown.2 with ⟨rfl, rfl⟩ | ⟨g, cap, cur, rfl, _, _, hle, _⟩
  · simp [Builtin.append_, run_underlying ht, sizeOf, typeInfo, hi, Builtin.lenOf, Builtin.firstCells]
  · simp [Builtin.append_, run_underlying ht, sizeOf, typeInfo, hi, Builtin.lenOf, Builtin.firstCells, hle, storeCells]
/-- an append of a row of numbers, or of none, onto a row of numbers of the call's own -/
theorem run_app (w : World) (base n : Nat) (v u : Value) (X M : List Int) (ty : TypeId) (hown : w.ownsRow base 3 1 v n (ints X)) (hu : Reads w u M) (h63 : n + M.length ≤ 100000) (hbase : base ≤ w.heap.size) :
    ∃ v' w', (Builtin.append_ #[56, 56] ty #[v, u]).run Tryz.prog w = .ok v' w' ∧ w'.ownsRow base 3 1 v' (n + M.length) (ints (X ++ M)) ∧ w.grownBy w' v.ownBlock ∧ (v'.ownBlock = v.ownBlock ∨ v'.ownBlock = some w.heap.size) := by
  obtain ⟨i0, hi0, hz0, hz1, hz2⟩ := info_parts info3
  rcases hu with ⟨rfl, rfl⟩ | ⟨ad, c, rfl, hc⟩
  · refine ⟨v, w, run_app_nil w base 56 ty 3 i0 1 n Tryz.underlying56 hi0 v _ hown, by simpa using hown, grown_refl _ _, Or.inl rfl⟩
  · have hmx : 100000 ≤ maxLen := by decide
    obtain ⟨v', w', hr, h2, h3, _, h5⟩ := run_append_own_at (P := Tryz.prog) w base 56 ty 3 i0 (.int .i64 0) 1 8 Tryz.underlying56 hi0 hz0 hz1 hz2 rfl (by decide) v n (ints X) hown ad M.length c (ints M) (ints_len M) hc (ints_one _) (by omega) (by omega) hbase
    exact ⟨v', w', hr, by simpa [ints] using h2, h3, h5⟩
/-- the same, at a step of a region that draws -/
theorem step_app {w : World} {ops : Array Oper} {o : Oper} {a : Act} {K : Act → World → Prop} {Q : Exit → Act → World → Prop} {E : Prop} (hgd : o.guard = none) (s x : Operand)
    (ho : o.op = .call { callee := .builtin .append, args := #[s, x], argTypes := #[56, 56] }) (base n : Nat) (v u : Value) (X M : List Int) (hs : a.eval s = v) (hx : a.eval x = u)
    (hown : w.ownsRow base 3 1 v n (ints X)) (hu : Reads w u M) (h63 : n + M.length ≤ 100000) (hbase : base ≤ w.heap.size)
    (h : ∀ v' w', w'.ownsRow base 3 1 v' (n + M.length) (ints (X ++ M)) → w.grownBy w' v.ownBlock → (v'.ownBlock = v.ownBlock ∨ v'.ownBlock = some w.heap.size) → K (a.put o.dst v') w') :
    if Region.wanted o (yielded ops a.tmps) = true then Oper.wp Tryz.prog o a w K Q else E := by
  have hw : Region.wanted o (yielded ops a.tmps) = true := by simp [Region.wanted, hgd]
  rw [if_pos hw]
  obtain ⟨v', w', hr, h2, h3, h5⟩ := run_app w base n v u X M o.type hown hu h63 hbase
  unfold Oper.wp execOp
  simp only [ho, resolve, invoke, builtin, Sem.run_bind, Sem.run_pure, Result.andThen_ok, List.map_toArray, List.map_cons, List.map_nil, hs, hx, hr]
  exact h v' w' h2 h3 h5
/-- the same, at the head of a list of operations -/
theorem wpList_app {w : World} {ops : Array Oper} {rest : List Oper} {o : Oper} {a : Act} {Q : Exit → Act → World → Prop} (hgd : o.guard = none) (s x : Operand)
    (ho : o.op = .call { callee := .builtin .append, args := #[s, x], argTypes := #[56, 56] }) (base n : Nat) (v u : Value) (X M : List Int) (hs : a.eval s = v) (hx : a.eval x = u)
    (hown : w.ownsRow base 3 1 v n (ints X)) (hu : Reads w u M) (h63 : n + M.length ≤ 100000) (hbase : base ≤ w.heap.size)
    (h : ∀ v' w', w'.ownsRow base 3 1 v' (n + M.length) (ints (X ++ M)) → w.grownBy w' v.ownBlock → (v'.ownBlock = v.ownBlock ∨ v'.ownBlock = some w.heap.size) → wpList Tryz.prog ops Q rest (a.put o.dst v') w') :
    wpList Tryz.prog ops Q (o :: rest) a w := by
  refine wpList_plain hgd fun K hK => ?_
  obtain ⟨v', w', hr, h2, h3, h5⟩ := run_app w base n v u X M o.type hown hu h63 hbase
  unfold Oper.wp execOp
  simp only [ho, resolve, invoke, builtin, Sem.run_bind, Sem.run_pure, Result.andThen_ok, List.map_toArray, List.map_cons, List.map_nil, hs, hx, hr]
  exact hK _ _ (h v' w' h2 h3 h5)
end Wd
end Go.Proofs.YtdaojohdmidemaaGreat

/- The document's own table: what it is, and Of. -/
namespace Go.Proofs.YtdaojohdmidemaaGreat
open Go.RowKit
set_option linter.unusedVariables false
namespace Wd
abbrev Pl := Int × Int
/-- identities' places -/
abbrev Tst := Nat → Option Pl
def plV (p : Pl) : Value := .agg #[.int .i64 p.1, .int .i64 p.2]
def firstIn (P : Nat → Bool) : Option Nat := (List.range' 4 1020).find? P
theorem firstIn_hit {P : Nat → Bool} {k : Nat} (h4 : 4 ≤ k) (hk : k < 1024) (hn : ∀ j, 4 ≤ j → j < k → P j = false) (hp : P k = true) : firstIn P = some k := by
  unfold firstIn
  rw [List.find?_range'_eq_some]
  exact ⟨hp, by rw [List.mem_range'_1]; omega, fun j h1 h2 => by rw [hn j h1 h2]; rfl⟩
theorem firstIn_none {P : Nat → Bool} (hn : ∀ j, 4 ≤ j → j < 1024 → P j = false) : firstIn P = none := by
  unfold firstIn
  rw [List.find?_range'_eq_none]
  intro j h1 h2
  rw [hn j h1 (by omega)]; rfl
theorem firstIn_some {P : Nat → Bool} {k : Nat} (h : firstIn P = some k) : 4 ≤ k ∧ k < 1024 ∧ P k = true ∧ ∀ j, 4 ≤ j → j < k → P j = false := by
  unfold firstIn at h
  rw [List.find?_range'_eq_some] at h
  obtain ⟨h1, h2, h3⟩ := h
  rw [List.mem_range'_1] at h2
  exact ⟨h2.1, by omega, h1, fun j a b => by simpa using h3 j a b⟩
theorem firstIn_no {P : Nat → Bool} (h : firstIn P = none) : ∀ j, 4 ≤ j → j < 1024 → P j = false := by
  unfold firstIn at h
  rw [List.find?_range'_eq_none] at h
  intro j a b
  simpa using h j a (by omega)
/-- whose the place is -/
def ofR (T : Tst) (p : Pl) : Option Nat := firstIn (fun id => T id == some p)
def ofI (T : Tst) (p : Pl) : Int := (((ofR T p).getD 0 : Nat) : Int)
/-- the least one that is free -/
def freeR (T : Tst) : Option Nat := firstIn (fun id => (T id).isNone)
def updT (T : Tst) (k : Nat) (v : Option Pl) : Tst := fun j => if j = k then v else T j
def frI : Option Nat → Int | some k => (k : Int) | none => -1
def frT (T : Tst) (p : Pl) : Option Nat → Tst | some k => updT T k (some p) | none => T
def takeI (T : Tst) (p : Pl) : Int := if (ofR T p).isSome then -1 else frI (freeR T)
def takeT (T : Tst) (p : Pl) : Tst := if (ofR T p).isSome then T else frT T p (freeR T)
def hasT (T : Tst) (i : Int) : Bool := decide (0 ≤ i) && (decide (i < 1024) && (T i.toNat).isSome)
def giveT (T : Tst) (i : Int) : Tst := if hasT T i then updT T i.toNat none else T
def swapB (T : Tst) (a b : Int) : Bool := hasT T a && hasT T b
def swapT (T : Tst) (a b : Int) : Tst := if swapB T a b then updT (updT T a.toNat (T b.toNat)) b.toNat (T a.toNat) else T
def idsT (T : Tst) : List Int := ((List.range 1024).filter (fun k => (T k).isSome)).map (fun (k : Nat) => (k : Int))
def inR (T : Tst) (k : Nat) : Bool := (T k).isSome
def szR (T : Tst) (k : Nat) : Int := ((T k).getD (0, 0)).1
def clR (T : Tst) (k : Nat) : Int := ((T k).getD (0, 0)).2
/-- a table of the document's own, at block b -/
structure RefT (X : Nat → Option Value) (w : World) (b : Nat) (T : Tst) : Prop where
  ci : ∀ k, k < 1024 → w.cell? ⟨b, k, none⟩ = some (.bool (inR T k))
  cs : ∀ k, k < 1024 → w.cell? ⟨b, 1024 + k * 2, none⟩ = some (.int .i64 (szR T k))
  cl : ∀ k, k < 1024 → w.cell? ⟨b, 1024 + k * 2 + 1, none⟩ = some (.int .i64 (clR T k))
  z : ∀ k, w.frozen? ⟨b, k, none⟩ = false
  x : ∀ k, 3072 ≤ k → w.cell? ⟨b, k, none⟩ = X k
section
variable {X : Nat → Option Value}
theorem RefT.lt {w : World} {b : Nat} {T : Tst} (h : RefT X w b T) : b < w.heap.size := World.block_lt_of_cell? w _ (h.ci 0 (by decide))
theorem RefT.same {w w' : World} {b : Nat} {T : Tst} (h : RefT X w b T) (hb : w'.heap[b]? = w.heap[b]?) : RefT X w' b T :=
  ⟨fun k hk => (World.cell?_of_block (a := ⟨b, k, none⟩) hb).trans (h.ci k hk), fun k hk => (World.cell?_of_block (a := ⟨b, 1024 + k * 2, none⟩) hb).trans (h.cs k hk), fun k hk => (World.cell?_of_block (a := ⟨b, 1024 + k * 2 + 1, none⟩) hb).trans (h.cl k hk), fun k => (World.frozen?_of_block (a := ⟨b, k, none⟩) hb).trans (h.z k), fun k hk => (World.cell?_of_block (a := ⟨b, k, none⟩) hb).trans (h.x k hk)⟩
theorem RefT.keep {w w' : World} {b : Nat} {T : Tst} (h : RefT X w b T) (g : Below w.heap.size w w') : RefT X w' b T := h.same (g.block b h.lt)
/-- so far nobody has it -/
structure OSt (w : World) (T : Tst) (p : Pl) (q k : Nat) (wr : World) : Prop where
  bel : Below w.heap.size w wr
  c0 : wr.cell? ⟨q, 0, none⟩ = some (.int .i64 p.1)
  c1 : wr.cell? ⟨q, 1, none⟩ = some (.int .i64 p.2)
  em : ∀ j, 4 ≤ j → j < k → (T j == some p) = false
theorem OSt.next {w wr : World} {T : Tst} {p : Pl} {q k : Nat} (h : OSt w T p q k wr) (hk : (T k == some p) = false) : OSt w T p q (k + 1) wr.drew :=
  ⟨h.bel.drew, h.c0, h.c1, fun j h4 hj => by
    by_cases c : j = k
    · subst c; exact hk
    · exact h.em j h4 (by omega)⟩
set_option maxHeartbeats 4000000 in
theorem rof_c (p : Pl) {w : World} {b : Nat} {T : Tst} (h : RefT X w b T) :
    Calls Tryz.prog 72 #[.pointer (some ⟨b, 0, none⟩), plV p] w fun e w' => e = .returned (.tuple #[.int .i64 (ofI T p), .bool (ofR T p).isSome]) ∧ Below w.heap.size w w' := by
  obtain ⟨pa, pc⟩ := p
  unfold plV
  have S0 : OSt w T (pa, pc) w.heap.size 4 (w.alloc (.cells #[.int .i64 pa, .int .i64 pc] 71)) :=
    ⟨(Below.refl _ _).alloc (Nat.le_refl _) _, by simp, by simp, fun j h1 h2 => by omega⟩
  replace S0 := Lib.hid S0
  replace h := Lib.hid h
  go_enter Tryz.func72, Tryz.ntmps72
  go_wp2
  go_loopw [6] (fun i wr => ∃ k : Nat, 4 ≤ k ∧ k ≤ 1024 ∧ i = .int .i64 k ∧ OSt w T (pa, pc) w.heap.size k wr) (fun i _ => 1024 - (intOf i).toNat)
  case atStart => exact ⟨4, by omega, by omega, rfl, S0.out⟩
  case round =>
    obtain ⟨k, hk4, hk, rfl, hR⟩ := hrel
    by_cases hlt : k < 1024
    · have hlt' : decide ((k : Int) < 1024) = true := by simp; omega
      have hk1 : (k : Int) < 1024 := by omega
      have hw : IntKind.i64.wrap ((k : Int) + 1) = (k : Int) + 1 := by rw [IntKind.wrap_i64]; omega
      have hr := h.out.keep hR.bel
      have ci := hr.ci k hlt
      have cs := hr.cs k hlt
      have cl := hr.cl k hlt
      have c0 := hR.c0
      have c1 := hR.c1
      unfold inR at ci
      unfold szR at cs
      unfold clR at cl
      rcases hT : T k with _ | ⟨sa, sc⟩
      · rw [hT] at ci cs cl
        simp only [Option.isSome] at ci
        have hN := Lib.hid (hR.next (by rw [hT]; rfl))
        replace hR := Lib.hid hR
        clear hr cs cl hT
        go_wp2
        go_region
        go_wp2
        go_roundw
        case rel => exact ⟨k + 1, by omega, by omega, by go_num, hN.out⟩
        case measure => simp [intOf]; omega
      · rw [hT] at ci cs cl
        simp only [Option.isSome, Option.getD] at ci cs cl
        by_cases ea : sa = pa
        · by_cases ec : sc = pc
          · subst ea ec
            have e1 : ofR T (sa, sc) = some k := firstIn_hit hk4 hlt (fun j a b => hR.em j a b) (by show (T k == some (sa, sc)) = true; rw [hT]; simp)
            have e2 : Hid ((Ending.returned (.tuple #[.int .i64 (k : Int), .bool true])) = .returned (.tuple #[.int .i64 (ofI T (sa, sc)), .bool (ofR T (sa, sc)).isSome])) := Lib.hid (by unfold ofI; rw [e1]; rfl)
            replace hR := Lib.hid hR
            clear hT e1 hr
            go_wp2
            go_region
            go_wp2
            go_ret2
            exact ⟨e2.out, hR.out.bel.drew⟩
          · have hN := Lib.hid (hR.next (by rw [hT]; simp [ec]))
            replace hR := Lib.hid hR
            clear hr hT
            go_wp2
            go_region
            go_wp2
            go_roundw
            case rel => exact ⟨k + 1, by omega, by omega, by go_num, hN.out⟩
            case measure => simp [intOf]; omega
        · have hN := Lib.hid (hR.next (by rw [hT]; simp [ea]))
          replace hR := Lib.hid hR
          clear hr hT
          go_wp2
          go_region
          go_wp2
          go_roundw
          case rel => exact ⟨k + 1, by omega, by omega, by go_num, hN.out⟩
          case measure => simp [intOf]; omega
    · have e : k = 1024 := by omega
      subst e
      have e1 : ofR T (pa, pc) = none := firstIn_none (fun j a b => hR.em j a b)
      have e2 : Hid ((Ending.returned (.tuple #[.int .i64 0, .bool false])) = .returned (.tuple #[.int .i64 (ofI T (pa, pc)), .bool (ofR T (pa, pc)).isSome])) := Lib.hid (by unfold ofI; rw [e1]; rfl)
      replace hR := Lib.hid hR
      clear e1
      go_wp2
      go_ret2
      exact ⟨e2.out, hR.out.bel⟩
end
end Wd
end Go.Proofs.YtdaojohdmidemaaGreat

/- The document's own table: Has, Take, Give, Swap. -/
namespace Go.Proofs.YtdaojohdmidemaaGreat
open Go.RowKit
set_option linter.unusedVariables false
namespace Wd
/-- w' is w, but for the blocks of F and new ones -/
structure Ch (F : Nat → Prop) (w w' : World) : Prop where
  os : w'.os = w.os
  tape : w'.tape = w.tape
  output : w'.output = w.output
  size : w.heap.size ≤ w'.heap.size
  block : ∀ k, k < w.heap.size → ¬ F k → w'.heap[k]? = w.heap[k]?
/-- F' has no block but those of F and new ones -/
def Newer (F F' : Nat → Prop) (s : Nat) : Prop := ∀ k, F' k → F k ∨ s ≤ k
theorem Ch.refl (F : Nat → Prop) (w : World) : Ch F w w := ⟨rfl, rfl, rfl, Nat.le_refl _, fun _ _ _ => rfl⟩
theorem Ch.trans {F : Nat → Prop} {w w1 w2 : World} (h : Ch F w w1) (g : Ch F w1 w2) : Ch F w w2 :=
  ⟨g.os.trans h.os, g.tape.trans h.tape, g.output.trans h.output, Nat.le_trans h.size g.size, fun k hk hF => (g.block k (Nat.lt_of_lt_of_le hk h.size) hF).trans (h.block k hk hF)⟩
theorem Ch.set {F : Nat → Prop} {w w1 : World} (h : Ch F w w1) (a : Addr) (ha : F a.block) (v : Value) : Ch F w (w1.setCell a v) :=
  ⟨h.os, h.tape, h.output, by simpa [World.setCell] using h.size, fun k hk hF => (Below.heap_setCell _ _ _ _ (fun e => hF (by rw [e]; exact ha))).trans (h.block k hk hF)⟩
theorem Ch.drew {F : Nat → Prop} {w w1 : World} (h : Ch F w w1) : Ch F w w1.drew := ⟨h.os, h.tape, h.output, h.size, h.block⟩
theorem below_toCh {w w' : World} (F : Nat → Prop) (b : Below w.heap.size w w') : Ch F w w' := ⟨b.os, b.tape, b.output, b.size, fun k hk _ => b.block k hk⟩
theorem below_ch {w wr w1 : World} {F : Nat → Prop} (h : Below w.heap.size w wr) (c : Ch F wr w1) (hF : ∀ k, F k → w.heap.size ≤ k) : Below w.heap.size w w1 :=
  ⟨c.os.trans h.os, c.tape.trans h.tape, c.output.trans h.output, Nat.le_trans h.size c.size, fun k hk => (c.block k (Nat.lt_of_lt_of_le hk h.size) (fun e => by have := hF k e; omega)).trans (h.block k hk)⟩
theorem Ch.mono {F G : Nat → Prop} {w w' : World} (h : Ch F w w') (hFG : ∀ k, F k → G k) : Ch G w w' := ⟨h.os, h.tape, h.output, h.size, fun k hk hn => h.block k hk (fun hF => hn (hFG k hF))⟩
section
variable {X : Nat → Option Value} {w : World} {b : Nat} {T : Tst}
theorem hasT_out {i : Int} (hi : ¬ (0 ≤ i ∧ i < 1024)) : hasT T i = false := by
  unfold hasT
  by_cases h : 0 ≤ i
  · rw [decide_eq_false (show ¬ i < 1024 by omega)]; simp
  · rw [decide_eq_false h]; simp
theorem hasT_in {k : Nat} (hk : k < 1024) : hasT T (k : Int) = inR T k := by
  unfold hasT inR
  rw [decide_eq_true (show (0 : Int) ≤ k by omega), decide_eq_true (show (k : Int) < 1024 by omega)]
  simp
theorem rhas_c (i : Int) (h : RefT X w b T) :
    Calls Tryz.prog 94 #[.pointer (some ⟨b, 0, none⟩), .int .i64 i] w fun e w' => e = .returned (.bool (hasT T i)) ∧ w' = w := by
  by_cases h0 : 0 ≤ i
  · by_cases hn : i < 1024
    · obtain ⟨k, rfl⟩ : ∃ k : Nat, i = k := ⟨i.toNat, by omega⟩
      have hk : k < 1024 := by omega
      rw [hasT_in hk]
      have ci := h.ci k hk
      have d1 : decide ((k : Int) ≥ 0) = true := by simp
      have d2 : decide (0 ≤ (k : Int)) = true := by simp
      have d3 : decide ((k : Int) < 1024) = true := by simp; omega
      clear h
      generalize inR T k = x at *
      go_enter Tryz.func94, Tryz.ntmps94
      go_wp2
      go_ret
      exact ⟨by cases x <;> rfl, rfl⟩
    · rw [hasT_out (by omega)]
      have d1 : decide (i ≥ 0) = true := by simpa using h0
      have d2 : decide (0 ≤ i) = true := by simpa using h0
      have d3 : decide (i < 1024) = false := by simp; omega
      clear h
      go_enter Tryz.func94, Tryz.ntmps94
      go_wp2
      go_ret
      exact ⟨rfl, rfl⟩
  · rw [hasT_out (by omega)]
    have d1 : decide (i ≥ 0) = false := by simp; omega
    have d2 : decide (0 ≤ i) = false := by simp; omega
    clear h
    go_enter Tryz.func94, Tryz.ntmps94
    go_wp2
    go_ret
    exact ⟨rfl, rfl⟩
theorem RefT.drew (h : RefT X w b T) : RefT X w.drew b T := h.same rfl
/-- a place is written, and whether it is there -/
theorem RefT.put (h : RefT X w b T) {k : Nat} (hk : k < 1024) (v : Option Pl) : RefT X (((w.setCell ⟨b, k, none⟩ (.bool v.isSome)).setCell ⟨b, 1024 + k * 2, none⟩ (.int .i64 (v.getD (0, 0)).1)).setCell ⟨b, 1024 + k * 2 + 1, none⟩ (.int .i64 (v.getD (0, 0)).2)) b (updT T k v) := by
  have far : ∀ {w : World} {o o' : Nat} {x : Value}, o ≠ o' → (w.setCell ⟨b, o, none⟩ x).cell? ⟨b, o', none⟩ = w.cell? ⟨b, o', none⟩ := fun hne => World.cell?_setCell_other _ _ _ _ (by intro e; injection e with _ h2; exact hne h2)
  refine ⟨fun j hj => ?_, fun j hj => ?_, fun j hj => ?_, fun j => by rw [World.frozen?_setCell, World.frozen?_setCell, World.frozen?_setCell]; exact h.z j, fun j hj => by rw [far (by omega), far (by omega), far (by omega)]; exact h.x j hj⟩
  · rw [far (by omega), far (by omega)]
    by_cases c : j = k
    · subst c
      rw [World.cell?_setCell_same _ _ _ (h.ci j hj)]
      simp [inR, updT]
    · rw [far (by omega), h.ci j hj]
      simp [inR, updT, c]
  · rw [far (by omega)]
    by_cases c : j = k
    · subst c
      rw [World.cell?_setCell_same _ _ _ (by rw [far (by omega)]; exact h.cs j hj)]
      simp [szR, updT]
    · rw [far (by omega), far (by omega), h.cs j hj]
      simp [szR, updT, c]
  · by_cases c : j = k
    · subst c
      rw [World.cell?_setCell_same _ _ _ (by rw [far (by omega), far (by omega)]; exact h.cl j hj)]
      simp [clR, updT]
    · rw [far (by omega), far (by omega), far (by omega), h.cl j hj]
      simp [clR, updT, c]
theorem updT_self {k : Nat} (v : Option Pl) : updT T k v k = v := by simp [updT]
theorem RefT.putAt (h : RefT X w b T) {k : Nat} (hk : k < 1024) (p : Pl) (hin : inR T k = true) : RefT X ((w.setCell ⟨b, 1024 + k * 2, none⟩ (.int .i64 p.1)).setCell ⟨b, 1024 + k * 2 + 1, none⟩ (.int .i64 p.2)) b (updT T k (some p)) := by
  have far : ∀ {w : World} {o o' : Nat} {x : Value}, o ≠ o' → (w.setCell ⟨b, o, none⟩ x).cell? ⟨b, o', none⟩ = w.cell? ⟨b, o', none⟩ := fun hne => World.cell?_setCell_other _ _ _ _ (by intro e; injection e with _ h2; exact hne h2)
  refine ⟨fun j hj => ?_, fun j hj => ?_, fun j hj => ?_, fun j => by rw [World.frozen?_setCell, World.frozen?_setCell]; exact h.z j, fun j hj => by rw [far (by omega), far (by omega)]; exact h.x j hj⟩
  · rw [far (by omega), far (by omega), h.ci j hj]
    by_cases c : j = k
    · subst c; rw [hin]; simp [inR, updT]
    · simp [inR, updT, c]
  · rw [far (by omega)]
    by_cases c : j = k
    · subst c
      rw [World.cell?_setCell_same _ _ _ (h.cs j hj)]
      simp [szR, updT]
    · rw [far (by omega), h.cs j hj]
      simp [szR, updT, c]
  · by_cases c : j = k
    · subst c
      rw [World.cell?_setCell_same _ _ _ (by rw [far (by omega)]; exact h.cl j hj)]
      simp [clR, updT]
    · rw [far (by omega), far (by omega), h.cl j hj]
      simp [clR, updT, c]
set_option maxHeartbeats 4000000 in
theorem rgive_c (i : Int) (h : RefT X w b T) :
    Calls Tryz.prog 73 #[.pointer (some ⟨b, 0, none⟩), .int .i64 i] w fun e w' => e = .returned (.bool (hasT T i)) ∧ RefT X w' b (giveT T i) ∧ Ch (fun k => k = b) w w' := by
  have P0 := rhas_c i h
  unfold giveT
  cases hh : hasT T i
  · rw [hh] at P0
    replace P0 := Lib.hid P0
    rw [if_neg (by simp)]
    replace h := Lib.hid h
    clear hh
    go_enter Tryz.func73, Tryz.ntmps73
    go_wp2_with (first | (go_at_call 94; ((with_reducible refine P0.out.mono ?_); rintro e w' ⟨rfl, hw'⟩; subst w')))
    go_ret
    exact ⟨rfl, h.out, Ch.refl _ _⟩
  · rw [if_pos rfl]
    have hi : 0 ≤ i ∧ i < 1024 := by
      apply Classical.byContradiction
      intro hn
      rw [hasT_out hn] at hh
      cases hh
    obtain ⟨k, rfl⟩ : ∃ k : Nat, i = k := ⟨i.toNat, by omega⟩
    have hk : k < 1024 := by omega
    have hk1 : (k : Int) < 1024 := by omega
    rw [hh] at P0
    replace P0 := Lib.hid P0
    have ci := h.ci k hk
    have cs := h.cs k hk
    have cl := h.cl k hk
    have z0 := h.z k
    have z1 := h.z (1024 + k * 2)
    have z2 := h.z (1024 + k * 2 + 1)
    have hP := Lib.hid (h.put hk none)
    have hC : Hid (Ch (fun k => k = b) w _) := Lib.hid ((((Ch.refl (fun k => k = b) w).set ⟨b, k, none⟩ rfl (.bool false)).set ⟨b, 1024 + k * 2, none⟩ rfl (.int .i64 0)).set ⟨b, 1024 + k * 2 + 1, none⟩ rfl (.int .i64 0))
    replace h := Lib.hid h
    clear hh
    go_enter Tryz.func73, Tryz.ntmps73
    go_wp2_with (first | (go_at_call 94; ((with_reducible refine P0.out.mono ?_); rintro e w' ⟨rfl, hw'⟩; subst w')))
    go_region
    go_wp2
    go_ret
    exact ⟨rfl, hP.out.drew, hC.out.drew⟩
/-- so far all are taken -/
structure KSt (w : World) (T : Tst) (b : Nat) (p : Pl) (q k : Nat) (wr : World) : Prop where
  bel : Below w.heap.size w wr
  c0 : wr.cell? ⟨q, 0, none⟩ = some (.int .i64 p.1)
  c1 : wr.cell? ⟨q, 1, none⟩ = some (.int .i64 p.2)
  em : ∀ j, 4 ≤ j → j < k → (T j).isNone = false
set_option maxHeartbeats 8000000 in
theorem rtake_c (p : Pl) (h : RefT X w b T) :
    Calls Tryz.prog 50 #[.pointer (some ⟨b, 0, none⟩), plV p] w fun e w' => e = .returned (.int .i64 (takeI T p)) ∧ RefT X w' b (takeT T p) ∧ Ch (fun k => k = b) w w' := by
  have hb0 := Lib.hid h.lt
  have hB : Below w.heap.size w (w.alloc (.cells #[.int .i64 p.1, .int .i64 p.2] 71)) := (Below.refl _ _).alloc (Nat.le_refl _) _
  have P0 := rof_c p (h.keep hB)
  have hx0 : (w.alloc (.cells #[.int .i64 p.1, .int .i64 p.2] 71)).cell? ⟨w.heap.size, 0, none⟩ = some (.int .i64 p.1) := by simp
  have hx1 : (w.alloc (.cells #[.int .i64 p.1, .int .i64 p.2] 71)).cell? ⟨w.heap.size, 1, none⟩ = some (.int .i64 p.2) := by simp
  unfold takeI takeT
  cases ho : ofR T p with
  | some j0 =>
    simp only [Option.isSome_some, if_true]
    rw [ho] at P0
    simp only [Option.isSome_some] at P0
    replace P0 := Lib.hid P0
    replace hB := Lib.hid hB
    replace h := Lib.hid h
    clear ho hx0 hx1
    obtain ⟨pa, pc⟩ := p
    unfold plV at *
    go_enter Tryz.func50, Tryz.ntmps50
    go_wp2_with (first | (go_at_call 72; ((with_reducible refine P0.out.mono ?_); rintro e w1 ⟨he, d1⟩; subst he; replace d1 := Lib.hid (hB.out.trans (d1.mono hB.out.size)))))
    go_ret
    exact ⟨rfl, h.out.keep d1.out, below_toCh _ d1.out⟩
  | none =>
    simp only [Option.isSome_none, Bool.false_eq_true, if_false]
    rw [ho] at P0
    simp only [Option.isSome_none] at P0
    replace P0 := Lib.hid P0
    have hQ : ∀ w1, Below (w.alloc (.cells #[.int .i64 p.1, .int .i64 p.2] 71)).heap.size (w.alloc (.cells #[.int .i64 p.1, .int .i64 p.2] 71)) w1 → KSt w T b p w.heap.size 4 w1 := fun w1 hb =>
      ⟨hB.trans (hb.mono hB.size), (hb.cell (by simp)).trans hx0, (hb.cell (by simp)).trans hx1, fun j a b => by omega⟩
    replace hQ := Lib.hid hQ
    replace hB := Lib.hid hB
    replace h := Lib.hid h
    clear ho hx0 hx1
    obtain ⟨pa, pc⟩ := p
    unfold plV at *
    go_enter Tryz.func50, Tryz.ntmps50
    go_wp2_with (first | (go_at_call 72; ((with_reducible refine P0.out.mono ?_); rintro e w1 ⟨he, d1⟩; subst he; have S0 := Lib.hid (hQ.out w1 d1); clear d1 P0 hQ)))
    go_loopw [7] (fun i wr => ∃ k : Nat, 4 ≤ k ∧ k ≤ 1024 ∧ i = .int .i64 k ∧ KSt w T b (pa, pc) w.heap.size k wr) (fun i _ => 1024 - (intOf i).toNat)
    case atStart => exact ⟨4, by omega, by omega, rfl, S0.out⟩
    case round =>
      obtain ⟨k, hk4, hk, rfl, hR⟩ := hrel
      by_cases hlt : k < 1024
      · have hlt' : decide ((k : Int) < 1024) = true := by simp; omega
        have hk1 : (k : Int) < 1024 := by omega
        have hw : IntKind.i64.wrap ((k : Int) + 1) = (k : Int) + 1 := by rw [IntKind.wrap_i64]; omega
        have hr := h.out.keep hR.bel
        have ci := hr.ci k hlt
        have cs := hr.cs k hlt
        have cl := hr.cl k hlt
        have c0 := hR.c0
        have c1 := hR.c1
        have z0 := hr.z k
        have z1 := hr.z (1024 + k * 2)
        have z2 := hr.z (1024 + k * 2 + 1)
        unfold inR at ci
        rcases hT : T k with _ | s
        · rw [hT] at ci
          simp only [Option.isSome] at ci
          have e1 : freeR T = some k := firstIn_hit hk4 hlt (fun j a b => hR.em j a b) (by show (T k).isNone = true; rw [hT]; rfl)
          replace e1 := Lib.hid e1
          have hP := Lib.hid (hr.put hlt (some (pa, pc)))
          have hC : Hid (Ch (fun k => k = b) w _) := Lib.hid ((((below_toCh (fun k => k = b) hR.bel).set ⟨b, k, none⟩ rfl (.bool true)).set ⟨b, 1024 + k * 2, none⟩ rfl (.int .i64 pa)).set ⟨b, 1024 + k * 2 + 1, none⟩ rfl (.int .i64 pc))
          have ne : w.heap.size ≠ b := by have := hb0.out; omega
          have ne' := Ne.symm ne
          replace hR := Lib.hid hR
          clear hr hT
          go_wp2
          go_region
          go_wp2
          go_ret
          rw [e1.out]
          exact ⟨rfl, hP.out.drew, hC.out.drew⟩
        · rw [hT] at ci
          simp only [Option.isSome] at ci
          have hN : Hid (KSt w T b (pa, pc) w.heap.size (k + 1) wr) := Lib.hid ⟨hR.bel, hR.c0, hR.c1, fun j a b => by
            by_cases c : j = k
            · subst c; rw [hT]; rfl
            · exact hR.em j a (by omega)⟩
          replace hR := Lib.hid hR
          clear hr hT cs cl z0 z1 z2
          go_wp2
          go_roundw
          case rel => exact ⟨k + 1, by omega, by omega, by go_num, hN.out⟩
          case measure => simp [intOf]; omega
      · have e : k = 1024 := by omega
        subst e
        have e1 : Hid (freeR T = none) := Lib.hid (firstIn_none (fun j a b => hR.em j a b))
        replace hR := Lib.hid hR
        go_wp2
        go_ret
        rw [e1.out]
        exact ⟨rfl, h.out.keep hR.out.bel, below_toCh _ hR.out.bel⟩
theorem hasT_some {i : Int} (hh : hasT T i = true) : ∃ k : Nat, i = k ∧ k < 1024 ∧ inR T k = true ∧ ∃ p, T k = some p := by
  have hi : 0 ≤ i ∧ i < 1024 := by
    apply Classical.byContradiction
    intro hn
    rw [hasT_out hn] at hh
    cases hh
  obtain ⟨k, rfl⟩ : ∃ k : Nat, i = k := ⟨i.toNat, by omega⟩
  have hk : k < 1024 := by omega
  rw [hasT_in hk] at hh
  refine ⟨k, rfl, hk, hh, ?_⟩
  unfold inR at hh
  exact Option.isSome_iff_exists.1 hh
set_option maxHeartbeats 8000000 in
theorem rswap_c (i j : Int) (h : RefT X w b T) :
    Calls Tryz.prog 60 #[.pointer (some ⟨b, 0, none⟩), .int .i64 i, .int .i64 j] w fun e w' => e = .returned (.bool (swapB T i j)) ∧ RefT X w' b (swapT T i j) ∧ Ch (fun k => k = b) w w' := by
  have Pi := rhas_c i h
  have Pj := rhas_c j h
  unfold swapT swapB
  cases hi : hasT T i
  · rw [hi] at Pi
    replace Pi := Lib.hid Pi
    rw [if_neg (by simp)]
    simp only [Bool.false_and]
    replace h := Lib.hid h
    clear hi Pj
    go_enter Tryz.func60, Tryz.ntmps60
    go_wp2_with (first | (go_at_call 94; ((with_reducible refine Pi.out.mono ?_); rintro e w' ⟨rfl, hw'⟩; subst w')))
    go_ret
    exact ⟨rfl, h.out, Ch.refl _ _⟩
  · cases hj : hasT T j
    · rw [hi] at Pi
      rw [hj] at Pj
      replace Pi := Lib.hid Pi
      replace Pj := Lib.hid Pj
      rw [if_neg (by simp)]
      simp only [Bool.and_false]
      replace h := Lib.hid h
      clear hi hj
      go_enter Tryz.func60, Tryz.ntmps60
      go_wp2_with (first | (go_at_call 94; ((with_reducible first | refine Pi.out.mono ?_ | refine Pj.out.mono ?_); rintro e w' ⟨rfl, hw'⟩; subst w')))
      go_ret
      exact ⟨rfl, h.out, Ch.refl _ _⟩
    · rw [hi] at Pi
      rw [hj] at Pj
      obtain ⟨x, rfl, hx, hix, ⟨pa, pc⟩, hTx⟩ := hasT_some hi
      obtain ⟨y, rfl, hy, hiy, ⟨qa, qc⟩, hTy⟩ := hasT_some hj
      replace Pi := Lib.hid Pi
      replace Pj := Lib.hid Pj
      rw [if_pos (by simp)]
      simp only [Bool.and_true]
      have e1 : (x : Int).toNat = x := by simp
      have e2 : (y : Int).toNat = y := by simp
      rw [e1, e2, hTx, hTy]
      have hx1 : (x : Int) < 1024 := by omega
      have hy1 : (y : Int) < 1024 := by omega
      have sx := h.cs x hx
      have cx := h.cl x hx
      have sy := h.cs y hy
      have cy := h.cl y hy
      unfold szR at sx sy
      unfold clR at cx cy
      rw [hTx] at sx cx
      rw [hTy] at sy cy
      simp only [Option.getD] at sx cx sy cy
      have zx := h.z (1024 + x * 2)
      have zx' := h.z (1024 + x * 2 + 1)
      have zy := h.z (1024 + y * 2)
      have zy' := h.z (1024 + y * 2 + 1)
      have hP := h.putAt hx (qa, qc) hix
      have hP2 := Lib.hid (hP.putAt hy (pa, pc) (by unfold inR updT; split; rfl; exact hiy))
      have hC : Hid (Ch (fun k => k = b) w _) := Lib.hid (((((Ch.refl (fun k => k = b) w).set ⟨b, 1024 + x * 2, none⟩ rfl (.int .i64 qa)).set ⟨b, 1024 + x * 2 + 1, none⟩ rfl (.int .i64 qc)).set ⟨b, 1024 + y * 2, none⟩ rfl (.int .i64 pa)).set ⟨b, 1024 + y * 2 + 1, none⟩ rfl (.int .i64 pc))
      clear hi hj hP e1 e2 h hix hiy
      by_cases hxy : x = y
      · subst hxy
        rw [hTx] at hTy
        obtain ⟨rfl, rfl⟩ : pa = qa ∧ pc = qc := by cases hTy; exact ⟨rfl, rfl⟩
        clear hTx hTy
        go_enter Tryz.func60, Tryz.ntmps60
        go_wp2_with (first | (go_at_call 94; ((with_reducible first | refine Pi.out.mono ?_ | refine Pj.out.mono ?_); rintro e w' ⟨rfl, hw'⟩; subst w')))
        go_region
        go_wp2
        go_ret
        exact ⟨rfl, hP2.out.drew, hC.out.drew⟩
      · have n1 : ¬ (1024 + x * 2 = 1024 + y * 2) := by omega
        have n2 : ¬ (1024 + x * 2 + 1 = 1024 + y * 2 + 1) := by omega
        have n3 : ¬ (1024 + x * 2 + 1 = 1024 + y * 2) := by omega
        have n4 : ¬ (1024 + x * 2 = 1024 + y * 2 + 1) := by omega
        have m1 : ¬ (1024 + y * 2 = 1024 + x * 2) := by omega
        have m2 : ¬ (1024 + y * 2 + 1 = 1024 + x * 2 + 1) := by omega
        have m3 : ¬ (1024 + y * 2 + 1 = 1024 + x * 2) := by omega
        have m4 : ¬ (1024 + y * 2 = 1024 + x * 2 + 1) := by omega
        clear hTx hTy
        go_enter Tryz.func60, Tryz.ntmps60
        go_wp2_with (first | (go_at_call 94; ((with_reducible first | refine Pi.out.mono ?_ | refine Pj.out.mono ?_); rintro e w' ⟨rfl, hw'⟩; subst w')))
        go_region
        go_wp2
        go_ret
        exact ⟨rfl, hP2.out.drew, hC.out.drew⟩
end
end Wd
end Go.Proofs.YtdaojohdmidemaaGreat

/- The document's own table: none is taken. -/
namespace Go.Proofs.YtdaojohdmidemaaGreat
open Go.RowKit
set_option linter.unusedVariables false
namespace Wd
section
variable {X : Nat → Option Value}
def zeroT : Array Value := (List.replicate 1024 (Value.bool false) ++ List.replicate 2048 (Value.int .i64 0)).toArray
theorem zeroT_in {k : Nat} (hk : k < 1024) : zeroT[k]? = some (.bool false) := by
  unfold zeroT
  rw [List.getElem?_toArray, List.getElem?_append_left (by rw [List.length_replicate]; exact hk), List.getElem?_replicate, if_pos hk]
theorem zeroT_at {k : Nat} (h1 : 1024 ≤ k) (h2 : k < 3072) : zeroT[k]? = some (.int .i64 0) := by
  unfold zeroT
  rw [List.getElem?_toArray, List.getElem?_append_right (by rw [List.length_replicate]; exact h1), List.length_replicate, List.getElem?_replicate, if_pos (by omega)]
def noT : Tst := fun _ => none
theorem idsT_def (T : Tst) : idsT T = ((List.range 1024).filter (fun k => (T k).isSome)).map (fun (k : Nat) => (k : Int)) := rfl
def idsK (T : Tst) (k : Nat) : List Int := ((List.range k).filter (fun k => (T k).isSome)).map (fun (k : Nat) => (k : Int))
theorem idsK_in {T : Tst} {k : Nat} (h : inR T k = true) : idsK T (k + 1) = idsK T k ++ [(k : Int)] := by
  unfold inR at h
  unfold idsK
  rw [List.range_succ, List.filter_append, List.map_append]
  simp [h]
theorem idsK_out {T : Tst} {k : Nat} (h : inR T k = false) : idsK T (k + 1) = idsK T k := by
  unfold inR at h
  unfold idsK
  rw [List.range_succ, List.filter_append, List.map_append]
  simp [h]
theorem idsK_len (T : Tst) (k : Nat) : (idsK T k).length ≤ k := by
  unfold idsK
  rw [List.length_map]
  exact Nat.le_trans (List.length_filter_le _ _) (by simp)
/-- those that were told so far -/
structure IDt (w : World) (T : Tst) (b k : Nat) (v : Value) (wr : World) : Prop where
  own : wr.ownsRow w.heap.size 3 1 v (idsK T k).length (ints (idsK T k))
  bel : Below w.heap.size w wr
theorem IDt.next {w wr w1 : World} {T : Tst} {b k g cap : Nat} {v : Value} (h : IDt w T b k v wr) (hk : inR T k = true)
    {c : Array Value} {t : TypeId} (hown : w1.ownsRow w.heap.size 3 1 (.slice (some ⟨g, 0, none⟩) ((idsK T k).length + 1) cap) ((idsK T k).length + 1) (ints (idsK T k) ++ ints [(k : Int)])) (hg : (wr.alloc (.cells c t)).grownBy w1 v.ownBlock) :
    IDt w T b (k + 1) (.slice (some ⟨g, 0, none⟩) ((idsK T k).length + 1) cap) w1 := by
  refine ⟨?_, ?_⟩
  · rw [idsK_in hk]
    simpa [ints] using hown
  · exact (h.bel.alloc h.bel.size _).grown hg (by have := h.bel.size; simp; omega) (fun k' hk => (h.own.lt k' hk).1)
set_option maxHeartbeats 4000000 in
theorem rids_c {w : World} {b : Nat} {T : Tst} (h : RefT X w b T) :
    Calls Tryz.prog 74 #[.pointer (some ⟨b, 0, none⟩)] w fun e w' => ∃ u, e = .returned u ∧ SL w' 3 u (idsT T) ∧ Below w.heap.size w w' ∧ (∀ g, u.ownBlock = some g → w.heap.size ≤ g) := by
  obtain ⟨i0, hi0, hz0, hz1, hz2⟩ := info_parts info3
  have hmx : 8194 ≤ maxLen := by decide
  have S0 : IDt w T b 0 (.slice none 0 0) w := ⟨World.ownsRow_nil _ _ _ _, Below.refl _ _⟩
  replace S0 := Lib.hid S0
  replace h := Lib.hid h
  go_enter Tryz.func74, Tryz.ntmps74
  go_wp2
  go_loopw [3, 5] (fun v i wr => ∃ k : Nat, k ≤ 1024 ∧ i = .int .i64 k ∧ IDt w T b k v wr) (fun _ i _ => 1024 - (intOf i).toNat)
  case atStart => exact ⟨0, by omega, rfl, S0.out⟩
  case round =>
    obtain ⟨k, hk, rfl, hR⟩ := hrel
    by_cases hlt : k < 1024
    · have hlt' : decide ((k : Int) < 1024) = true := by simp; omega
      have hk1 : (k : Int) < 1024 := by omega
      have hw : IntKind.i64.wrap ((k : Int) + 1) = (k : Int) + 1 := by rw [IntKind.wrap_i64]; omega
      have hl := idsK_len T k
      have ci := (h.out.keep hR.bel).ci k hlt
      cases hin : inR T k
      · rw [hin] at ci
        have hN : Hid (IDt w T b (k + 1) u3 wr) := Lib.hid ⟨by rw [idsK_out hin]; exact hR.own, hR.bel⟩
        replace hR := Lib.hid hR
        clear hin hl
        go_wp2
        go_roundw
        case rel => exact ⟨k + 1, by omega, by go_num, hN.out⟩
        case measure => simp [intOf]; omega
      · rw [hin] at ci
        replace hin := Lib.hid hin
        replace hR := Lib.hid hR
        go_wp2_with (first | (at_builtin; refine wpList_append_lies _ rfl (.tmp 14) (.tmp 16) 56 rfl w.heap.size 3 i0 (.int .i64 0) 1 8 Tryz.underlying56 hi0 hz0 hz1 hz2 rfl (by decide) u3 (idsK T k).length _ (by simp [Act.eval]) (hR.out.own.alloc _) ⟨wr.heap.size, 0, none⟩ 1 1 (ints [(k : Int)]) (by simp [Act.eval]) (by simp [ints]) (one_at ((World.cell?_alloc_new _ _ _ 0).trans rfl)) (ints_one _) (by omega) (by omega) (by omega) (by have := hR.out.bel.size; simp; omega) _ rfl ?_; intro g cap w1 hown1 hgrow1 hat1 hlt1; have R3 := Lib.hid (hR.out.next hin.out hown1 hgrow1); clear hown1 hgrow1))
        go_roundw
        case rel => exact ⟨k + 1, by omega, by go_num, R3.out⟩
        case measure => simp [intOf]; omega
    · have e : k = 1024 := by omega
      subst e
      replace hR := Lib.hid hR
      go_wp2
      go_ret
      refine ⟨_, rfl, ?_, hR.out.bel, fun g hg => (hR.out.own.lt g hg).1⟩
      have ho := own_base hR.out.own
      unfold SL
      exact ho
end
end Wd
end Go.Proofs.YtdaojohdmidemaaGreat

/- The document's own mill: its rows. -/
namespace Go.Proofs.YtdaojohdmidemaaGreat
open Go.RowKit
set_option linter.unusedVariables false
namespace Wd
/-- the rows of a mill: Free, Black, Grey, Ecru -/
abbrev Mst := Nat → List Int
def upA (A : Mst) (k : Nat) (X : List Int) : Mst := fun j => if j = k then X else A j
def upV (V : Nat → Value) (k : Nat) (v : Value) : Nat → Value := fun j => if j = k then v else V j
/-- the first of a row is the last of another -/
def firstA (A : Mst) (x y : Nat) : Mst := match A x with
  | [] => A
  | i :: T => upA (upA A x T) y (A y ++ [i])
def firstR (A : Mst) (x : Nat) : Int := match A x with
  | [] => -1
  | i :: _ => i
def colorR (A : Mst) (i : Int) : Int := if i ∈ A 0 then 0 else if i ∈ A 1 then 1 else if i ∈ A 2 then 2 else if i ∈ A 3 then 3 else -1
def shadeA (A : Mst) (i : Int) : Mst := if colorR A i = 3 then upA (upA A 3 ((A 3).filter (· ≠ i))) 2 (A 2 ++ [i]) else A
def flipR (A : Mst) : List Int := if A 2 = [] then A 3 else []
def flipA (A : Mst) : Mst := if A 2 = [] then upA (upA (upA A 0 (A 0 ++ A 3)) 3 (A 1)) 1 [] else A
/-- a mill of the document's own, at block b -/
structure RefM (w : World) (b : Nat) (A : Mst) (V : Nat → Value) : Prop where
  c : ∀ k, k < 4 → w.cell? ⟨b, k, none⟩ = some (V k)
  z : ∀ k, w.frozen? ⟨b, k, none⟩ = false
  own : ∀ k, k < 4 → SL w 3 (V k) (A k)
  apart : ∀ k, k < 4 → (V k).ownBlock ≠ some b
def Comes (V V' : Nat → Value) (s : Nat) : Prop := ∀ k g, k < 4 → (V' k).ownBlock = some g → s ≤ g ∨ ∃ j, j < 4 ∧ (V j).ownBlock = some g
theorem Comes.refl (V : Nat → Value) (s : Nat) : Comes V V s := fun k _ hk h => Or.inr ⟨k, hk, h⟩
theorem Comes.up {V V' : Nat → Value} {s : Nat} (h : Comes V V' s) (k : Nat) {v : Value} (hv : ∀ g, v.ownBlock = some g → s ≤ g ∨ ∃ j, j < 4 ∧ (V j).ownBlock = some g) : Comes V (upV V' k v) s := by
  intro j g hj hg
  unfold upV at hg
  split at hg
  · exact hv g hg
  · exact h j g hj hg
theorem Comes.trans {V V' V'' : Nat → Value} {s t : Nat} (h : Comes V V' s) (g : Comes V' V'' t) (hst : s ≤ t) : Comes V V'' s := by
  intro k x hk hx
  rcases g k x hk hx with h1 | ⟨j, hj, h1⟩
  · exact Or.inl (by omega)
  · exact h j x hj h1
theorem RefM.lt {w : World} {b : Nat} {A : Mst} {V : Nat → Value} (h : RefM w b A V) : b < w.heap.size ∧ ∀ k g, k < 4 → (V k).ownBlock = some g → g < w.heap.size :=
  ⟨World.block_lt_of_cell? w _ (h.c 0 (by decide)), fun k g hk hg => ((h.own k hk).lt g hg).2⟩
theorem RefM.same {w w' : World} {b : Nat} {A : Mst} {V : Nat → Value} (h : RefM w b A V) (hk : ∀ g, (g = b ∨ ∃ j, j < 4 ∧ (V j).ownBlock = some g) → w'.heap[g]? = w.heap[g]?) : RefM w' b A V := by
  have hb := hk b (Or.inl rfl)
  refine ⟨fun k h4 => (World.cell?_of_block (a := ⟨b, k, none⟩) hb).trans (h.c k h4), fun k => (World.frozen?_of_block (a := ⟨b, k, none⟩) hb).trans (h.z k), fun k h4 => ?_, h.apart⟩
  obtain ⟨h1, h2⟩ := h.own k h4
  refine ⟨h1, ?_⟩
  rcases h2 with hh | ⟨g, cap, cur, e1, e2, e3, e4⟩
  · exact Or.inl hh
  · exact Or.inr ⟨g, cap, cur, e1, e2, (hk g (Or.inr ⟨k, h4, by rw [e1]; rfl⟩)).trans e3, e4⟩
theorem RefM.keep {w w' : World} {b : Nat} {A : Mst} {V : Nat → Value} (h : RefM w b A V) (g : Below w.heap.size w w') : RefM w' b A V :=
  h.same (fun k hk => g.block k (by rcases hk with rfl | ⟨j, hj, hk⟩; exact h.lt.1; exact h.lt.2 j k hj hk))
theorem RefM.put {w2 : World} {b k : Nat} {A : Mst} {V : Nat → Value} {v : Value} {X : List Int} (h : RefM w2 b A V) (hk : k < 4) (own : SL w2 3 v X) (far : v.ownBlock ≠ some b) :
    RefM (w2.setCell ⟨b, k, none⟩ v) b (upA A k X) (upV V k v) := by
  refine ⟨fun j hj => ?_, fun j => by rw [World.frozen?_setCell]; exact h.z j, fun j hj => ?_, fun j hj => ?_⟩
  · by_cases c : j = k
    · subst c; simp only [upV, if_true]; exact World.cell?_setCell_same _ _ _ (h.c j hj)
    · simp only [upV, if_neg c]; exact (World.cell?_setCell_other _ _ _ _ (by intro e; cases e; exact c rfl)).trans (h.c j hj)
  · by_cases c : j = k
    · subst c; simp only [upV, upA, if_true]; exact ownsRow_setCell_other own far _
    · simp only [upV, upA, if_neg c]; exact ownsRow_setCell_other (h.own j hj) (h.apart j hj) _
  · by_cases c : j = k
    · subst c; simp only [upV, if_true]; exact far
    · simp only [upV, if_neg c]; exact h.apart j hj
theorem grown_put {w w2 : World} {b k : Nat} (bel : Below w.heap.size w w2) (v : Value) : w.grownBy (w2.setCell ⟨b, k, none⟩ v) (some b) := by
  refine ⟨bel.os, bel.tape, bel.output, by simpa [World.setCell] using bel.size, fun j hj hne => ?_⟩
  rw [Below.heap_setCell _ _ _ _ (by simpa using hne)]
  exact bel.block j hj
theorem grown_put2 {w w1 w2 : World} {b k : Nat} (g : w.grownBy w1 (some b)) (bel : Below w1.heap.size w1 w2) (v : Value) : w.grownBy (w2.setCell ⟨b, k, none⟩ v) (some b) := by
  refine ⟨bel.os.trans g.os, bel.tape.trans g.tape, bel.output.trans g.output, Nat.le_trans g.size (by simpa [World.setCell] using bel.size), fun j hj hne => ?_⟩
  rw [Below.heap_setCell _ _ _ _ (by simpa using hne), bel.block j (Nat.lt_of_lt_of_le hj g.size)]
  exact g.block j hj hne
theorem made_after (w : World) (o : Obj) (e : TypeId) : ((w.alloc o).alloc (.cells #[] e)).ownsRow w.heap.size e 1 (.slice (some ⟨w.heap.size + 1, 0, none⟩) 0 0) 0 [] := by
  have := World.ownsRow_made (base := w.heap.size) (size := 1) (e := e) (w.alloc o) #[] 0 (by simp) (by decide) rfl
  rwa [World.size_alloc] at this
theorem Reads.tail {w : World} {g n cap : Nat} {i : Int} {T : List Int} {ad : Addr} (h : w.ownsRow 0 3 1 (.slice (some ⟨g, 0, none⟩) n cap) n (ints (i :: T))) (hn : n = T.length + 1) (hc : n ≤ cap) (ha : (if cap = 1 then some (⟨g, 0, none⟩ : Addr) else some ⟨g, 1, none⟩) = some ad) :
    Reads w (.slice (some ad) T.length (cap - 1)) T := by
  refine Or.inr ⟨ad, cap - 1, rfl, fun j x hx => ?_⟩
  by_cases c : cap = 1
  · have : T = [] := List.length_eq_zero_iff.1 (by omega)
    subst this
    simp [ints] at hx
  · rw [if_neg c] at ha
    cases ha
    simp only [ints, List.getElem?_map, Option.map_eq_some_iff] at hx
    obtain ⟨y, hy, rfl⟩ := hx
    rw [Addr.add_lit]
    exact row_cell h (by rw [Nat.add_comm]; simpa using hy)
end Wd
end Go.Proofs.YtdaojohdmidemaaGreat
