/- Texts joined: RPure, RLast, MBase, TRef, TOps, TZero, MRef, MFirst, MColor, MShade, MFlip, MNew, FPure, EGood, EPure, EMap, ELeaf. -/
import Derived.Test.YtdaojohdmidemaaRows
import Derived.RowKit
import Derived.Laws.OwnMore
import Derived.Deep.Draws
import Derived.OrdersHeld
import Derived.Deep.RegionHeld
import Derived.RegionTactic
import Derived.WalkKit
import Derived.WalkSpells
import Derived.WalkLawsBesides
import Derived.Handy
import Derived.Lib.Hide
import Derived.BigQuiet
import Derived.LoopN
import Derived.OneCell
import Derived.Maps.AppendAt
import Derived.Deep.AppendLies
import Derived.Deep.RegionHeldLaw
import Derived.StillTailTactics
import Derived.BigRegion
import Derived.Laws.BitsAllLaws
import Derived.Laws.BitsLemmas
import Derived.OpenShut
import Derived.Deep.RegionHeld3
import Derived.Maps.Own
import Derived.Maps.OwnOps
import Derived.Maps.OwnSet
import Derived.DeepKeys4
/- Rings as lists: no program is named here. -/
namespace Go.Proofs.Ytdaojohdmidemaa
open Go.RowKit
set_option linter.unusedVariables false
namespace Wd
/-- where it stands; -1: nowhere -/
def idx (L : List Int) (i : Int) : Int := if i ∈ L then ((L.idxOf i : Nat) : Int) else -1
/-- the one behind -/
def nxt (L : List Int) (i : Int) : Int := if i ∈ L then (L[(L.idxOf i + 1) % L.length]?).getD 0 else -1
/-- the one ahead -/
def prv (L : List Int) (i : Int) : Int := if i ∈ L then (L[(L.idxOf i + L.length - 1) % L.length]?).getD 0 else -1
/-- all from it on -/
def frm (L : List Int) (i : Int) : List Int := if i ∈ L then L.drop (L.idxOf i) ++ L.take (L.idxOf i) else []
/-- what is left when one is taken out -/
def outL (L : List Int) (i : Int) : List Int := if i ∈ L then L.take (L.idxOf i) ++ L.drop (L.idxOf i + 1) else L
/-- what is in when one is put in ahead of another -/
def inL (L : List Int) (i a : Int) : List Int := if a ∈ L then L.take (L.idxOf a) ++ [i] ++ L.drop (L.idxOf a) else [i]
/-- may it be put in -/
def inOk (N : Int) (L : List Int) (i a : Int) : Bool := decide (0 ≤ i) && decide (i < N) && !decide (i ∈ L) && (decide (a ∈ L) || (a == -1 && L.isEmpty))
theorem idx_hit (L : List Int) (i : Int) (k : Nat) (h : i ∉ L.take k) (hk : L[k]? = some i) : idx L i = k := by
  have hm : i ∈ L := List.mem_of_getElem? hk
  unfold idx; rw [if_pos hm]
  have hk' := List.getElem?_eq_some_iff.1 hk
  obtain ⟨hlt, he⟩ := hk'
  have : L = L.take k ++ (i :: L.drop (k + 1)) := by
    rw [← he, List.getElem_cons_drop, List.take_append_drop]
  have h2 : L.idxOf i = k := by
    rw [this, List.idxOf_append, if_neg h]
    simp
    omega
  rw [h2]
theorem idx_miss (L : List Int) (i : Int) (h : i ∉ L.take L.length) : idx L i = -1 := by
  rw [List.take_length] at h
  simp [idx, h]
theorem take_step (L : List Int) (i x : Int) (k : Nat) (h : i ∉ L.take k) (hk : L[k]? = some x) (hx : x ≠ i) : i ∉ L.take (k + 1) := by
  rw [List.take_add_one, hk]
  simp only [Option.toList, List.mem_append, List.mem_singleton, not_or]
  exact ⟨h, fun e => hx e.symm⟩
/-- the numbers as values -/
abbrev ints (L : List Int) : List Value := L.map (Value.int .i64)
theorem row_cell {w : World} {e : TypeId} {g n cap : Nat} {L : List Int} (h : w.ownsRow 0 e 1 (.slice (some ⟨g, 0, none⟩) n cap) n (ints L)) {k : Nat} {x : Int} (hx : L[k]? = some x) : w.cell? ⟨g, k, none⟩ = some (.int .i64 x) := by
  have hl : L.length = n := by have := h.1; simpa using this
  have hk := (List.getElem?_eq_some_iff.1 hx).1
  rw [h.cellAt k (by omega)]
  simp [ints, hx]
/-- a slice of numbers: nil and none, or a row of its own -/
def SL (w : World) (e : TypeId) (v : Value) (L : List Int) : Prop := w.ownsRow 0 e 1 v L.length (ints L)
theorem SL.cases {w : World} {e : TypeId} {v : Value} {L : List Int} (h : SL w e v L) : (v = .slice none 0 0 ∧ L = []) ∨ ∃ g cap, v = .slice (some ⟨g, 0, none⟩) L.length cap ∧ L.length ≤ cap ∧ cap ≤ maxLen ∧ g < w.heap.size ∧ w.ownsRow 0 e 1 (.slice (some ⟨g, 0, none⟩) L.length cap) L.length (ints L) := by
  rcases h.2 with ⟨rfl, h0⟩ | ⟨g, cap, cur, rfl, _, hh, hle, hm, _⟩
  · exact Or.inl ⟨rfl, List.length_eq_zero_iff.1 h0⟩
  · exact Or.inr ⟨g, cap, rfl, hle, hm, (Array.getElem?_eq_some_iff.1 hh).1, h⟩
end Wd
end Go.Proofs.Ytdaojohdmidemaa

/- A region that draws, whose last operation waits for all others: the others in whatever order, and then it. No program is named here. -/
namespace Go.Proofs.Ytdaojohdmidemaa
namespace Wd
section
variable {P : Program} {ops : Array Oper} {Q : Exit → Act → World → Prop} {md : Region.Mode} {S : World → Prop} {d : Nat}
/-- what is asked behind the others: number d, and then Q; where one of them leaves by another way, Q -/
def LastQ (P : Program) (ops : Array Oper) (Q : Exit → Act → World → Prop) (d : Nat) : Exit → Act → World → Prop
  | .normal, a, w => wpOp P ops Q d (Q .normal) a w
  | e, a, w => Q e a w
theorem upon_last {o : Oper} {a : Act} {K : Act → World → Prop} {r : Result Next} (h : o.upon P a K (LastQ P ops Q d) r) : o.upon P a K Q r := by
  cases r with
  | ok n w' =>
    cases n
    case enter f args => exact Calls.mono h fun e w'' he => by cases e <;> exact he
    all_goals exact h
  | halt x w' => cases x <;> exact h
theorem wpOp_last {i : Nat} {K : Act → World → Prop} {a : Act} {w : World} (h : wpOp P ops (LastQ P ops Q d) i K a w) : wpOp P ops Q i K a w := by
  cases ho : ops[i]? with
  | none => simpa [wpOp, ho] using h
  | some o =>
    simp only [wpOp, ho] at h ⊢
    split <;> rename_i hw
    · rw [if_pos hw] at h
      exact h.imp upon_last (fun h => ⟨h.1, h.2⟩)
    · rwa [if_neg hw] at h
/-- nobody waits for one that stands behind it -/
def onward (md : Region.Mode) (ops : Array Oper) : Bool :=
  (List.range ops.size).all fun i => ((ops[i]?).map fun o => o.after.all fun e => !Region.binds md e || decide (e.on < i)).getD false
/-- does number k wait for number i -/
def waitsFor (md : Region.Mode) (ops : Array Oper) (k i : Nat) : Bool := ((ops[k]?).map fun o => o.after.any fun e => Region.binds md e && e.on == i).getD false
/-- does number k wait for number i, or for one that waits for it, and so on -/
def waitsDeep (md : Region.Mode) (ops : Array Oper) : Nat → Nat → Nat → Bool
  | 0, k, i => waitsFor md ops k i
  | f + 1, k, i => waitsDeep md ops f k i || (List.range ops.size).any fun j => waitsFor md ops k j && waitsDeep md ops f j i
/-- number d waits for each other one -/
def waitsAll (md : Region.Mode) (ops : Array Oper) (d : Nat) : Bool := (List.range ops.size).all fun i => i == d || waitsDeep md ops 2 d i
theorem waitsFor_ready {k i : Nat} {listed : Array Bool} (hk : k ∈ Region.ready md ops listed) (h : waitsFor md ops k i = true) : listed.getD i false = true := by
  obtain ⟨_, o, ho, hall⟩ := mem_ready.1 hk
  simp only [waitsFor, ho, Option.map_some, Option.getD_some, Array.any_eq_true', Bool.and_eq_true, beq_iff_eq] at h
  obtain ⟨e, he, hb, rfl⟩ := h
  exact hall e he hb
/-- whoever has come up, those that it waits for have -/
def Whole (md : Region.Mode) (ops : Array Oper) (listed : Array Bool) : Prop := ∀ k i, waitsFor md ops k i = true → listed.getD k false = true → listed.getD i false = true
theorem Whole.deep {listed : Array Bool} (h : Whole md ops listed) : ∀ (f k i : Nat), waitsDeep md ops f k i = true → listed.getD k false = true → listed.getD i false = true
  | 0, k, i, hw, hk => h k i hw hk
  | f + 1, k, i, hw, hk => by
    simp only [waitsDeep, Bool.or_eq_true, List.any_eq_true, Bool.and_eq_true] at hw
    rcases hw with hw | ⟨j, _, h1, h2⟩
    · exact h.deep f k i hw hk
    · exact h.deep f j i h2 (h k j h1 hk)
theorem Whole.deep_ready {k : Nat} {listed : Array Bool} (h : Whole md ops listed) (hk : k ∈ Region.ready md ops listed) : ∀ (f i : Nat), waitsDeep md ops f k i = true → listed.getD i false = true
  | 0, i, hw => waitsFor_ready hk hw
  | f + 1, i, hw => by
    simp only [waitsDeep, Bool.or_eq_true, List.any_eq_true, Bool.and_eq_true] at hw
    rcases hw with hw | ⟨j, _, h1, h2⟩
    · exact h.deep_ready hk f i hw
    · exact h.deep f j i h2 (waitsFor_ready hk h1)
theorem Whole.step {k : Nat} {listed : Array Bool} (h : Whole md ops listed) (hk : k ∈ Region.ready md ops listed) : Whole md ops (listed.setIfInBounds k true) := by
  intro m i hw hm
  by_cases c : m = k
  · subst c; exact getD_set_true (waitsFor_ready hk hw)
  · rw [getD_set_ne false (Ne.symm c)] at hm
    exact getD_set_true (h m i hw hm)
theorem getD_both {l : Array Bool} {i : Nat} (hi : i < l.size) : l.getD i true = l.getD i false := by simp [hi]
/-- as long as one is left, one may come up -/
theorem none_left (hf : onward md ops = true) {listed : Array Bool} (hs : listed.size = ops.size) (hr : Region.ready md ops listed = []) : ∀ (m i : Nat), i < m → i < ops.size → listed.getD i false = true := by
  intro m
  induction m with
  | zero => intro i h; omega
  | succ m ih =>
    intro i _ hi
    cases hb : listed.getD i false with
    | true => rfl
    | false =>
      exfalso
      have ho : ops[i]? = some ops[i] := by simp [hi]
      have hin : i ∈ Region.ready md ops listed := by
        refine mem_ready.2 ⟨by rw [getD_both (by omega)]; exact hb, ops[i], ho, fun e he hbd => ?_⟩
        have h1 := List.all_eq_true.1 hf i (List.mem_range.2 hi)
        rw [ho] at h1
        have h2 := Array.all_eq_true_iff_forall_mem.1 h1 e he
        simp only [hbd, Bool.not_true, Bool.false_or, decide_eq_true_eq] at h2
        exact ih e.on (by omega) (by omega)
      rw [hr] at hin
      cases hin
/-- THE LAW: the others in whatever order, and then number d: that is all of them in whatever order -/
theorem wpAny_last (hf : onward md ops = true) (hw : waitsAll md ops d = true) (hd : d < ops.size) : ∀ (fuel : Nat) (listed : Array Bool) (a : Act) (w : World), listed.size = ops.size → Whole md ops listed → listed.getD d true = false →
    wpAny P md ops (LastQ P ops Q d) fuel (listed.setIfInBounds d true) a w → wpAny P md ops Q (fuel + 1) listed a w := by
  intro fuel
  induction fuel with
  | zero =>
    intro listed a w hs hcl hdl H
    refine ⟨fun h0 => ?_, fun i hi => ?_⟩
    · have := none_left hf hs h0 (d + 1) d (by omega) hd
      rw [← getD_both (by omega), hdl] at this
      cases this
    · by_cases c : i = d
      · subst c
        exact wpOp_mono (fun a' w' h => ⟨H.1, h⟩) H.2
      · have := ready_mono hi c
        rw [H.1] at this
        cases this
  | succ fuel ih =>
    intro listed a w hs hcl hdl H
    refine ⟨fun h0 => ?_, fun i hi => ?_⟩
    · have := none_left hf hs h0 (d + 1) d (by omega) hd
      rw [← getD_both (by omega), hdl] at this
      cases this
    · by_cases c : i = d
      · subst c
        have hE : Region.ready md ops (listed.setIfInBounds i true) = [] := by
          refine List.eq_nil_iff_forall_not_mem.2 (fun j hj => ?_)
          obtain ⟨hj0, oj, hoj, _⟩ := mem_ready.1 hj
          have hjs : j < ops.size := (Array.getElem?_eq_some_iff.1 hoj).1
          by_cases cj : j = i
          · subst cj
            simp [hs, hd] at hj0
          · rw [getD_set_ne true (Ne.symm cj)] at hj0
            have h1 := List.all_eq_true.1 hw j (List.mem_range.2 hjs)
            simp only [Bool.or_eq_true, beq_iff_eq, cj, false_or] at h1
            have h2 : listed.getD j false = true := hcl.deep_ready hi 2 j h1
            rw [← getD_both (by omega), hj0] at h2
            cases h2
        exact wpOp_mono (fun a' w' h => wpAny_done hE h _) (H.1 hE)
      · refine wpOp_mono (fun a' w' h => ih (listed.setIfInBounds i true) a' w' (by simpa using hs) (hcl.step hi) (by rw [getD_set_ne true c]; exact hdl) ?_) (wpOp_last (H.2 i (ready_mono hi c)))
        rw [Array.setIfInBounds_comm _ _ c]
        exact h
/-- the beginning: the others, in whatever order, while S holds -/
theorem wp_region_last {id fuel : Nat} {a : Act} {w : World} (hm : P.follows .mixedOrders = true) (hc : (onward .any ops && waitsAll .any ops d && decide (d < ops.size)) = true) (hfu : fuel + 1 = ops.size) (hS : S w.drew)
    (h : S w.drew → wpAnyH P .any ops (LastQ P ops Q d) S fuel ((Array.replicate ops.size false).setIfInBounds d true) a w.drew) : (Code.region id ops true).wp P Q a w := by
  simp only [Bool.and_eq_true, decide_eq_true_eq] at hc
  refine wp_region_any hm ?_
  rw [← hfu]
  have := wpAny_last (P := P) (Q := Q) hc.1.1 hc.1.2 hc.2 fuel (Array.replicate ops.size false) a w.drew (by simp) (fun k i _ h => by simp [Array.getElem?_replicate] at h; split at h <;> simp at h) (by simp [hc.2]) (wpAny_of_held _ _ _ _ (h hS))
  rw [← hfu] at this
  exact this
/-- the end: number d alone is left -/
theorem last_step {o : Oper} {fuel : Nat} {listed : Array Bool} {a : Act} {w : World} (ho : ops[d]? = some o) (hr : Region.ready md ops listed = [])
    (h : ∀ K' : Act → World → Prop, Shut (∀ a w, Q .normal a w → K' a w) → if Region.wanted o (yielded ops a.tmps) = true then Oper.wp P o a w K' Q else K' (a.put o.dst undef) w) : wpAnyH P md ops (LastQ P ops Q d) S fuel listed a w :=
  wpAnyH_done hr (wpOp_step ho (fun K' hK => h K' hK)) fuel
end
end Wd
end Go.Proofs.Ytdaojohdmidemaa

/- Rows of numbers: what an append reads and leaves; the book's small functions. -/
namespace Go.Proofs.Ytdaojohdmidemaa
open Go.RowKit
set_option linter.unusedVariables false
namespace Wd
theorem info3 : (Try.prog.info? 3).map (fun i => (i.zero, i.size, i.bytes)) = some (some (.int .i64 0), 1, 8) := by kernel_rfl
theorem ints_one (L : List Int) : ∀ u ∈ ints L, u.oneCell' = true := by
  intro u hu
  obtain ⟨x, _, rfl⟩ := List.mem_map.1 hu
  rfl
theorem ints_len (L : List Int) : (ints L).length = L.length * 1 := by simp [ints]
theorem drop_at (L : List Int) (k : Nat) : ∀ j x, (L.drop k)[j]? = some x → L[k + j]? = some x := by
  intro j x h; rw [List.getElem?_drop] at h; exact h
theorem take_at (L : List Int) (k : Nat) : ∀ j x, (L.take k)[j]? = some x → L[0 + j]? = some x := by
  intro j x h
  rw [List.getElem?_take] at h
  split at h
  · rw [Nat.zero_add]; exact h
  · cases h
theorem news_at {w : World} {e : TypeId} {g n cap k : Nat} {L M : List Int} (h : w.ownsRow 0 e 1 (.slice (some ⟨g, 0, none⟩) n cap) n (ints L)) (hM : ∀ j x, M[j]? = some x → L[k + j]? = some x) :
    ∀ j u, (ints M)[j]? = some u → w.cell? ((⟨g, k, none⟩ : Addr).add j) = some u := by
  intro j u hu
  simp only [ints, List.getElem?_map, Option.map_eq_some_iff] at hu
  obtain ⟨x, hx, rfl⟩ := hu
  rw [Addr.add_lit]
  exact row_cell h (hM j x hx)
theorem one_at {w : World} {g : Nat} {i : Int} (h : w.cell? ⟨g, 0, none⟩ = some (.int .i64 i)) : ∀ j u, (ints [i])[j]? = some u → w.cell? ((⟨g, 0, none⟩ : Addr).add j) = some u := by
  intro j u hu
  match j, hu with
  | 0, hu =>
    simp [ints] at hu; subst hu
    rw [Addr.add_lit]; exact h
theorem cell_up {w w' : World} (g : Below w.heap.size w w') {p : Addr} {v : Value} (h : w.cell? p = some v) : w'.cell? p = some v := (g.cell (World.block_lt_of_cell? w p h)).trans h
theorem slice_form {w : World} {e : TypeId} {base size n : Nat} {v : Value} {xs : List Value} (h : w.ownsRow base e size v n xs) : ∃ a m c, v = .slice a m c := by
  rcases h.2 with ⟨rfl, _⟩ | ⟨g, cap, cur, rfl, _⟩ <;> exact ⟨_, _, _, rfl⟩
theorem own_base {w : World} {base : Nat} {e : TypeId} {size n : Nat} {v : Value} {xs : List Value} (h : w.ownsRow base e size v n xs) : w.ownsRow 0 e size v n xs := by
  refine ⟨h.1, ?_⟩
  rcases h.2 with h | ⟨g, cap, cur, h1, _, h3⟩
  · exact Or.inl h
  · exact Or.inr ⟨g, cap, cur, h1, Nat.zero_le _, h3⟩
theorem SL.keep {w w' : World} {e : TypeId} {v : Value} {L : List Int} (h : SL w e v L) (b : Below w.heap.size w w') : SL w' e v L :=
  World.ownsRow.kept h ⟨b.os, b.tape, b.output, b.size, fun k hk _ => b.block k hk⟩ (row := none) (by cases v.ownBlock <;> simp)
theorem grown_refl (w : World) (b : Option Nat) : w.grownBy w b := ⟨rfl, rfl, rfl, Nat.le_refl _, fun _ _ _ => rfl⟩
theorem tmod_split (n D : Int) (hD : 1 ≤ D) : ∃ r, n.tmod D = r ∧ -D < r ∧ r < D ∧ ((0 ≤ r ∧ n % D = r) ∨ (r < 0 ∧ n % D = r + D)) := by
  have h1 := Int.tmod_lt_of_pos n (show 0 < D by omega)
  have h2 : -D < n.tmod D := by have := Int.tmod_lt_of_pos (-n) (show 0 < D by omega); rw [Int.neg_tmod] at this; omega
  refine ⟨_, rfl, h2, h1, ?_⟩
  have key := Int.tmod_add_mul_tdiv n D
  generalize n.tmod D = r at *
  generalize n.tdiv D = q at *
  by_cases h : 0 ≤ r
  · left
    refine ⟨h, ?_⟩
    rw [← key, Int.add_mul_emod_self_left]
    exact Int.emod_eq_of_lt h h1
  · right
    refine ⟨by omega, ?_⟩
    have e : n = (r + D) + D * (q - 1) := by rw [Int.mul_sub, Int.mul_one]; omega
    rw [e, Int.add_mul_emod_self_left]
    exact Int.emod_eq_of_lt (by omega) (by omega)
/-- a number brought into lo .. hi -/
def within (n lo hi : Int) : Int := if lo ≤ n ∧ n ≤ hi then n else lo + n % (hi - lo + 1)
set_option maxHeartbeats 16000000 in
theorem within_c (n lo hi : Int) (h1 : -9223372036854775808 ≤ n) (h2 : n ≤ 9223372036854775807) (h3 : -1000000 ≤ lo) (h4 : lo ≤ hi) (h5 : hi ≤ 1000000) (w : World) :
    Calls Try.prog 18 #[.int .i64 n, .int .i64 lo, .int .i64 hi] w fun e w' => e = .returned (.int .i64 (within n lo hi)) ∧ w' = w := by
  by_cases c1 : lo ≤ n
  · by_cases c2 : n ≤ hi
    · have e : within n lo hi = n := if_pos ⟨c1, c2⟩
      rw [e]
      go_enter Try.func18, Try.ntmps18
      go_wp2
      go_ret
      exact ⟨rfl, rfl⟩
    · have e : within n lo hi = lo + n % (hi - lo + 1) := if_neg (fun h => c2 h.2)
      obtain ⟨r, hr, r1, r2, ⟨r3, r4⟩ | ⟨r3, r4⟩⟩ := tmod_split n (hi - lo + 1) (by omega)
      all_goals
        rw [r4] at e
        rw [e]; clear e r4
        go_enter Try.func18, Try.ntmps18
        go_wp2
        go_ret
        exact ⟨by first | rfl | (refine congrArg Ending.returned (congrArg (Value.int .i64) ?_); omega), rfl⟩
  · have e : within n lo hi = lo + n % (hi - lo + 1) := if_neg (fun h => c1 h.1)
    obtain ⟨r, hr, r1, r2, ⟨r3, r4⟩ | ⟨r3, r4⟩⟩ := tmod_split n (hi - lo + 1) (by omega)
    all_goals
      rw [r4] at e
      rw [e]; clear e r4
      go_enter Try.func18, Try.ntmps18
      go_wp2
      go_ret
      exact ⟨by first | rfl | (refine congrArg Ending.returned (congrArg (Value.int .i64) ?_); omega), rfl⟩
theorem within_bd (n lo hi : Int) (h : lo ≤ hi) : lo ≤ within n lo hi ∧ within n lo hi ≤ hi := by
  unfold within
  split
  · rename_i h'; exact h'
  · have h1 := Int.emod_nonneg n (show hi - lo + 1 ≠ 0 by omega)
    have h2 := Int.emod_lt_of_pos n (show 0 < hi - lo + 1 by omega)
    omega
theorem SL.form {w : World} {e : TypeId} {v : Value} {L : List Int} (h : SL w e v L) : ∃ a c, v = .slice a L.length c := by
  rcases h.2 with ⟨rfl, h0⟩ | ⟨g, cap, cur, rfl, _⟩
  · exact ⟨_, _, by rw [h0]⟩
  · exact ⟨_, _, rfl⟩
theorem take_same {A B : List Int} {k : Nat} {x : Int} (h : A.take k = B.take k) (ha : A[k]? = some x) (hb : B[k]? = some x) : A.take (k + 1) = B.take (k + 1) := by
  rw [List.take_add_one, List.take_add_one, h, ha, hb]
theorem take_all {A B : List Int} {n : Nat} (h : A.take n = B.take n) (ha : n = A.length) (hb : n = B.length) : A = B := by
  rw [ha, List.take_length] at h
  rw [← ha, hb, List.take_length] at h
  exact h
set_option maxHeartbeats 16000000 in
theorem same_ints (A B : List Int) (u v : Value) (w : World) (ha : SL w 3 u A) (hb : SL w 3 v B) (la : A.length ≤ 8192) (lb : B.length ≤ 8192) :
    Calls Try.prog 45 #[u, v] w fun e w' => e = .returned (.bool (decide (A = B))) ∧ ∃ q, w' = w.drewN q := by
  by_cases hl : A.length = B.length
  · by_cases hz : A.length = 0
    · have e : decide (A = B) = true := by
        have h1 := List.length_eq_zero_iff.1 hz
        have h2 := List.length_eq_zero_iff.1 (hl ▸ hz)
        simp [h1, h2]
      obtain ⟨a, c, rfl⟩ := ha.form
      obtain ⟨a', c', rfl⟩ := hb.form
      rw [e, ← hl, hz]
      clear e ha hb hl hz la lb
      go_enter Try.func45, Try.ntmps45
      go_wp2
      refine wp_loop_rounds 1 ?_
      rw [rounds_succ]
      go_wp2
      go_ret
      exact ⟨rfl, 0, rfl⟩
    · rcases ha.cases with ⟨_, rfl⟩ | ⟨g, cap, rfl, hle, hm, hg, hown⟩
      · exact absurd rfl hz
      rcases hb.cases with ⟨_, rfl⟩ | ⟨g', cap', rfl, hle', hm', hg', hown'⟩
      · exact absurd hl hz
      obtain ⟨n, hn⟩ : ∃ n, n = A.length := ⟨_, rfl⟩
      have hn' : n = B.length := hn.trans hl
      rw [← hn] at hle la
      rw [← hn'] at hle' lb
      rw [← hn, ← hn']
      have HA := Lib.hid hown
      have HB := Lib.hid hown'
      have HN := Lib.hid hn
      have HN' := Lib.hid hn'
      clear ha hb hown hown' hl hz hn hn'
      go_enter Try.func45, Try.ntmps45
      go_wp2
      go_loopw [5] (fun i wr => ∃ k : Nat, k ≤ n ∧ i = .int .i64 k ∧ Hid (A.take k = B.take k) ∧ ∃ q, wr = w.drewN q) (fun i _ => n - (intOf i).toNat)
      case atStart => exact ⟨0, by omega, rfl, Lib.hid (by simp), 0, rfl⟩
      case round =>
        obtain ⟨k, hk, rfl, ht, q, rfl⟩ := hrel
        by_cases hlt : k < n
        · have hlt' : decide ((k : Int) < (n : Int)) = true := by simp; omega
          obtain ⟨x, hx⟩ : ∃ x, A[k]? = some x := ⟨A[k]'(by have := HN.out; omega), by simp⟩
          obtain ⟨y, hy⟩ : ∃ y, B[k]? = some y := ⟨B[k]'(by have := HN'.out; omega), by simp⟩
          have cx := row_cell HA.out hx
          have cy := row_cell HB.out hy
          have p0 : (0 : Int) ≤ (k : Int) := by omega
          have p1 : (k : Int) < (n : Int) := by omega
          by_cases he : x = y
          · subst he
            have H1 := Lib.hid (take_same ht.out hx hy)
            clear hx hy
            go_wp2
            go_quiet (fail)
            go_wp2
            go_roundw
            case rel => exact ⟨k + 1, by omega, by go_num, H1, _, rfl⟩
            case measure => simp [intOf]; omega
          · have e : decide (A = B) = false := by
              simp only [decide_eq_false_iff_not]
              intro h
              rw [h, hy] at hx
              exact he (Option.some.inj hx).symm
            have he' : (x != y) = true := by simpa using he
            clear hx hy
            go_wp2
            go_quiet (fail)
            go_wp2
            go_ret
            exact ⟨by rw [e]; rfl, _, World.drewN_drewN ..⟩
        · have e : decide (A = B) = true := by
            have hkn : k = n := by omega
            have h2 := ht.out
            rw [hkn] at h2
            simpa using take_all h2 HN.out HN'.out
          go_wp2
          go_ret
          exact ⟨by rw [e]; rfl, q, rfl⟩
  · have e : decide (A = B) = false := by
      simp only [decide_eq_false_iff_not]
      intro h; exact hl (by rw [h])
    obtain ⟨a, c, rfl⟩ := ha.form
    obtain ⟨a', c', rfl⟩ := hb.form
    have hl' : ((A.length : Int) != (B.length : Int)) = true := by simp only [bne_iff_ne, ne_eq]; omega
    rw [e]
    clear e ha hb
    go_enter Try.func45, Try.ntmps45
    go_wp2
    go_ret
    exact ⟨rfl, 0, rfl⟩
/-- 0, 1, .. m less 1 -/
def rng (m : Nat) : List Int := (List.range m).map (fun (k : Nat) => (k : Int))
theorem rng_succ (m : Nat) : rng (m + 1) = rng m ++ [(m : Int)] := by simp [rng, List.range_succ]
theorem rng_len (m : Nat) : (rng m).length = m := by simp [rng]
theorem rng_nd (m : Nat) : (rng m).Nodup := by
  unfold rng
  rw [List.Nodup, List.pairwise_map]
  exact (List.nodup_range (n := m)).imp (fun h e => h (by omega))
/-- what an append reads: nothing, or a row of numbers -/
def Reads (w : World) (u : Value) (M : List Int) : Prop := (u = .slice none 0 0 ∧ M = []) ∨ ∃ ad c, u = .slice (some ad) M.length c ∧ ∀ j x, (ints M)[j]? = some x → w.cell? (ad.add j) = some x
theorem SL.reads {w : World} {e : TypeId} {v : Value} {M : List Int} (h : SL w e v M) : Reads w v M := by
  rcases h.cases with ⟨rfl, rfl⟩ | ⟨g, cap, rfl, _, _, _, hown⟩
  · exact Or.inl ⟨rfl, rfl⟩
  · refine Or.inr ⟨_, _, rfl, fun j x hx => ?_⟩
    simp only [ints, List.getElem?_map, Option.map_eq_some_iff] at hx
    obtain ⟨y, hy, rfl⟩ := hx
    rw [Addr.add_lit, Nat.zero_add]
    exact row_cell hown hy
theorem Reads.one {w : World} {g : Nat} {i : Int} (h : w.cell? ⟨g, 0, none⟩ = some (.int .i64 i)) : Reads w (.slice (some ⟨g, 0, none⟩) 1 1) [i] := Or.inr ⟨_, _, rfl, one_at h⟩
/-- nothing is appended -/
theorem run_app_nil {P : Program} (w : World) (base : Nat) (t ty e : TypeId) (i : TypeInfo) (size n : Nat) (ht : P.underlying t = some (.slice e)) (hi : P.info? e = some i) (v : Value) (xs : List Value) (hown : w.ownsRow base e size v n xs) :
    (Builtin.append_ #[t, t] ty #[v, .slice none 0 0]).run P w = .ok v w := by
  rcases hown.2 with ⟨rfl, rfl⟩ | ⟨g, cap, cur, rfl, _, _, hle, _⟩
  · simp [Builtin.append_, run_underlying ht, sizeOf, typeInfo, hi, Builtin.lenOf, Builtin.firstCells]
  · simp [Builtin.append_, run_underlying ht, sizeOf, typeInfo, hi, Builtin.lenOf, Builtin.firstCells, hle, storeCells]
/-- an append of a row of numbers, or of none, onto a row of numbers of the call's own -/
theorem run_app (w : World) (base n : Nat) (v u : Value) (X M : List Int) (ty : TypeId) (hown : w.ownsRow base 3 1 v n (ints X)) (hu : Reads w u M) (h63 : n + M.length ≤ 100000) (hbase : base ≤ w.heap.size) :
    ∃ v' w', (Builtin.append_ #[44, 44] ty #[v, u]).run Try.prog w = .ok v' w' ∧ w'.ownsRow base 3 1 v' (n + M.length) (ints (X ++ M)) ∧ w.grownBy w' v.ownBlock ∧ (v'.ownBlock = v.ownBlock ∨ v'.ownBlock = some w.heap.size) := by
  obtain ⟨i0, hi0, hz0, hz1, hz2⟩ := info_parts info3
  rcases hu with ⟨rfl, rfl⟩ | ⟨ad, c, rfl, hc⟩
  · refine ⟨v, w, run_app_nil w base 44 ty 3 i0 1 n Try.underlying44 hi0 v _ hown, by simpa using hown, grown_refl _ _, Or.inl rfl⟩
  · have hmx : 100000 ≤ maxLen := by decide
    obtain ⟨v', w', hr, h2, h3, _, h5⟩ := run_append_own_at (P := Try.prog) w base 44 ty 3 i0 (.int .i64 0) 1 8 Try.underlying44 hi0 hz0 hz1 hz2 rfl (by decide) v n (ints X) hown ad M.length c (ints M) (ints_len M) hc (ints_one _) (by omega) (by omega) hbase
    exact ⟨v', w', hr, by simpa [ints] using h2, h3, h5⟩
/-- the same, at a step of a region that draws -/
theorem step_app {w : World} {ops : Array Oper} {o : Oper} {a : Act} {K : Act → World → Prop} {Q : Exit → Act → World → Prop} {E : Prop} (hgd : o.guard = none) (s x : Operand)
    (ho : o.op = .call { callee := .builtin .append, args := #[s, x], argTypes := #[44, 44] }) (base n : Nat) (v u : Value) (X M : List Int) (hs : a.eval s = v) (hx : a.eval x = u)
    (hown : w.ownsRow base 3 1 v n (ints X)) (hu : Reads w u M) (h63 : n + M.length ≤ 100000) (hbase : base ≤ w.heap.size)
    (h : ∀ v' w', w'.ownsRow base 3 1 v' (n + M.length) (ints (X ++ M)) → w.grownBy w' v.ownBlock → (v'.ownBlock = v.ownBlock ∨ v'.ownBlock = some w.heap.size) → K (a.put o.dst v') w') :
    if Region.wanted o (yielded ops a.tmps) = true then Oper.wp Try.prog o a w K Q else E := by
  have hw : Region.wanted o (yielded ops a.tmps) = true := by simp [Region.wanted, hgd]
  rw [if_pos hw]
  obtain ⟨v', w', hr, h2, h3, h5⟩ := run_app w base n v u X M o.type hown hu h63 hbase
  unfold Oper.wp execOp
  simp only [ho, resolve, invoke, builtin, Sem.run_bind, Sem.run_pure, Result.andThen_ok, List.map_toArray, List.map_cons, List.map_nil, hs, hx, hr]
  exact h v' w' h2 h3 h5
/-- the same, at the head of a list of operations -/
theorem wpList_app {w : World} {ops : Array Oper} {rest : List Oper} {o : Oper} {a : Act} {Q : Exit → Act → World → Prop} (hgd : o.guard = none) (s x : Operand)
    (ho : o.op = .call { callee := .builtin .append, args := #[s, x], argTypes := #[44, 44] }) (base n : Nat) (v u : Value) (X M : List Int) (hs : a.eval s = v) (hx : a.eval x = u)
    (hown : w.ownsRow base 3 1 v n (ints X)) (hu : Reads w u M) (h63 : n + M.length ≤ 100000) (hbase : base ≤ w.heap.size)
    (h : ∀ v' w', w'.ownsRow base 3 1 v' (n + M.length) (ints (X ++ M)) → w.grownBy w' v.ownBlock → (v'.ownBlock = v.ownBlock ∨ v'.ownBlock = some w.heap.size) → wpList Try.prog ops Q rest (a.put o.dst v') w') :
    wpList Try.prog ops Q (o :: rest) a w := by
  refine wpList_plain hgd fun K hK => ?_
  obtain ⟨v', w', hr, h2, h3, h5⟩ := run_app w base n v u X M o.type hown hu h63 hbase
  unfold Oper.wp execOp
  simp only [ho, resolve, invoke, builtin, Sem.run_bind, Sem.run_pure, Result.andThen_ok, List.map_toArray, List.map_cons, List.map_nil, hs, hx, hr]
  exact hK _ _ (h v' w' h2 h3 h5)
end Wd
end Go.Proofs.Ytdaojohdmidemaa

/- The document's own table: what it is, and Of. -/
namespace Go.Proofs.Ytdaojohdmidemaa
open Go.RowKit
set_option linter.unusedVariables false
namespace Wd
abbrev Pl := Int × Int
/-- identities' places -/
abbrev Tst := Nat → Option Pl
def plV (p : Pl) : Value := .agg #[.int .i64 p.1, .int .i64 p.2]
def firstIn (P : Nat → Bool) : Option Nat := (List.range' 4 1020).find? P
theorem firstIn_hit {P : Nat → Bool} {k : Nat} (h4 : 4 ≤ k) (hk : k < 1024) (hn : ∀ j, 4 ≤ j → j < k → P j = false) (hp : P k = true) : firstIn P = some k := by
  unfold firstIn
  rw [List.find?_range'_eq_some]
  exact ⟨hp, by rw [List.mem_range'_1]; omega, fun j h1 h2 => by rw [hn j h1 h2]; rfl⟩
theorem firstIn_none {P : Nat → Bool} (hn : ∀ j, 4 ≤ j → j < 1024 → P j = false) : firstIn P = none := by
  unfold firstIn
  rw [List.find?_range'_eq_none]
  intro j h1 h2
  rw [hn j h1 (by omega)]; rfl
theorem firstIn_some {P : Nat → Bool} {k : Nat} (h : firstIn P = some k) : 4 ≤ k ∧ k < 1024 ∧ P k = true ∧ ∀ j, 4 ≤ j → j < k → P j = false := by
  unfold firstIn at h
  rw [List.find?_range'_eq_some] at h
  obtain ⟨h1, h2, h3⟩ := h
  rw [List.mem_range'_1] at h2
  exact ⟨h2.1, by omega, h1, fun j a b => by simpa using h3 j a b⟩
theorem firstIn_no {P : Nat → Bool} (h : firstIn P = none) : ∀ j, 4 ≤ j → j < 1024 → P j = false := by
  unfold firstIn at h
  rw [List.find?_range'_eq_none] at h
  intro j a b
  simpa using h j a (by omega)
/-- whose the place is -/
def ofR (T : Tst) (p : Pl) : Option Nat := firstIn (fun id => T id == some p)
def ofI (T : Tst) (p : Pl) : Int := (((ofR T p).getD 0 : Nat) : Int)
/-- the least one that is free -/
def freeR (T : Tst) : Option Nat := firstIn (fun id => (T id).isNone)
def updT (T : Tst) (k : Nat) (v : Option Pl) : Tst := fun j => if j = k then v else T j
def frI : Option Nat → Int | some k => (k : Int) | none => -1
def frT (T : Tst) (p : Pl) : Option Nat → Tst | some k => updT T k (some p) | none => T
def takeI (T : Tst) (p : Pl) : Int := if (ofR T p).isSome then -1 else frI (freeR T)
def takeT (T : Tst) (p : Pl) : Tst := if (ofR T p).isSome then T else frT T p (freeR T)
def hasT (T : Tst) (i : Int) : Bool := decide (0 ≤ i) && (decide (i < 1024) && (T i.toNat).isSome)
def giveT (T : Tst) (i : Int) : Tst := if hasT T i then updT T i.toNat none else T
def swapB (T : Tst) (a b : Int) : Bool := hasT T a && hasT T b
def swapT (T : Tst) (a b : Int) : Tst := if swapB T a b then updT (updT T a.toNat (T b.toNat)) b.toNat (T a.toNat) else T
def idsT (T : Tst) : List Int := ((List.range 1024).filter (fun k => (T k).isSome)).map (fun (k : Nat) => (k : Int))
def inR (T : Tst) (k : Nat) : Bool := (T k).isSome
def szR (T : Tst) (k : Nat) : Int := ((T k).getD (0, 0)).1
def clR (T : Tst) (k : Nat) : Int := ((T k).getD (0, 0)).2
/-- a table of the document's own, at block b -/
structure RefT (X : Nat → Option Value) (w : World) (b : Nat) (T : Tst) : Prop where
  ci : ∀ k, k < 1024 → w.cell? ⟨b, k, none⟩ = some (.bool (inR T k))
  cs : ∀ k, k < 1024 → w.cell? ⟨b, 1024 + k * 2, none⟩ = some (.int .i64 (szR T k))
  cl : ∀ k, k < 1024 → w.cell? ⟨b, 1024 + k * 2 + 1, none⟩ = some (.int .i64 (clR T k))
  z : ∀ k, w.frozen? ⟨b, k, none⟩ = false
  x : ∀ k, 3072 ≤ k → w.cell? ⟨b, k, none⟩ = X k
section
variable {X : Nat → Option Value}
theorem RefT.lt {w : World} {b : Nat} {T : Tst} (h : RefT X w b T) : b < w.heap.size := World.block_lt_of_cell? w _ (h.ci 0 (by decide))
theorem RefT.same {w w' : World} {b : Nat} {T : Tst} (h : RefT X w b T) (hb : w'.heap[b]? = w.heap[b]?) : RefT X w' b T :=
  ⟨fun k hk => (World.cell?_of_block (a := ⟨b, k, none⟩) hb).trans (h.ci k hk), fun k hk => (World.cell?_of_block (a := ⟨b, 1024 + k * 2, none⟩) hb).trans (h.cs k hk), fun k hk => (World.cell?_of_block (a := ⟨b, 1024 + k * 2 + 1, none⟩) hb).trans (h.cl k hk), fun k => (World.frozen?_of_block (a := ⟨b, k, none⟩) hb).trans (h.z k), fun k hk => (World.cell?_of_block (a := ⟨b, k, none⟩) hb).trans (h.x k hk)⟩
theorem RefT.keep {w w' : World} {b : Nat} {T : Tst} (h : RefT X w b T) (g : Below w.heap.size w w') : RefT X w' b T := h.same (g.block b h.lt)
/-- so far nobody has it -/
structure OSt (w : World) (T : Tst) (p : Pl) (q k : Nat) (wr : World) : Prop where
  bel : Below w.heap.size w wr
  c0 : wr.cell? ⟨q, 0, none⟩ = some (.int .i64 p.1)
  c1 : wr.cell? ⟨q, 1, none⟩ = some (.int .i64 p.2)
  em : ∀ j, 4 ≤ j → j < k → (T j == some p) = false
theorem OSt.next {w wr : World} {T : Tst} {p : Pl} {q k : Nat} (h : OSt w T p q k wr) (hk : (T k == some p) = false) : OSt w T p q (k + 1) wr.drew :=
  ⟨h.bel.drew, h.c0, h.c1, fun j h4 hj => by
    by_cases c : j = k
    · subst c; exact hk
    · exact h.em j h4 (by omega)⟩
end
end Wd
end Go.Proofs.Ytdaojohdmidemaa

/- The document's own table: Has, Take, Give, Swap. -/
namespace Go.Proofs.Ytdaojohdmidemaa
open Go.RowKit
set_option linter.unusedVariables false
namespace Wd
/-- w' is w, but for the blocks of F and new ones -/
structure Ch (F : Nat → Prop) (w w' : World) : Prop where
  os : w'.os = w.os
  tape : w'.tape = w.tape
  output : w'.output = w.output
  size : w.heap.size ≤ w'.heap.size
  block : ∀ k, k < w.heap.size → ¬ F k → w'.heap[k]? = w.heap[k]?
/-- F' has no block but those of F and new ones -/
def Newer (F F' : Nat → Prop) (s : Nat) : Prop := ∀ k, F' k → F k ∨ s ≤ k
theorem Ch.refl (F : Nat → Prop) (w : World) : Ch F w w := ⟨rfl, rfl, rfl, Nat.le_refl _, fun _ _ _ => rfl⟩
theorem Ch.trans {F : Nat → Prop} {w w1 w2 : World} (h : Ch F w w1) (g : Ch F w1 w2) : Ch F w w2 :=
  ⟨g.os.trans h.os, g.tape.trans h.tape, g.output.trans h.output, Nat.le_trans h.size g.size, fun k hk hF => (g.block k (Nat.lt_of_lt_of_le hk h.size) hF).trans (h.block k hk hF)⟩
theorem Ch.set {F : Nat → Prop} {w w1 : World} (h : Ch F w w1) (a : Addr) (ha : F a.block) (v : Value) : Ch F w (w1.setCell a v) :=
  ⟨h.os, h.tape, h.output, by simpa [World.setCell] using h.size, fun k hk hF => (Below.heap_setCell _ _ _ _ (fun e => hF (by rw [e]; exact ha))).trans (h.block k hk hF)⟩
theorem Ch.drew {F : Nat → Prop} {w w1 : World} (h : Ch F w w1) : Ch F w w1.drew := ⟨h.os, h.tape, h.output, h.size, h.block⟩
theorem below_toCh {w w' : World} (F : Nat → Prop) (b : Below w.heap.size w w') : Ch F w w' := ⟨b.os, b.tape, b.output, b.size, fun k hk _ => b.block k hk⟩
theorem below_ch {w wr w1 : World} {F : Nat → Prop} (h : Below w.heap.size w wr) (c : Ch F wr w1) (hF : ∀ k, F k → w.heap.size ≤ k) : Below w.heap.size w w1 :=
  ⟨c.os.trans h.os, c.tape.trans h.tape, c.output.trans h.output, Nat.le_trans h.size c.size, fun k hk => (c.block k (Nat.lt_of_lt_of_le hk h.size) (fun e => by have := hF k e; omega)).trans (h.block k hk)⟩
theorem Ch.mono {F G : Nat → Prop} {w w' : World} (h : Ch F w w') (hFG : ∀ k, F k → G k) : Ch G w w' := ⟨h.os, h.tape, h.output, h.size, fun k hk hn => h.block k hk (fun hF => hn (hFG k hF))⟩
section
variable {X : Nat → Option Value} {w : World} {b : Nat} {T : Tst}
theorem hasT_out {i : Int} (hi : ¬ (0 ≤ i ∧ i < 1024)) : hasT T i = false := by
  unfold hasT
  by_cases h : 0 ≤ i
  · rw [decide_eq_false (show ¬ i < 1024 by omega)]; simp
  · rw [decide_eq_false h]; simp
theorem hasT_in {k : Nat} (hk : k < 1024) : hasT T (k : Int) = inR T k := by
  unfold hasT inR
  rw [decide_eq_true (show (0 : Int) ≤ k by omega), decide_eq_true (show (k : Int) < 1024 by omega)]
  simp
theorem RefT.drew (h : RefT X w b T) : RefT X w.drew b T := h.same rfl
/-- a place is written, and whether it is there -/
theorem RefT.put (h : RefT X w b T) {k : Nat} (hk : k < 1024) (v : Option Pl) : RefT X (((w.setCell ⟨b, k, none⟩ (.bool v.isSome)).setCell ⟨b, 1024 + k * 2, none⟩ (.int .i64 (v.getD (0, 0)).1)).setCell ⟨b, 1024 + k * 2 + 1, none⟩ (.int .i64 (v.getD (0, 0)).2)) b (updT T k v) := by
  have far : ∀ {w : World} {o o' : Nat} {x : Value}, o ≠ o' → (w.setCell ⟨b, o, none⟩ x).cell? ⟨b, o', none⟩ = w.cell? ⟨b, o', none⟩ := fun hne => World.cell?_setCell_other _ _ _ _ (by intro e; injection e with _ h2; exact hne h2)
  refine ⟨fun j hj => ?_, fun j hj => ?_, fun j hj => ?_, fun j => by rw [World.frozen?_setCell, World.frozen?_setCell, World.frozen?_setCell]; exact h.z j, fun j hj => by rw [far (by omega), far (by omega), far (by omega)]; exact h.x j hj⟩
  · rw [far (by omega), far (by omega)]
    by_cases c : j = k
    · subst c
      rw [World.cell?_setCell_same _ _ _ (h.ci j hj)]
      simp [inR, updT]
    · rw [far (by omega), h.ci j hj]
      simp [inR, updT, c]
  · rw [far (by omega)]
    by_cases c : j = k
    · subst c
      rw [World.cell?_setCell_same _ _ _ (by rw [far (by omega)]; exact h.cs j hj)]
      simp [szR, updT]
    · rw [far (by omega), far (by omega), h.cs j hj]
      simp [szR, updT, c]
  · by_cases c : j = k
    · subst c
      rw [World.cell?_setCell_same _ _ _ (by rw [far (by omega), far (by omega)]; exact h.cl j hj)]
      simp [clR, updT]
    · rw [far (by omega), far (by omega), far (by omega), h.cl j hj]
      simp [clR, updT, c]
theorem updT_self {k : Nat} (v : Option Pl) : updT T k v k = v := by simp [updT]
theorem RefT.putAt (h : RefT X w b T) {k : Nat} (hk : k < 1024) (p : Pl) (hin : inR T k = true) : RefT X ((w.setCell ⟨b, 1024 + k * 2, none⟩ (.int .i64 p.1)).setCell ⟨b, 1024 + k * 2 + 1, none⟩ (.int .i64 p.2)) b (updT T k (some p)) := by
  have far : ∀ {w : World} {o o' : Nat} {x : Value}, o ≠ o' → (w.setCell ⟨b, o, none⟩ x).cell? ⟨b, o', none⟩ = w.cell? ⟨b, o', none⟩ := fun hne => World.cell?_setCell_other _ _ _ _ (by intro e; injection e with _ h2; exact hne h2)
  refine ⟨fun j hj => ?_, fun j hj => ?_, fun j hj => ?_, fun j => by rw [World.frozen?_setCell, World.frozen?_setCell]; exact h.z j, fun j hj => by rw [far (by omega), far (by omega)]; exact h.x j hj⟩
  · rw [far (by omega), far (by omega), h.ci j hj]
    by_cases c : j = k
    · subst c; rw [hin]; simp [inR, updT]
    · simp [inR, updT, c]
  · rw [far (by omega)]
    by_cases c : j = k
    · subst c
      rw [World.cell?_setCell_same _ _ _ (h.cs j hj)]
      simp [szR, updT]
    · rw [far (by omega), h.cs j hj]
      simp [szR, updT, c]
  · by_cases c : j = k
    · subst c
      rw [World.cell?_setCell_same _ _ _ (by rw [far (by omega)]; exact h.cl j hj)]
      simp [clR, updT]
    · rw [far (by omega), far (by omega), h.cl j hj]
      simp [clR, updT, c]
/-- so far all are taken -/
structure KSt (w : World) (T : Tst) (b : Nat) (p : Pl) (q k : Nat) (wr : World) : Prop where
  bel : Below w.heap.size w wr
  c0 : wr.cell? ⟨q, 0, none⟩ = some (.int .i64 p.1)
  c1 : wr.cell? ⟨q, 1, none⟩ = some (.int .i64 p.2)
  em : ∀ j, 4 ≤ j → j < k → (T j).isNone = false
theorem hasT_some {i : Int} (hh : hasT T i = true) : ∃ k : Nat, i = k ∧ k < 1024 ∧ inR T k = true ∧ ∃ p, T k = some p := by
  have hi : 0 ≤ i ∧ i < 1024 := by
    apply Classical.byContradiction
    intro hn
    rw [hasT_out hn] at hh
    cases hh
  obtain ⟨k, rfl⟩ : ∃ k : Nat, i = k := ⟨i.toNat, by omega⟩
  have hk : k < 1024 := by omega
  rw [hasT_in hk] at hh
  refine ⟨k, rfl, hk, hh, ?_⟩
  unfold inR at hh
  exact Option.isSome_iff_exists.1 hh
end
end Wd
end Go.Proofs.Ytdaojohdmidemaa

/- The document's own table: none is taken. -/
namespace Go.Proofs.Ytdaojohdmidemaa
open Go.RowKit
set_option linter.unusedVariables false
namespace Wd
section
variable {X : Nat → Option Value}
def zeroT : Array Value := (List.replicate 1024 (Value.bool false) ++ List.replicate 2048 (Value.int .i64 0)).toArray
theorem zeroT_in {k : Nat} (hk : k < 1024) : zeroT[k]? = some (.bool false) := by
  unfold zeroT
  rw [List.getElem?_toArray, List.getElem?_append_left (by rw [List.length_replicate]; exact hk), List.getElem?_replicate, if_pos hk]
theorem zeroT_at {k : Nat} (h1 : 1024 ≤ k) (h2 : k < 3072) : zeroT[k]? = some (.int .i64 0) := by
  unfold zeroT
  rw [List.getElem?_toArray, List.getElem?_append_right (by rw [List.length_replicate]; exact h1), List.length_replicate, List.getElem?_replicate, if_pos (by omega)]
def noT : Tst := fun _ => none
theorem idsT_def (T : Tst) : idsT T = ((List.range 1024).filter (fun k => (T k).isSome)).map (fun (k : Nat) => (k : Int)) := rfl
def idsK (T : Tst) (k : Nat) : List Int := ((List.range k).filter (fun k => (T k).isSome)).map (fun (k : Nat) => (k : Int))
theorem idsK_in {T : Tst} {k : Nat} (h : inR T k = true) : idsK T (k + 1) = idsK T k ++ [(k : Int)] := by
  unfold inR at h
  unfold idsK
  rw [List.range_succ, List.filter_append, List.map_append]
  simp [h]
theorem idsK_out {T : Tst} {k : Nat} (h : inR T k = false) : idsK T (k + 1) = idsK T k := by
  unfold inR at h
  unfold idsK
  rw [List.range_succ, List.filter_append, List.map_append]
  simp [h]
theorem idsK_len (T : Tst) (k : Nat) : (idsK T k).length ≤ k := by
  unfold idsK
  rw [List.length_map]
  exact Nat.le_trans (List.length_filter_le _ _) (by simp)
/-- those that were told so far -/
structure IDt (w : World) (T : Tst) (b k : Nat) (v : Value) (wr : World) : Prop where
  own : wr.ownsRow w.heap.size 3 1 v (idsK T k).length (ints (idsK T k))
  bel : Below w.heap.size w wr
theorem IDt.next {w wr w1 : World} {T : Tst} {b k g cap : Nat} {v : Value} (h : IDt w T b k v wr) (hk : inR T k = true)
    {c : Array Value} {t : TypeId} (hown : w1.ownsRow w.heap.size 3 1 (.slice (some ⟨g, 0, none⟩) ((idsK T k).length + 1) cap) ((idsK T k).length + 1) (ints (idsK T k) ++ ints [(k : Int)])) (hg : (wr.alloc (.cells c t)).grownBy w1 v.ownBlock) :
    IDt w T b (k + 1) (.slice (some ⟨g, 0, none⟩) ((idsK T k).length + 1) cap) w1 := by
  refine ⟨?_, ?_⟩
  · rw [idsK_in hk]
    simpa [ints] using hown
  · exact (h.bel.alloc h.bel.size _).grown hg (by have := h.bel.size; simp; omega) (fun k' hk => (h.own.lt k' hk).1)
end
end Wd
end Go.Proofs.Ytdaojohdmidemaa

/- The document's own mill: its rows. -/
namespace Go.Proofs.Ytdaojohdmidemaa
open Go.RowKit
set_option linter.unusedVariables false
namespace Wd
/-- the rows of a mill: Free, Black, Grey, Ecru -/
abbrev Mst := Nat → List Int
def upA (A : Mst) (k : Nat) (X : List Int) : Mst := fun j => if j = k then X else A j
def upV (V : Nat → Value) (k : Nat) (v : Value) : Nat → Value := fun j => if j = k then v else V j
/-- the first of a row is the last of another -/
def firstA (A : Mst) (x y : Nat) : Mst := match A x with
  | [] => A
  | i :: T => upA (upA A x T) y (A y ++ [i])
def firstR (A : Mst) (x : Nat) : Int := match A x with
  | [] => -1
  | i :: _ => i
def colorR (A : Mst) (i : Int) : Int := if i ∈ A 0 then 0 else if i ∈ A 1 then 1 else if i ∈ A 2 then 2 else if i ∈ A 3 then 3 else -1
def shadeA (A : Mst) (i : Int) : Mst := if colorR A i = 3 then upA (upA A 3 ((A 3).filter (· ≠ i))) 2 (A 2 ++ [i]) else A
def flipR (A : Mst) : List Int := if A 2 = [] then A 3 else []
def flipA (A : Mst) : Mst := if A 2 = [] then upA (upA (upA A 0 (A 0 ++ A 3)) 3 (A 1)) 1 [] else A
/-- a mill of the document's own, at block b -/
structure RefM (w : World) (b : Nat) (A : Mst) (V : Nat → Value) : Prop where
  c : ∀ k, k < 4 → w.cell? ⟨b, k, none⟩ = some (V k)
  z : ∀ k, w.frozen? ⟨b, k, none⟩ = false
  own : ∀ k, k < 4 → SL w 3 (V k) (A k)
  apart : ∀ k, k < 4 → (V k).ownBlock ≠ some b
def Comes (V V' : Nat → Value) (s : Nat) : Prop := ∀ k g, k < 4 → (V' k).ownBlock = some g → s ≤ g ∨ ∃ j, j < 4 ∧ (V j).ownBlock = some g
theorem Comes.refl (V : Nat → Value) (s : Nat) : Comes V V s := fun k _ hk h => Or.inr ⟨k, hk, h⟩
theorem Comes.up {V V' : Nat → Value} {s : Nat} (h : Comes V V' s) (k : Nat) {v : Value} (hv : ∀ g, v.ownBlock = some g → s ≤ g ∨ ∃ j, j < 4 ∧ (V j).ownBlock = some g) : Comes V (upV V' k v) s := by
  intro j g hj hg
  unfold upV at hg
  split at hg
  · exact hv g hg
  · exact h j g hj hg
theorem Comes.trans {V V' V'' : Nat → Value} {s t : Nat} (h : Comes V V' s) (g : Comes V' V'' t) (hst : s ≤ t) : Comes V V'' s := by
  intro k x hk hx
  rcases g k x hk hx with h1 | ⟨j, hj, h1⟩
  · exact Or.inl (by omega)
  · exact h j x hj h1
theorem RefM.lt {w : World} {b : Nat} {A : Mst} {V : Nat → Value} (h : RefM w b A V) : b < w.heap.size ∧ ∀ k g, k < 4 → (V k).ownBlock = some g → g < w.heap.size :=
  ⟨World.block_lt_of_cell? w _ (h.c 0 (by decide)), fun k g hk hg => ((h.own k hk).lt g hg).2⟩
theorem RefM.same {w w' : World} {b : Nat} {A : Mst} {V : Nat → Value} (h : RefM w b A V) (hk : ∀ g, (g = b ∨ ∃ j, j < 4 ∧ (V j).ownBlock = some g) → w'.heap[g]? = w.heap[g]?) : RefM w' b A V := by
  have hb := hk b (Or.inl rfl)
  refine ⟨fun k h4 => (World.cell?_of_block (a := ⟨b, k, none⟩) hb).trans (h.c k h4), fun k => (World.frozen?_of_block (a := ⟨b, k, none⟩) hb).trans (h.z k), fun k h4 => ?_, h.apart⟩
  obtain ⟨h1, h2⟩ := h.own k h4
  refine ⟨h1, ?_⟩
  rcases h2 with hh | ⟨g, cap, cur, e1, e2, e3, e4⟩
  · exact Or.inl hh
  · exact Or.inr ⟨g, cap, cur, e1, e2, (hk g (Or.inr ⟨k, h4, by rw [e1]; rfl⟩)).trans e3, e4⟩
theorem RefM.keep {w w' : World} {b : Nat} {A : Mst} {V : Nat → Value} (h : RefM w b A V) (g : Below w.heap.size w w') : RefM w' b A V :=
  h.same (fun k hk => g.block k (by rcases hk with rfl | ⟨j, hj, hk⟩; exact h.lt.1; exact h.lt.2 j k hj hk))
theorem RefM.put {w2 : World} {b k : Nat} {A : Mst} {V : Nat → Value} {v : Value} {X : List Int} (h : RefM w2 b A V) (hk : k < 4) (own : SL w2 3 v X) (far : v.ownBlock ≠ some b) :
    RefM (w2.setCell ⟨b, k, none⟩ v) b (upA A k X) (upV V k v) := by
  refine ⟨fun j hj => ?_, fun j => by rw [World.frozen?_setCell]; exact h.z j, fun j hj => ?_, fun j hj => ?_⟩
  · by_cases c : j = k
    · subst c; simp only [upV, if_true]; exact World.cell?_setCell_same _ _ _ (h.c j hj)
    · simp only [upV, if_neg c]; exact (World.cell?_setCell_other _ _ _ _ (by intro e; cases e; exact c rfl)).trans (h.c j hj)
  · by_cases c : j = k
    · subst c; simp only [upV, upA, if_true]; exact ownsRow_setCell_other own far _
    · simp only [upV, upA, if_neg c]; exact ownsRow_setCell_other (h.own j hj) (h.apart j hj) _
  · by_cases c : j = k
    · subst c; simp only [upV, if_true]; exact far
    · simp only [upV, if_neg c]; exact h.apart j hj
theorem grown_put {w w2 : World} {b k : Nat} (bel : Below w.heap.size w w2) (v : Value) : w.grownBy (w2.setCell ⟨b, k, none⟩ v) (some b) := by
  refine ⟨bel.os, bel.tape, bel.output, by simpa [World.setCell] using bel.size, fun j hj hne => ?_⟩
  rw [Below.heap_setCell _ _ _ _ (by simpa using hne)]
  exact bel.block j hj
theorem grown_put2 {w w1 w2 : World} {b k : Nat} (g : w.grownBy w1 (some b)) (bel : Below w1.heap.size w1 w2) (v : Value) : w.grownBy (w2.setCell ⟨b, k, none⟩ v) (some b) := by
  refine ⟨bel.os.trans g.os, bel.tape.trans g.tape, bel.output.trans g.output, Nat.le_trans g.size (by simpa [World.setCell] using bel.size), fun j hj hne => ?_⟩
  rw [Below.heap_setCell _ _ _ _ (by simpa using hne), bel.block j (Nat.lt_of_lt_of_le hj g.size)]
  exact g.block j hj hne
theorem made_after (w : World) (o : Obj) (e : TypeId) : ((w.alloc o).alloc (.cells #[] e)).ownsRow w.heap.size e 1 (.slice (some ⟨w.heap.size + 1, 0, none⟩) 0 0) 0 [] := by
  have := World.ownsRow_made (base := w.heap.size) (size := 1) (e := e) (w.alloc o) #[] 0 (by simp) (by decide) rfl
  rwa [World.size_alloc] at this
theorem Reads.tail {w : World} {g n cap : Nat} {i : Int} {T : List Int} {ad : Addr} (h : w.ownsRow 0 3 1 (.slice (some ⟨g, 0, none⟩) n cap) n (ints (i :: T))) (hn : n = T.length + 1) (hc : n ≤ cap) (ha : (if cap = 1 then some (⟨g, 0, none⟩ : Addr) else some ⟨g, 1, none⟩) = some ad) :
    Reads w (.slice (some ad) T.length (cap - 1)) T := by
  refine Or.inr ⟨ad, cap - 1, rfl, fun j x hx => ?_⟩
  by_cases c : cap = 1
  · have : T = [] := List.length_eq_zero_iff.1 (by omega)
    subst this
    simp [ints] at hx
  · rw [if_neg c] at ha
    cases ha
    simp only [ints, List.getElem?_map, Option.map_eq_some_iff] at hx
    obtain ⟨y, hy, rfl⟩ := hx
    rw [Addr.add_lit]
    exact row_cell h (by rw [Nat.add_comm]; simpa using hy)
end Wd
end Go.Proofs.Ytdaojohdmidemaa

/- The document's own mill: the first of a row is the last of another. -/
namespace Go.Proofs.Ytdaojohdmidemaa
open Go.RowKit
set_option linter.unusedVariables false
namespace Wd
end Wd
end Go.Proofs.Ytdaojohdmidemaa

/- The document's own mill: Alloc, Scan, Color. -/
namespace Go.Proofs.Ytdaojohdmidemaa
open Go.RowKit
set_option linter.unusedVariables false
namespace Wd
theorem colorR_hit {A : Mst} {i : Int} {c : Nat} (hc : c < 4) (hn : ∀ j, j < c → i ∉ A j) (hi : i ∈ A c) : colorR A i = c := by
  unfold colorR
  have h0 := hn 0
  have h1 := hn 1
  have h2 := hn 2
  rcases (show c = 0 ∨ c = 1 ∨ c = 2 ∨ c = 3 by omega) with rfl | rfl | rfl | rfl <;> simp_all
theorem colorR_miss {A : Mst} {i : Int} (hn : ∀ j, j < 4 → i ∉ A j) : colorR A i = -1 := by
  unfold colorR
  rw [if_neg (hn 0 (by decide)), if_neg (hn 1 (by decide)), if_neg (hn 2 (by decide)), if_neg (hn 3 (by decide))]
end Wd
end Go.Proofs.Ytdaojohdmidemaa

/- The document's own mill: Shade. -/
namespace Go.Proofs.Ytdaojohdmidemaa
open Go.RowKit
set_option linter.unusedVariables false
namespace Wd
/-- those of a row that are left so far -/
structure FiltSt (w : World) (i : Int) (M : List Int) (k : Nat) (v : Value) (wr : World) : Prop where
  own : wr.ownsRow w.heap.size 3 1 v ((M.take k).filter (· ≠ i)).length (ints ((M.take k).filter (· ≠ i)))
  bel : Below w.heap.size w wr
theorem filt_in {M : List Int} {k : Nat} {x i : Int} (hx : M[k]? = some x) (h : x ≠ i) : (M.take (k + 1)).filter (· ≠ i) = (M.take k).filter (· ≠ i) ++ [x] := by
  rw [List.take_add_one, hx, List.filter_append]
  simp [h]
theorem filt_out {M : List Int} {k : Nat} {i : Int} (hx : M[k]? = some i) : (M.take (k + 1)).filter (· ≠ i) = (M.take k).filter (· ≠ i) := by
  rw [List.take_add_one, hx, List.filter_append]
  simp
theorem colorR_in {A : Mst} {i : Int} (h : colorR A i = 3) : i ∈ A 3 := by
  unfold colorR at h
  repeat' (split at h)
  all_goals first | assumption | omega
end Wd
end Go.Proofs.Ytdaojohdmidemaa

/- The document's own mill: Flip. -/
namespace Go.Proofs.Ytdaojohdmidemaa
open Go.RowKit
set_option linter.unusedVariables false
namespace Wd
theorem grown_cells {w w1 : World} {b : Nat} (g : w.grownBy w1 (some b)) (k : Nat) (v : Value) : w.grownBy (w1.setCell ⟨b, k, none⟩ v) (some b) := by
  refine ⟨g.os, g.tape, g.output, by simpa [World.setCell] using g.size, fun j hj hne => ?_⟩
  rw [Below.heap_setCell _ _ _ _ (by simpa using hne)]
  exact g.block j hj hne
theorem grown_drew {w w1 : World} {row : Option Nat} (g : w.grownBy w1 row) : w.grownBy w1.drew row := ⟨g.os, g.tape, g.output, g.size, g.block⟩
theorem below_row {w w1 : World} {row : Option Nat} (h : Below w.heap.size w w1) : w.grownBy w1 row := ⟨h.os, h.tape, h.output, h.size, fun k hk _ => h.block k hk⟩
end Wd
end Go.Proofs.Ytdaojohdmidemaa

/- The document's own mill: it is made. -/
namespace Go.Proofs.Ytdaojohdmidemaa
open Go.RowKit
set_option linter.unusedVariables false
namespace Wd
/-- the mill while it is filled -/
structure NMst (w : World) (k : Nat) (v : Value) (wr : World) : Prop where
  ref : RefM wr w.heap.size (upA (fun _ => []) 0 (rng k)) (upV (fun _ => .slice none 0 0) 0 v)
  own : wr.ownsRow w.heap.size 3 1 v k (ints (rng k))
  bel : Below w.heap.size w wr
theorem NMst.next {w wr w1 : World} {k : Nat} {v v1 : Value} {o : Obj} (h : NMst w k v wr) (hown : w1.ownsRow w.heap.size 3 1 v1 (k + 1) (ints (rng (k + 1)))) (hg : (wr.alloc o).grownBy w1 v.ownBlock) (hat : v1.ownBlock = v.ownBlock ∨ v1.ownBlock = some (wr.alloc o).heap.size) :
    NMst w (k + 1) v1 (w1.setCell ⟨w.heap.size, 0, none⟩ v1) := by
  have hb := h.ref.lt.1
  have far0 : v.ownBlock ≠ some w.heap.size := h.ref.apart 0 (by decide)
  have far : v1.ownBlock ≠ some w.heap.size := by
    rcases hat with e | e <;> rw [e]
    · exact far0
    · simp; omega
  have hbl : ∀ g, g < wr.heap.size → some g ≠ v.ownBlock → w1.heap[g]? = wr.heap[g]? := fun g hg1 hne => (hg.block g (by simp; omega) hne).trans (Below.heap_alloc _ _ _ hg1)
  have hbb := hbl w.heap.size hb (fun e => far0 e.symm)
  have b1 : Below w.heap.size w w1 := (h.bel.alloc h.bel.size _).grown hg (by have := h.bel.size; simp; omega) (fun k' hk => (h.own.lt k' hk).1)
  refine ⟨⟨fun j hj => ?_, fun j => ?_, fun j hj => ?_, fun j hj => ?_⟩, ownsRow_setCell_other hown far _, b1.setCell (Nat.le_refl _) _⟩
  · by_cases c : j = 0
    · subst c
      simp only [upV, if_true]
      exact World.cell?_setCell_same _ _ _ ((World.cell?_of_block (a := ⟨w.heap.size, 0, none⟩) hbb).trans (h.ref.c 0 (by decide)))
    · simp only [upV, if_neg c]
      refine (World.cell?_setCell_other _ _ _ _ (by intro e; cases e; exact c rfl)).trans ?_
      have := (World.cell?_of_block (a := ⟨w.heap.size, j, none⟩) hbb).trans (h.ref.c j hj)
      simpa only [upV, if_neg c] using this
  · rw [World.frozen?_setCell]; exact (World.frozen?_of_block (a := ⟨w.heap.size, j, none⟩) hbb).trans (h.ref.z j)
  · by_cases c : j = 0
    · subst c
      simp only [upV, upA, if_true]
      have := ownsRow_setCell_other (own_base hown) far (a := ⟨w.heap.size, 0, none⟩) v1
      unfold SL
      rw [rng_len]
      exact this
    · simp only [upV, upA, if_neg c]
      exact World.ownsRow_nil _ _ _ _
  · by_cases c : j = 0
    · subst c; simp only [upV, if_true]; exact far
    · simp only [upV, if_neg c, Value.ownBlock]; simp
end Wd
end Go.Proofs.Ytdaojohdmidemaa

/- Plain facts on sizes, chapter 3: no program is named here. -/
namespace Go.Proofs.Ytdaojohdmidemaa
open Go.RowKit
namespace Wd

/-- the words of a cell of that size -/
def wd (n : Int) : Int := if n = 0 then 4 else if n = 1 then 8 else if n = 2 then 16 else if n = 3 then 32 else if n = 4 then 64 else 0
/-- the least size that takes so many fields -/
def fo (n : Int) : Int := if n < 0 then -1 else if n ≤ 2 then 0 else if n ≤ 6 then 1 else if n ≤ 14 then 2 else if n ≤ 30 then 3 else if n ≤ 62 then 4 else -1
/-- the words that are left over -/
def wst (n : Int) : Int := if fo n < 0 then 0 else wd (fo n) - n - 2
/-- is the memory right, as an error's number -/
def rt (a b c d e p : Int) : Int :=
  if 0 ≤ a ∧ a ≤ 512 ∧ 0 ≤ b ∧ b ≤ 512 ∧ 0 ≤ c ∧ c ≤ 512 ∧ 0 ≤ d ∧ d ≤ 512 ∧ 0 ≤ e ∧ e ≤ 512 ∧ 1 ≤ a + b + c + d + e ∧ a + b + c + d + e ≤ 1020 then (if 1 ≤ p ∧ p ≤ 16 then 0 else 1) else 18
/-- all words of a memory -/
def tot (a b c d e p : Int) : Int := if rt a b c d e p = 0 then a * 4 + b * 8 + c * 16 + d * 32 + e * 64 else 0
theorem rt_cases (a b c d e p : Int) :
    (((a < 0 ∨ 512 < a) ∨ (0 ≤ a ∧ a ≤ 512 ∧ (b < 0 ∨ 512 < b)) ∨ (0 ≤ a ∧ a ≤ 512 ∧ 0 ≤ b ∧ b ≤ 512 ∧ (c < 0 ∨ 512 < c)) ∨ (0 ≤ a ∧ a ≤ 512 ∧ 0 ≤ b ∧ b ≤ 512 ∧ 0 ≤ c ∧ c ≤ 512 ∧ (d < 0 ∨ 512 < d))
      ∨ (0 ≤ a ∧ a ≤ 512 ∧ 0 ≤ b ∧ b ≤ 512 ∧ 0 ≤ c ∧ c ≤ 512 ∧ 0 ≤ d ∧ d ≤ 512 ∧ (e < 0 ∨ 512 < e))
      ∨ (0 ≤ a ∧ a ≤ 512 ∧ 0 ≤ b ∧ b ≤ 512 ∧ 0 ≤ c ∧ c ≤ 512 ∧ 0 ≤ d ∧ d ≤ 512 ∧ 0 ≤ e ∧ e ≤ 512 ∧ (a + b + c + d + e < 1 ∨ 1020 < a + b + c + d + e))) ∧ rt a b c d e p = 18)
    ∨ ((0 ≤ a ∧ a ≤ 512 ∧ 0 ≤ b ∧ b ≤ 512 ∧ 0 ≤ c ∧ c ≤ 512 ∧ 0 ≤ d ∧ d ≤ 512 ∧ 0 ≤ e ∧ e ≤ 512 ∧ 1 ≤ a + b + c + d + e ∧ a + b + c + d + e ≤ 1020) ∧
        (((p < 1 ∨ 16 < p) ∧ rt a b c d e p = 1) ∨ (1 ≤ p ∧ p ≤ 16 ∧ rt a b c d e p = 0))) := by
  unfold rt
  split
  · rename_i h
    refine Or.inr ⟨h, ?_⟩
    split <;> omega
  · exact Or.inl ⟨by omega, rfl⟩
theorem rt_zero (a b c d e p : Int) : rt a b c d e p = 0 ↔ (0 ≤ a ∧ a ≤ 512 ∧ 0 ≤ b ∧ b ≤ 512 ∧ 0 ≤ c ∧ c ≤ 512 ∧ 0 ≤ d ∧ d ≤ 512 ∧ 0 ≤ e ∧ e ≤ 512 ∧ 1 ≤ a + b + c + d + e ∧ a + b + c + d + e ≤ 1020) ∧ 1 ≤ p ∧ p ≤ 16 := by
  rcases rt_cases a b c d e p with ⟨h, e⟩ | ⟨h, ⟨h1, e⟩ | ⟨h1, h2, e⟩⟩ <;> rw [e] <;> omega
theorem fo_bd (n : Int) : -1 ≤ fo n ∧ fo n ≤ 4 := by unfold fo; repeat' split <;> omega
theorem wd_bd (n : Int) : 0 ≤ wd n ∧ wd n ≤ 64 := by unfold wd; repeat' split <;> omega
theorem wst_bd (n : Int) : -1 ≤ wst n ∧ wst n ≤ 64 := by
  unfold wst wd fo
  split
  · omega
  · repeat' split <;> omega
theorem fo_cases (n : Int) : ((n < 0 ∨ 62 < n) ∧ fo n = -1) ∨ (0 ≤ n ∧ n ≤ 2 ∧ fo n = 0) ∨ (3 ≤ n ∧ n ≤ 6 ∧ fo n = 1) ∨ (7 ≤ n ∧ n ≤ 14 ∧ fo n = 2) ∨ (15 ≤ n ∧ n ≤ 30 ∧ fo n = 3) ∨ (31 ≤ n ∧ n ≤ 62 ∧ fo n = 4) := by
  unfold fo; repeat' split <;> omega
theorem wd_cases (n : Int) : ((n < 0 ∨ 5 ≤ n) ∧ wd n = 0) ∨ (n = 0 ∧ wd n = 4) ∨ (n = 1 ∧ wd n = 8) ∨ (n = 2 ∧ wd n = 16) ∨ (n = 3 ∧ wd n = 32) ∨ (n = 4 ∧ wd n = 64) := by
  unfold wd; repeat' split <;> omega
theorem wst_cases (n : Int) : ((n < 0 ∨ 62 < n) ∧ fo n = -1 ∧ wst n = 0) ∨ (0 ≤ n ∧ n ≤ 62 ∧ 0 ≤ fo n ∧ fo n ≤ 4 ∧ wst n = wd (fo n) - n - 2 ∧ 0 ≤ wd (fo n) - n - 2 ∧ wd (fo n) ≤ 64) := by
  rcases fo_cases n with ⟨h, e⟩ | ⟨h0, h1, e⟩ | ⟨h0, h1, e⟩ | ⟨h0, h1, e⟩ | ⟨h0, h1, e⟩ | ⟨h0, h1, e⟩
  · exact Or.inl ⟨h, e, by unfold wst; rw [e]; rfl⟩
  all_goals
    refine Or.inr ?_
    have ew : wst n = wd (fo n) - n - 2 := by unfold wst; rw [if_neg (by omega)]
    rw [ew, e]
    refine ⟨by omega, by omega, by omega, by omega, rfl, ?_, ?_⟩ <;> simp [wd] <;> omega
theorem bits64_bd (op : BinOp) (a b : Int) : -9223372036854775808 ≤ bits op .i64 a b ∧ bits op .i64 a b ≤ 9223372036854775807 := by
  unfold bits
  split <;> simp only [IntKind.wrap_i64] <;> omega
theorem i64_and15 (n : Int) : bits .and .i64 n 15 = n % 16 := by
  have h127 : (BitVec.ofInt 64 15).toNat = 2 ^ 4 - 1 := by decide
  have key : (BitVec.ofInt 64 n &&& BitVec.ofInt 64 15).toNat = (n % ((2 ^ 64 : Nat) : Int)).toNat % 2 ^ 4 := by
    rw [BitVec.toNat_and, BitVec.toNat_ofInt, h127, Nat.and_two_pow_sub_one_eq_mod]
  show IntKind.i64.wrap ((BitVec.ofInt 64 n &&& BitVec.ofInt 64 15).toNat : Nat) = n % 16
  rw [key, IntKind.wrap_i64]
  omega
theorem i64_and31 (n : Int) : bits .and .i64 n 31 = n % 32 := by
  have h127 : (BitVec.ofInt 64 31).toNat = 2 ^ 5 - 1 := by decide
  have key : (BitVec.ofInt 64 n &&& BitVec.ofInt 64 31).toNat = (n % ((2 ^ 64 : Nat) : Int)).toNat % 2 ^ 5 := by
    rw [BitVec.toNat_and, BitVec.toNat_ofInt, h127, Nat.and_two_pow_sub_one_eq_mod]
  show IntKind.i64.wrap ((BitVec.ofInt 64 n &&& BitVec.ofInt 64 31).toNat : Nat) = n % 32
  rw [key, IntKind.wrap_i64]
  omega
theorem i64_and63 (n : Int) : bits .and .i64 n 63 = n % 64 := by
  have h127 : (BitVec.ofInt 64 63).toNat = 2 ^ 6 - 1 := by decide
  have key : (BitVec.ofInt 64 n &&& BitVec.ofInt 64 63).toNat = (n % ((2 ^ 64 : Nat) : Int)).toNat % 2 ^ 6 := by
    rw [BitVec.toNat_and, BitVec.toNat_ofInt, h127, Nat.and_two_pow_sub_one_eq_mod]
  show IntKind.i64.wrap ((BitVec.ofInt 64 n &&& BitVec.ofInt 64 63).toNat : Nat) = n % 64
  rw [key, IntKind.wrap_i64]
  omega
theorem i64_and127 (n : Int) : bits .and .i64 n 127 = n % 128 := by
  have h127 : (BitVec.ofInt 64 127).toNat = 2 ^ 7 - 1 := by decide
  have key : (BitVec.ofInt 64 n &&& BitVec.ofInt 64 127).toNat = (n % ((2 ^ 64 : Nat) : Int)).toNat % 2 ^ 7 := by
    rw [BitVec.toNat_and, BitVec.toNat_ofInt, h127, Nat.and_two_pow_sub_one_eq_mod]
  show IntKind.i64.wrap ((BitVec.ofInt 64 n &&& BitVec.ofInt 64 127).toNat : Nat) = n % 128
  rw [key, IntKind.wrap_i64]
  omega
theorem i64_and255 (n : Int) : bits .and .i64 n 255 = n % 256 := by
  have h127 : (BitVec.ofInt 64 255).toNat = 2 ^ 8 - 1 := by decide
  have key : (BitVec.ofInt 64 n &&& BitVec.ofInt 64 255).toNat = (n % ((2 ^ 64 : Nat) : Int)).toNat % 2 ^ 8 := by
    rw [BitVec.toNat_and, BitVec.toNat_ofInt, h127, Nat.and_two_pow_sub_one_eq_mod]
  show IntKind.i64.wrap ((BitVec.ofInt 64 n &&& BitVec.ofInt 64 255).toNat : Nat) = n % 256
  rw [key, IntKind.wrap_i64]
  omega
theorem i64_and511 (n : Int) : bits .and .i64 n 511 = n % 512 := by
  have h127 : (BitVec.ofInt 64 511).toNat = 2 ^ 9 - 1 := by decide
  have key : (BitVec.ofInt 64 n &&& BitVec.ofInt 64 511).toNat = (n % ((2 ^ 64 : Nat) : Int)).toNat % 2 ^ 9 := by
    rw [BitVec.toNat_and, BitVec.toNat_ofInt, h127, Nat.and_two_pow_sub_one_eq_mod]
  show IntKind.i64.wrap ((BitVec.ofInt 64 n &&& BitVec.ofInt 64 511).toNat : Nat) = n % 512
  rw [key, IntKind.wrap_i64]
  omega
end Wd
end Go.Proofs.Ytdaojohdmidemaa

/- What holds of rows of cells, and of identities' places (out of the stages 5 and 7). -/
namespace Go.Proofs.Ytdaojohdmidemaa
open Go.RowKit
set_option linter.unusedVariables false
namespace Wd
def startA (n : Nat) : Mst := upA (fun _ => []) 0 (rng n)
/-- all cells are in one row, once -/
def Good (n : Nat) (A : Mst) : Prop := (A 0 ++ (A 1 ++ (A 2 ++ A 3))).Perm (rng n)
theorem good_start (n : Nat) : Good n (startA n) := by unfold Good startA; simp [upA]
theorem good_first {n : Nat} {A : Mst} (h : Good n A) (x : Nat) (hx : x = 0 ∨ x = 2) : Good n (firstA A x 1) := by
  unfold firstA
  split
  · exact h
  · rename_i i T hA
    refine List.Perm.trans ?_ h
    rcases hx with rfl | rfl
    · simp only [upA]
      simp only [hA, if_true, show ((0 : Nat) = 1) = False by simp, show ((2 : Nat) = 1) = False by simp, show ((3 : Nat) = 1) = False by simp, show ((2 : Nat) = 0) = False by simp, show ((3 : Nat) = 0) = False by simp, show ((1 : Nat) = 0) = False by simp, if_false]
      refine List.perm_iff_count.2 (fun a => ?_)
      simp only [List.count_append, List.count_cons, List.count_nil]
      omega
    · simp only [upA]
      simp only [hA, if_true, show ((0 : Nat) = 1) = False by simp, show ((2 : Nat) = 1) = False by simp, show ((3 : Nat) = 1) = False by simp, show ((0 : Nat) = 2) = False by simp, show ((3 : Nat) = 2) = False by simp, show ((1 : Nat) = 2) = False by simp, if_false]
      refine List.perm_iff_count.2 (fun a => ?_)
      simp only [List.count_append, List.count_cons, List.count_nil]
      omega
theorem good_nd {n : Nat} {A : Mst} (h : Good n A) : (A 0 ++ (A 1 ++ (A 2 ++ A 3))).Nodup := h.nodup_iff.2 (rng_nd n)
theorem good_len {n : Nat} {A : Mst} (h : Good n A) : (A 0).length + ((A 1).length + ((A 2).length + (A 3).length)) = n := by
  have := h.length_eq
  simpa [rng] using this
theorem good_le {n : Nat} {A : Mst} (h : Good n A) : ∀ k, k < 4 → (A k).length ≤ n := by
  have := good_len h
  intro k hk
  rcases (show k = 0 ∨ k = 1 ∨ k = 2 ∨ k = 3 by omega) with rfl | rfl | rfl | rfl <;> omega
theorem nd3 {n : Nat} {A : Mst} (h : Good n A) : (A 3).Nodup := by
  have := good_nd h
  exact (List.nodup_append.1 (List.nodup_append.1 (List.nodup_append.1 this).2.1).2.1).2.1
theorem filt_perm {L : List Int} (hn : L.Nodup) {i : Int} (h : i ∈ L) : (L.filter (· ≠ i) ++ [i]).Perm L := by
  have e : L.filter (· ≠ i) = L.erase i := by rw [hn.erase_eq_filter]; congr 1; funext x; by_cases h : x = i <;> simp [h]
  rw [e]
  exact (List.perm_append_singleton i _).trans (List.perm_cons_erase h).symm
theorem good_shade {n : Nat} {A : Mst} (h : Good n A) (i : Int) : Good n (shadeA A i) := by
  unfold shadeA
  split
  · rename_i hc
    refine List.Perm.trans ?_ h
    have hp := filt_perm (nd3 h) (colorR_in hc)
    simp only [upA]
    simp only [if_true, show ((0 : Nat) = 2) = False by simp, show ((1 : Nat) = 2) = False by simp, show ((3 : Nat) = 2) = False by simp, show ((0 : Nat) = 3) = False by simp, show ((1 : Nat) = 3) = False by simp, show ((2 : Nat) = 3) = False by simp, if_false]
    refine List.perm_iff_count.2 (fun a => ?_)
    have := List.perm_iff_count.1 hp a
    simp only [List.count_append] at this ⊢
    omega
  · exact h
theorem good_flip {n : Nat} {A : Mst} (h : Good n A) : Good n (flipA A) := by
  unfold flipA
  split
  · rename_i hc
    refine List.Perm.trans ?_ h
    simp only [upA]
    simp only [hc, if_true, show ((0 : Nat) = 1) = False by simp, show ((2 : Nat) = 1) = False by simp, show ((3 : Nat) = 1) = False by simp, show ((0 : Nat) = 3) = False by simp, show ((2 : Nat) = 3) = False by simp, show ((2 : Nat) = 0) = False by simp, if_false]
    refine List.perm_iff_count.2 (fun a => ?_)
    simp only [List.count_append, List.count_nil]
    omega
  · exact h
def rowA (A : Mst) (c : Int) : List Int := if 0 ≤ c ∧ c < 4 then A c.toNat else []
def LL (A : Mst) : List Int := A 0 ++ (A 1 ++ (A 2 ++ A 3))
theorem good_mem {n : Nat} {A : Mst} (h : Good n A) {i : Int} : i ∈ LL A ↔ 0 ≤ i ∧ i < n := by
  rw [show (i ∈ LL A ↔ i ∈ rng n) from List.Perm.mem_iff h]
  unfold rng
  rw [List.mem_map]
  constructor
  · rintro ⟨k, hk, rfl⟩; rw [List.mem_range] at hk; omega
  · intro hi; exact ⟨i.toNat, by rw [List.mem_range]; omega, by omega⟩
theorem mem_LL {A : Mst} {i : Int} : i ∈ LL A ↔ ∃ k, k < 4 ∧ i ∈ A k := by
  unfold LL
  simp only [List.mem_append]
  constructor
  · rintro (h | h | h | h)
    · exact ⟨0, by omega, h⟩
    · exact ⟨1, by omega, h⟩
    · exact ⟨2, by omega, h⟩
    · exact ⟨3, by omega, h⟩
  · rintro ⟨k, hk, h⟩
    rcases (show k = 0 ∨ k = 1 ∨ k = 2 ∨ k = 3 by omega) with rfl | rfl | rfl | rfl <;> simp [h]
theorem good_apart {n : Nat} {A : Mst} (h : Good n A) {x y : Nat} (hx : x < 4) (hy : y < 4) {i : Int} (h1 : i ∈ A x) (h2 : i ∈ A y) : x = y := by
  have hn := good_nd h
  have n1 := List.nodup_append.1 hn
  have n2 := List.nodup_append.1 n1.2.1
  have n3 := List.nodup_append.1 n2.2.1
  rcases (show x = 0 ∨ x = 1 ∨ x = 2 ∨ x = 3 by omega) with rfl | rfl | rfl | rfl <;> rcases (show y = 0 ∨ y = 1 ∨ y = 2 ∨ y = 3 by omega) with rfl | rfl | rfl | rfl <;> first | rfl | (exfalso; first | exact n1.2.2 i h1 i (by simp [h2]) rfl | exact n1.2.2 i h2 i (by simp [h1]) rfl | exact n2.2.2 i h1 i (by simp [h2]) rfl | exact n2.2.2 i h2 i (by simp [h1]) rfl | exact n3.2.2 i h1 i (by simp [h2]) rfl | exact n3.2.2 i h2 i (by simp [h1]) rfl)
theorem good_color {n : Nat} {A : Mst} (h : Good n A) {x : Nat} (hx : x < 4) {i : Int} (h1 : i ∈ A x) : colorR A i = x :=
  colorR_hit hx (fun j hj hi => by have := good_apart h (by omega) hx hi h1; omega) h1
theorem good_out {n : Nat} {A : Mst} (h : Good n A) {i : Int} (hi : ¬ (0 ≤ i ∧ i < n)) : colorR A i = -1 :=
  colorR_miss (fun j hj hm => hi ((good_mem h).1 (mem_LL.2 ⟨j, hj, hm⟩)))
theorem good_in {n : Nat} {A : Mst} (h : Good n A) {k : Nat} (hk : k < n) : ∃ x, x < 4 ∧ (k : Int) ∈ A x ∧ colorR A k = (x : Int) := by
  obtain ⟨x, hx, hm⟩ := mem_LL.1 ((good_mem h).2 (⟨by omega, by omega⟩ : 0 ≤ (k : Int) ∧ (k : Int) < n))
  exact ⟨x, hx, hm, good_color h hx hm⟩
def plOk (p : Pl) : Prop := (-9223372036854775808 ≤ p.1 ∧ p.1 ≤ 9223372036854775807) ∧ (-9223372036854775808 ≤ p.2 ∧ p.2 ≤ 9223372036854775807)
def atP (T : Tst) (i : Int) : Pl := if hasT T i then (T i.toNat).getD (0, 0) else (0, 0)
/-- each identity that is there is in bounds, its place is nobody else's -/
structure Inv (T : Tst) : Prop where
  bd : ∀ k p, T k = some p → 4 ≤ k ∧ k < 1024 ∧ plOk p
  inj : ∀ i j p, T i = some p → T j = some p → i = j
theorem Inv.no : Inv noT := ⟨fun k p h => (by cases h), fun i j p h => (by cases h)⟩
theorem ofR_none {T : Tst} (hI : Inv T) {p : Pl} (h : ofR T p = none) (k : Nat) : T k ≠ some p := by
  intro hk
  obtain ⟨h1, h2, _⟩ := hI.bd k p hk
  have := firstIn_no h k h1 h2
  rw [hk] at this
  simp at this
theorem ofR_at {T : Tst} (hI : Inv T) {k : Nat} {p : Pl} (h : T k = some p) : ofR T p = some k := by
  obtain ⟨h1, h2, _⟩ := hI.bd k p h
  refine firstIn_hit h1 h2 (fun j a b => ?_) (by show (T k == some p) = true; rw [h]; simp)
  show (T j == some p) = false
  have : T j ≠ some p := fun e => by have := hI.inj j k p e h; omega
  simpa using this
theorem freeR_at {T : Tst} {k : Nat} (h : freeR T = some k) : 4 ≤ k ∧ k < 1024 ∧ T k = none := by
  obtain ⟨h1, h2, h3, _⟩ := firstIn_some h
  exact ⟨h1, h2, by simpa using h3⟩
theorem Inv.upd {T : Tst} (hI : Inv T) {k : Nat} {p : Pl} (h1 : 4 ≤ k) (h2 : k < 1024) (hp : plOk p) (hn : ∀ j, j ≠ k → T j ≠ some p) : Inv (updT T k (some p)) := by
  refine ⟨fun j q hq => ?_, fun i j q hi hj => ?_⟩
  · unfold updT at hq
    by_cases c : j = k
    · subst c; rw [if_pos rfl] at hq; cases hq; exact ⟨h1, h2, hp⟩
    · rw [if_neg c] at hq; exact hI.bd j q hq
  · unfold updT at hi hj
    by_cases c : i = k
    · rw [if_pos c] at hi
      cases hi
      by_cases d : j = k
      · omega
      · rw [if_neg d] at hj; exact absurd hj (hn j d)
    · rw [if_neg c] at hi
      by_cases d : j = k
      · rw [if_pos d] at hj; cases hj; exact absurd hi (hn i c)
      · rw [if_neg d] at hj; exact hI.inj i j q hi hj
theorem Inv.del {T : Tst} (hI : Inv T) (k : Nat) : Inv (updT T k none) := by
  refine ⟨fun j q hq => ?_, fun i j q hi hj => ?_⟩
  · unfold updT at hq
    by_cases c : j = k
    · rw [if_pos c] at hq; cases hq
    · rw [if_neg c] at hq; exact hI.bd j q hq
  · unfold updT at hi hj
    by_cases c : i = k
    · rw [if_pos c] at hi; cases hi
    · rw [if_neg c] at hi
      by_cases d : j = k
      · rw [if_pos d] at hj; cases hj
      · rw [if_neg d] at hj; exact hI.inj i j q hi hj
theorem Inv.take {T : Tst} (hI : Inv T) {p : Pl} (hp : plOk p) : Inv (takeT T p) := by
  unfold takeT
  cases ho : ofR T p with
  | some j => simpa using hI
  | none =>
    simp only [Option.isSome_none, Bool.false_eq_true, if_false]
    cases hf : freeR T with
    | none => exact hI
    | some k =>
      obtain ⟨h1, h2, h3⟩ := freeR_at hf
      exact hI.upd h1 h2 hp (fun j _ => ofR_none hI ho j)
theorem Inv.give {T : Tst} (hI : Inv T) (i : Int) : Inv (giveT T i) := by
  unfold giveT
  split
  · exact hI.del _
  · exact hI
theorem swapT_at {T : Tst} {x y : Nat} {p q : Pl} (hx : T x = some p) (hy : T y = some q) (h1 : x < 1024) (h2 : y < 1024) : swapB T x y = true ∧ swapT T x y = updT (updT T x (some q)) y (some p) := by
  have hb : swapB T x y = true := by
    unfold swapB
    rw [hasT_in h1, hasT_in h2]
    unfold inR
    rw [hx, hy]; rfl
  refine ⟨hb, ?_⟩
  unfold swapT
  rw [if_pos hb, show (x : Int).toNat = x by simp, show (y : Int).toNat = y by simp, hx, hy]
theorem swap_x {T : Tst} {x y : Nat} {p q : Pl} (hx : T x = some p) (hy : T y = some q) : updT (updT T x (some q)) y (some p) x = some q := by
  by_cases c : x = y
  · subst c; rw [updT_self]; rw [← hx, hy]
  · unfold updT; rw [if_neg c, if_pos rfl]
theorem swap_y {T : Tst} {x y : Nat} {p q : Pl} : updT (updT T x (some q)) y (some p) y = some p := updT_self _
theorem atP_at {T : Tst} {k : Nat} {p : Pl} (h : T k = some p) (hk : k < 1024) : atP T k = p ∧ hasT T k = true := by
  have hh : hasT T k = true := by rw [hasT_in hk]; unfold inR; rw [h]; rfl
  refine ⟨?_, hh⟩
  unfold atP
  rw [if_pos hh, show (k : Int).toNat = k by simp, h]; rfl
theorem idsT_mem {T : Tst} {x : Int} (h : x ∈ idsT T) : ∃ k : Nat, x = k ∧ k < 1024 ∧ ∃ p, T k = some p := by
  unfold idsT at h
  obtain ⟨k, hk, rfl⟩ := List.mem_map.1 h
  rw [List.mem_filter, List.mem_range] at hk
  exact ⟨k, rfl, hk.1, Option.isSome_iff_exists.1 hk.2⟩
theorem mem_idsT {T : Tst} {k : Nat} {p : Pl} (hk : k < 1024) (h : T k = some p) : (k : Int) ∈ idsT T := by
  unfold idsT
  exact List.mem_map.2 ⟨k, by rw [List.mem_filter, List.mem_range]; exact ⟨hk, by rw [h]; rfl⟩, rfl⟩
theorem idsT_sorted (T : Tst) : (idsT T).Pairwise (· < ·) := by
  unfold idsT
  rw [List.pairwise_map]
  refine List.Pairwise.imp (fun {a b} (h : a < b) => by omega) (List.Pairwise.filter _ List.pairwise_lt_range)
theorem idsT_lt {T : Tst} {i j : Nat} {x y : Int} (hij : i < j) (hi : (idsT T)[i]? = some x) (hj : (idsT T)[j]? = some y) : x < y := by
  have h := idsT_sorted T
  obtain ⟨h1, rfl⟩ := List.getElem?_eq_some_iff.1 hi
  obtain ⟨h2, rfl⟩ := List.getElem?_eq_some_iff.1 hj
  exact List.pairwise_iff_getElem.1 h i j h1 h2 hij
end Wd
end Go.Proofs.Ytdaojohdmidemaa

/- The memory of chapter 9, plainly: what each call answers and what it leaves; what holds at any time. No program is named here. -/
namespace Go.Proofs.Ytdaojohdmidemaa
open Go.RowKit
set_option linter.unusedVariables false
namespace Wd
/-- a memory: the identities' places, the rows of each size's cells, what lies in each cell: a class, fields -/
structure Hst where
  T : Tst
  M : Nat → Mst
  C : Pl → Int × List Int
def upM (M : Nat → Mst) (s : Nat) (A : Mst) : Nat → Mst := fun j => if j = s then A else M j
def upC (C : Pl → Int × List Int) (p : Pl) (x : Int × List Int) : Pl → Int × List Int := fun q => if q = p then x else C q
/-- the row of a place's size -/
def szP (p : Pl) : Nat := p.1.toNat
def sh (H : Hst) (p : Pl) : Hst := { H with M := upM H.M (szP p) (shadeA (H.M (szP p)) p.2) }
def shI (H : Hst) (i : Int) : Hst := if hasT H.T i then sh H (atP H.T i) else H
def isOp (x : Int) : Bool := decide (x % 2 = 0) && decide (x ≠ 0)
def shW (H : Hst) (x : Int) : Hst := if isOp x then shI H (x / 2) else H
def holdH (H : Hst) (l : List Int) : Hst := l.foldl shW H
def colP (H : Hst) (p : Pl) : Int := colorR (H.M (szP p)) p.2
def colI (H : Hst) (i : Int) : Int := if hasT H.T i then colP H (atP H.T i) else -1
def clsI (H : Hst) (i : Int) : Int := if hasT H.T i then (H.C (atP H.T i)).1 else -1
def fldI (H : Hst) (i : Int) : Int := if hasT H.T i then ((H.C (atP H.T i)).2.length : Int) else -1
def fsI (H : Hst) (i : Int) : List Int := if hasT H.T i then (H.C (atP H.T i)).2 else []
def getB (H : Hst) (i j : Int) : Bool := decide (0 ≤ j ∧ j < (fsI H i).length)
def getV (H : Hst) (i j : Int) : Int := if 0 ≤ j ∧ j < (fsI H i).length then (fsI H i).getD j.toNat 0 else 0
def putB (H : Hst) (i j x : Int) : Bool := decide (0 ≤ j ∧ j < (fsI H i).length) && decide (x ≠ 0)
def putC (H : Hst) (i j x : Int) : Hst := { H with C := upC H.C (atP H.T i) ((H.C (atP H.T i)).1, (fsI H i).set j.toNat x) }
def putH (H : Hst) (i j x : Int) : Hst := if putB H i j x then (if colI H i = 1 then shW (putC H i j x) x else putC H i j x) else H
def swT (H : Hst) (a b : Int) : Hst := { H with T := swapT H.T a b }
def swN (H : Hst) (a b : Int) : Bool := decide (colI H a = 3) != decide (colI H b = 3)
def swapH (H : Hst) (a b : Int) : Hst := if swapB H.T a b then (if swN H a b then shI (shI (swT H a b) a) b else swT H a b) else H
def doneB (H : Hst) : Bool := (List.range 5).all (fun s => (H.M s 2).isEmpty)
def gry (H : Hst) : Option Nat := (List.range 5).find? (fun s => !(H.M s 2).isEmpty)
def scA (H : Hst) (s : Nat) : Hst := { H with M := upM H.M s (firstA (H.M s) 2 1) }
def scan1 (H : Hst) (s : Nat) : Hst := holdH (scA H s) (H.C ((s : Int), firstR (H.M s) 2)).2
def scanN : Nat → Int → Int → Hst → Int × Hst
  | 0, _, d, H => (d, H)
  | k + 1, w, d, H => if d < w then (match gry H with | some s => scanN k w (d + wd s) (scan1 H s) | none => (d, H)) else (d, H)
def clampW (w : Int) : Int := max (min w 1048576) 0
def scanR (H : Hst) (w : Int) : Int × Hst := scanN 262145 (clampW w) 0 H
def giveP (x : Tst × Int) (p : Pl) : Tst × Int := match ofR x.1 p with | some k => (updT x.1 k none, x.2 + 1) | none => x
def flipS (H : Hst) (s : Nat) : List Pl := (flipR (H.M s)).map (fun c => ((s : Int), c))
def flipL (H : Hst) (k : Nat) : List Pl := (List.range k).flatMap (flipS H)
def flpX (H : Hst) : Tst × Int := (flipL H 5).foldl giveP (H.T, 0)
def flpM (H : Hst) (k : Nat) : Nat → Mst := fun s => if s < k then flipA (H.M s) else H.M s
def flpI (H : Hst) : Int := if doneB H then (flpX H).2 else -1
def flpH (H : Hst) : Hst := if doneB H then { H with T := (flpX H).1, M := flpM H 5 } else H
def alcP (H : Hst) (f : Int) : Pl := (fo f, firstR (H.M (fo f).toNat) 0)
def alcB (H : Hst) (cl f : Int) : Bool := decide (0 ≤ cl ∧ cl ≤ 4095) && (decide (0 ≤ fo f) && !(H.M (fo f).toNat 0).isEmpty)
def alcI (H : Hst) (cl f : Int) : Int := if alcB H cl f then takeI H.T (alcP H f) else -1
def alcH (H : Hst) (cl f : Int) : Hst := if alcB H cl f then { T := takeT H.T (alcP H f), M := upM H.M (fo f).toNat (firstA (H.M (fo f).toNat) 0 1), C := upC H.C (alcP H f) (cl, List.replicate f.toNat 2) } else H
def newH (n : Nat → Nat) : Hst := ⟨noT, fun s => startA (n s), fun _ => (0, [])⟩
/-- at any time: n: the cells of each size -/
structure HInv (n : Nat → Nat) (H : Hst) : Prop where
  good : ∀ s, s < 5 → Good (n s) (H.M s)
  inv : Inv H.T
  pl : ∀ k p, H.T k = some p → ∃ s : Nat, s < 5 ∧ p.1 = s ∧ 0 ≤ p.2 ∧ p.2 < n s ∧ p.2 ∉ H.M s 0
  full : ∀ (s : Nat) (c : Int), s < 5 → 0 ≤ c → c < n s → c ∉ H.M s 0 → ∃ k, H.T k = some ((s : Int), c)
  cel : ∀ k p, H.T k = some p → fo (H.C p).2.length = p.1 ∧ (0 ≤ (H.C p).1 ∧ (H.C p).1 ≤ 4095) ∧ ∀ x ∈ (H.C p).2, 0 < x ∧ x ≤ 4294967295
  few : ∀ s, s < 5 → n s ≤ 512
  sum : n 0 + (n 1 + (n 2 + (n 3 + n 4))) ≤ 1020
section
variable {n : Nat → Nat} {H : Hst}
theorem nd_sub {α : Type} [DecidableEq α] : ∀ {L K : List α}, L.Nodup → (∀ x ∈ L, x ∈ K) → L.length ≤ K.length
  | [], K, _, _ => Nat.zero_le _
  | a :: L, K, hn, h => by
    have ha := h a (by simp)
    have hn' := List.nodup_cons.1 hn
    have := nd_sub (L := L) (K := K.erase a) hn'.2 (fun x hx => by
      have hne : x ≠ a := fun e => hn'.1 (e ▸ hx)
      exact (List.mem_erase_of_ne hne).2 (h x (by simp [hx])))
    rw [List.length_erase_of_mem ha] at this
    have h1 : 0 < K.length := List.length_pos_of_mem ha
    simp only [List.length_cons]
    omega
/-- all places of a memory -/
def allP (n : Nat → Nat) : List Pl := (List.range 5).flatMap (fun s => (rng (n s)).map (fun c => ((s : Int), c)))
theorem mem_allP {p : Pl} : p ∈ allP n ↔ ∃ s : Nat, s < 5 ∧ p.1 = s ∧ 0 ≤ p.2 ∧ p.2 < n s := by
  unfold allP rng
  simp only [List.mem_flatMap, List.mem_map, List.mem_range]
  constructor
  · rintro ⟨s, hs, c, ⟨k, hk, rfl⟩, rfl⟩; exact ⟨s, hs, rfl, by simp, by simpa using hk⟩
  · rintro ⟨s, hs, h1, h2, h3⟩; exact ⟨s, hs, p.2, ⟨p.2.toNat, by omega, by omega⟩, by rw [← h1]⟩
theorem len_allP : (allP n).length = n 0 + (n 1 + (n 2 + (n 3 + n 4))) := by
  unfold allP
  have e : List.range 5 = [0, 1, 2, 3, 4] := by decide
  rw [e]
  simp [List.flatMap_cons, rng]
theorem nodup_map_on {α β : Type} (f : α → β) : ∀ {L : List α}, L.Nodup → (∀ a ∈ L, ∀ b ∈ L, f a = f b → a = b) → (L.map f).Nodup
  | [], _, _ => by simp
  | a :: L, hn, h => by
    have hn' := List.nodup_cons.1 hn
    rw [List.map_cons, List.nodup_cons]
    refine ⟨fun hm => ?_, nodup_map_on f hn'.2 (fun x hx y hy => h x (by simp [hx]) y (by simp [hy]))⟩
    obtain ⟨b, hb, e⟩ := List.mem_map.1 hm
    have := h b (by simp [hb]) a (by simp) e
    exact hn'.1 (this ▸ hb)
/-- there is an identity as long as there is a free cell -/
theorem HInv.free (h : HInv n H) {s : Nat} {c : Int} (hs : s < 5) (hc : c ∈ H.M s 0) : ∃ k, freeR H.T = some k := by
  cases hf : freeR H.T with
  | some k => exact ⟨k, rfl⟩
  | none =>
    exfalso
    have hno := firstIn_no hf
    have hall : ∀ k, 4 ≤ k → k < 1024 → ∃ p, H.T k = some p := fun k a b => by
      have := hno k a b
      exact Option.isSome_iff_exists.1 (by simpa using this)
    have hn : ((List.range' 4 1020).map (fun k => (H.T k).getD (0, 0))).Nodup := by
      refine nodup_map_on _ List.nodup_range' ?_
      intro a ha b hb e
      rw [List.mem_range'_1] at ha hb
      obtain ⟨p, hp⟩ := hall a ha.1 (by omega)
      obtain ⟨q, hq⟩ := hall b hb.1 (by omega)
      rw [hp, hq] at e
      simp only [Option.getD_some] at e
      subst e
      exact h.inv.inj a b p hp hq
    have hg := good_mem (h.good s hs) (i := c)
    have hin : 0 ≤ c ∧ c < n s := hg.1 (by unfold LL; simp [hc])
    have hsub : ∀ x ∈ (List.range' 4 1020).map (fun k => (H.T k).getD (0, 0)), x ∈ (allP n).erase ((s : Int), c) := by
      intro x hx
      obtain ⟨k, hk, rfl⟩ := List.mem_map.1 hx
      rw [List.mem_range'_1] at hk
      obtain ⟨p, hp⟩ := hall k hk.1 (by omega)
      rw [hp]
      simp only [Option.getD_some]
      obtain ⟨s', h1, h2, h3, h4, h5⟩ := h.pl k p hp
      refine (List.mem_erase_of_ne ?_).2 (mem_allP.2 ⟨s', h1, h2, h3, h4⟩)
      intro e
      subst e
      simp only at h2 h5
      have : s' = s := by omega
      subst this
      exact h5 hc
    have hl := nd_sub hn hsub
    have hm : ((s : Int), c) ∈ allP n := mem_allP.2 ⟨s, hs, rfl, hin.1, hin.2⟩
    rw [List.length_erase_of_mem hm, len_allP] at hl
    simp only [List.length_map, List.length_range'] at hl
    have := h.sum
    omega
/-- the rows turn, but no free cell -/
theorem HInv.rows (h : HInv n H) {M' : Nat → Mst} (hg : ∀ s, s < 5 → Good (n s) (M' s)) (h0 : ∀ s, s < 5 → M' s 0 = H.M s 0) : HInv n { H with M := M' } :=
  ⟨hg, h.inv, fun k p hp => by
    obtain ⟨s, h1, h2, h3, h4, h5⟩ := h.pl k p hp
    exact ⟨s, h1, h2, h3, h4, by show p.2 ∉ M' s 0; rw [h0 s h1]; exact h5⟩,
   fun s c hs a b hc => h.full s c hs a b (by rw [← h0 s hs]; exact hc), h.cel, h.few, h.sum⟩
theorem shade_0 (A : Mst) (i : Int) : shadeA A i 0 = A 0 := by unfold shadeA; split <;> simp [upA]
theorem HInv.sh (h : HInv n H) (p : Pl) : HInv n (sh H p) := by
  refine h.rows (fun s hs => ?_) (fun s hs => ?_)
  · unfold upM
    split
    · rename_i e; subst e; exact good_shade (h.good _ hs) _
    · exact h.good s hs
  · unfold upM
    split
    · rename_i e; subst e; exact shade_0 _ _
    · rfl
theorem HInv.shI (h : HInv n H) (i : Int) : HInv n (shI H i) := by
  unfold Wd.shI; split
  · exact h.sh _
  · exact h
theorem HInv.shW (h : HInv n H) (i : Int) : HInv n (shW H i) := by
  unfold Wd.shW; split
  · exact h.shI _
  · exact h
theorem HInv.hold (h : HInv n H) : ∀ l : List Int, HInv n (holdH H l) := by
  intro l
  unfold holdH
  induction l generalizing H with
  | nil => exact h
  | cons x l ih => exact ih (h.shW x)
theorem first2_0 (A : Mst) : firstA A 2 1 0 = A 0 := by
  unfold firstA
  cases hA : A 2 <;> simp [upA]
theorem HInv.scA (h : HInv n H) (s : Nat) : HInv n (scA H s) := by
  refine h.rows (fun j hj => ?_) (fun j hj => ?_)
  · unfold upM
    split
    · rename_i e; subst e; exact good_first (h.good _ hj) 2 (Or.inr rfl)
    · exact h.good j hj
  · unfold upM
    split
    · rename_i e; subst e; exact first2_0 _
    · rfl
theorem HInv.scan1 (h : HInv n H) (s : Nat) : HInv n (scan1 H s) := (h.scA s).hold _
theorem HInv.scanN : ∀ (k : Nat) (w d : Int) {H : Hst}, HInv n H → HInv n (scanN k w d H).2
  | 0, _, _, _, h => h
  | k + 1, w, d, H, h => by
    unfold Wd.scanN
    split
    · split
      · exact HInv.scanN k w _ (h.scan1 _)
      · exact h
    · exact h
theorem HInv.has (h : HInv n H) {i : Int} (hh : hasT H.T i = true) : ∃ k p, i = (k : Nat) ∧ 4 ≤ k ∧ k < 1024 ∧ H.T k = some p ∧ atP H.T i = p := by
  obtain ⟨k, rfl, hk, _, p, hp⟩ := hasT_some hh
  exact ⟨k, p, rfl, (h.inv.bd k p hp).1, hk, hp, (atP_at hp hk).1⟩
theorem HInv.cells (h : HInv n H) {C' : Pl → Int × List Int} (hc : ∀ k p, H.T k = some p → fo (C' p).2.length = p.1 ∧ (0 ≤ (C' p).1 ∧ (C' p).1 ≤ 4095) ∧ ∀ x ∈ (C' p).2, 0 < x ∧ x ≤ 4294967295) : HInv n { H with C := C' } :=
  ⟨h.good, h.inv, h.pl, h.full, hc, h.few, h.sum⟩
theorem HInv.putC (h : HInv n H) (i j x : Int) (hx : 0 < x ∧ x ≤ 4294967295) (hh : hasT H.T i = true) : HInv n (putC H i j x) := by
  obtain ⟨k0, p0, rfl, _, _, hp0, e0⟩ := h.has hh
  refine h.cells (fun k p hp => ?_)
  unfold upC fsI
  rw [e0, if_pos hh]
  split
  · rename_i e
    subst e
    obtain ⟨c1, c2, c3⟩ := h.cel k0 p hp0
    refine ⟨by simpa using c1, c2, fun y hy => ?_⟩
    rcases List.mem_or_eq_of_mem_set hy with hy | rfl
    · exact c3 y hy
    · exact hx
  · exact h.cel k p hp
theorem HInv.put (h : HInv n H) (i j x : Int) (hx : 0 ≤ x ∧ x ≤ 4294967295) : HInv n (putH H i j x) := by
  unfold putH
  split
  · rename_i hb
    unfold putB at hb
    rw [Bool.and_eq_true, decide_eq_true_eq, decide_eq_true_eq] at hb
    have hh : hasT H.T i = true := by
      cases hh : hasT H.T i with
      | true => rfl
      | false =>
        exfalso
        have : fsI H i = [] := by unfold fsI; rw [hh]; simp
        rw [this] at hb
        simp at hb
        omega
    split
    · exact (h.putC i j x (by omega) hh).shW _
    · exact h.putC i j x (by omega) hh
  · exact h
theorem swap_of {T : Tst} {a b : Int} (hb : swapB T a b = true) : ∃ x y p q, a = (x : Nat) ∧ b = (y : Nat) ∧ x < 1024 ∧ y < 1024 ∧ T x = some p ∧ T y = some q ∧ swapT T a b = updT (updT T x (some q)) y (some p) := by
  have hb' := hb
  unfold swapB at hb'
  rw [Bool.and_eq_true] at hb'
  obtain ⟨x, rfl, hx, _, p, hp⟩ := hasT_some hb'.1
  obtain ⟨y, rfl, hy, _, q, hq⟩ := hasT_some hb'.2
  exact ⟨x, y, p, q, rfl, rfl, hx, hy, hp, hq, (swapT_at hp hq hx hy).2⟩
/-- what a swap leaves at an identity -/
theorem swap_val {T : Tst} {x y k : Nat} {p q : Pl} (hp : T x = some p) (hq : T y = some q) : updT (updT T x (some q)) y (some p) k = if k = y then some p else if k = x then some q else T k := by
  unfold updT; rfl
theorem HInv.swT (h : HInv n H) {a b : Int} (hb : swapB H.T a b = true) : HInv n (swT H a b) := by
  obtain ⟨x, y, p, q, rfl, rfl, hx, hy, hp, hq, e⟩ := swap_of hb
  have bx := h.inv.bd x p hp
  have by' := h.inv.bd y q hq
  have hv : ∀ k r, updT (updT H.T x (some q)) y (some p) k = some r → ∃ j, H.T j = some r := by
    intro k r hr
    rw [swap_val hp hq] at hr
    split at hr
    · exact ⟨x, by rw [hp]; exact hr⟩
    · split at hr
      · exact ⟨y, by rw [hq]; exact hr⟩
      · exact ⟨k, hr⟩
  unfold Wd.swT
  rw [e]
  refine ⟨h.good, ⟨fun k r hr => ?_, fun i j r hi hj => ?_⟩, fun k r hr => ?_, fun s c hs a b hc => ?_, fun k r hr => ?_, h.few, h.sum⟩
  · have hr' := hr
    simp only at hr
    rw [swap_val hp hq] at hr
    obtain ⟨j, hj⟩ := hv k r hr'
    refine ⟨?_, ?_, (h.inv.bd j r hj).2.2⟩
    · split at hr
      · omega
      · split at hr
        · omega
        · exact (h.inv.bd k r hr).1
    · split at hr
      · omega
      · split at hr
        · omega
        · exact (h.inv.bd k r hr).2.1
  · simp only at hi hj
    rw [swap_val hp hq] at hi hj
    have inj := h.inv.inj
    by_cases c1 : i = y
    · rw [if_pos c1] at hi
      cases hi
      by_cases d1 : j = y
      · omega
      · rw [if_neg d1] at hj
        by_cases d2 : j = x
        · rw [if_pos d2] at hj
          cases hj
          have := inj x y _ hp hq
          omega
        · rw [if_neg d2] at hj
          have := inj j x _ hj hp
          omega
    · rw [if_neg c1] at hi
      by_cases c2 : i = x
      · rw [if_pos c2] at hi
        cases hi
        by_cases d1 : j = y
        · rw [if_pos d1] at hj
          cases hj
          have := inj x y _ hp hq
          omega
        · rw [if_neg d1] at hj
          by_cases d2 : j = x
          · omega
          · rw [if_neg d2] at hj
            have := inj j y _ hj hq
            omega
      · rw [if_neg c2] at hi
        by_cases d1 : j = y
        · rw [if_pos d1] at hj
          cases hj
          have := inj i x _ hi hp
          omega
        · rw [if_neg d1] at hj
          by_cases d2 : j = x
          · rw [if_pos d2] at hj
            cases hj
            have := inj i y _ hi hq
            omega
          · rw [if_neg d2] at hj
            exact inj i j r hi hj
  · obtain ⟨j, hj⟩ := hv k r hr
    exact h.pl j r hj
  · obtain ⟨k, hk⟩ := h.full s c hs a b hc
    by_cases c1 : k = x
    · subst c1
      refine ⟨y, ?_⟩
      show updT (updT H.T k (some q)) y (some p) y = _
      rw [swap_val hp hq, if_pos rfl, ← hp, hk]
    · by_cases c2 : k = y
      · subst c2
        refine ⟨x, ?_⟩
        show updT (updT H.T x (some q)) k (some p) x = _
        rw [swap_val hp hq, if_neg (fun e => c1 e.symm), if_pos rfl, ← hq, hk]
      · refine ⟨k, ?_⟩
        show updT (updT H.T x (some q)) y (some p) k = _
        rw [swap_val hp hq, if_neg c2, if_neg c1, hk]
  · obtain ⟨j, hj⟩ := hv k r hr
    exact h.cel j r hj
theorem HInv.swap (h : HInv n H) (a b : Int) : HInv n (swapH H a b) := by
  unfold swapH
  split
  · rename_i hb
    split
    · exact ((h.swT hb).shI _).shI _
    · exact h.swT hb
  · exact h
theorem alcB_of {cl f : Int} (hb : alcB H cl f = true) : ∃ s : Nat, s < 5 ∧ fo f = s ∧ 0 ≤ f ∧ f ≤ 62 ∧ 0 ≤ cl ∧ cl ≤ 4095 ∧ ∃ i R, H.M s 0 = i :: R ∧ alcP H f = ((s : Int), i) ∧ alcH H cl f = { T := takeT H.T ((s : Int), i), M := upM H.M s (firstA (H.M s) 0 1), C := upC H.C ((s : Int), i) (cl, List.replicate f.toNat 2) } := by
  have hb' := hb
  unfold alcB at hb'
  rw [Bool.and_eq_true, Bool.and_eq_true, decide_eq_true_eq, decide_eq_true_eq] at hb'
  obtain ⟨⟨c0, c1⟩, f0, h0⟩ := hb'
  have hf := fo_bd f
  have hf2 : 0 ≤ f ∧ f ≤ 62 := by
    rcases fo_cases f with ⟨h, e⟩ | ⟨h1, h2, e⟩ | ⟨h1, h2, e⟩ | ⟨h1, h2, e⟩ | ⟨h1, h2, e⟩ | ⟨h1, h2, e⟩ <;> omega
  obtain ⟨s, hs⟩ : ∃ s : Nat, fo f = s := ⟨(fo f).toNat, by omega⟩
  have hs' : (fo f).toNat = s := by omega
  rw [hs'] at h0
  rcases hM : H.M s 0 with _ | ⟨i, R⟩
  · rw [hM] at h0; simp at h0
  · have ep : alcP H f = ((s : Int), i) := by
      unfold alcP firstR
      rw [hs', hM, hs]
    refine ⟨s, by omega, hs, hf2.1, hf2.2, c0, c1, i, R, hM, ep, ?_⟩
    unfold alcH
    rw [if_pos hb, ep, hs']
theorem HInv.miss (h : HInv n H) {s : Nat} {i : Int} (hs : s < 5) (hi : i ∈ H.M s 0) : ofR H.T ((s : Int), i) = none := by
  cases ho : ofR H.T ((s : Int), i) with
  | none => rfl
  | some k =>
    exfalso
    obtain ⟨h1, h2, h3, _⟩ := firstIn_some ho
    have hk : H.T k = some ((s : Int), i) := by simpa using h3
    obtain ⟨s', a1, a2, a3, a4, a5⟩ := h.pl k _ hk
    simp only at a2 a5
    have : s' = s := by omega
    subst this
    exact a5 hi
/-- what an Alloc that is right answers and leaves -/
theorem HInv.alc_of (h : HInv n H) {cl f : Int} (hb : alcB H cl f = true) : ∃ (s k : Nat) (i : Int) (R : List Int), s < 5 ∧ fo f = s ∧ 0 ≤ f ∧ f ≤ 62 ∧ (0 ≤ cl ∧ cl ≤ 4095) ∧ H.M s 0 = i :: R ∧ 4 ≤ k ∧ k < 1024 ∧ H.T k = none ∧ (0 ≤ i ∧ i < n s) ∧ alcI H cl f = k ∧ alcH H cl f = { T := updT H.T k (some ((s : Int), i)), M := upM H.M s (firstA (H.M s) 0 1), C := upC H.C ((s : Int), i) (cl, List.replicate f.toNat 2) } := by
  obtain ⟨s, hs, ef, f0, f1, c0, c1, i, R, hM, ep, eH⟩ := alcB_of hb
  have hi : i ∈ H.M s 0 := by rw [hM]; simp
  obtain ⟨k, hk⟩ := h.free hs hi
  obtain ⟨k1, k2, k3⟩ := freeR_at hk
  have ho := h.miss hs hi
  refine ⟨s, k, i, R, hs, ef, f0, f1, ⟨c0, c1⟩, hM, k1, k2, k3, (good_mem (h.good s hs)).1 (by unfold LL; simp [hi]), ?_, ?_⟩
  · unfold alcI
    rw [if_pos hb, ep]
    unfold takeI
    rw [ho, hk]; rfl
  · rw [eH]
    unfold takeT
    rw [ho, hk]; rfl
theorem HInv.alc (h : HInv n H) (cl f : Int) : HInv n (alcH H cl f) := by
  cases hb : alcB H cl f with
  | false => unfold alcH; rw [hb]; exact h
  | true =>
    obtain ⟨s, k, i, R, hs, ef, f0, f1, c0, hM, k1, k2, k3, i0, _, e⟩ := h.alc_of hb
    have few := h.few s hs
    rw [e]
    have hnd : i ∉ R := by
      have := good_nd (h.good s hs)
      rw [hM] at this
      exact fun hm => (List.nodup_cons.1 this).1 (by simp [hm])
    have hno : ∀ j, H.T j ≠ some ((s : Int), i) := ofR_none h.inv (h.miss hs (by rw [hM]; simp))
    have hrow : firstA (H.M s) 0 1 0 = R := by unfold firstA; rw [hM]; simp [upA]
    refine ⟨fun j hj => ?_, h.inv.upd k1 k2 ⟨⟨by simp only; omega, by simp only; omega⟩, ⟨by simp only; omega, by simp only; omega⟩⟩ (fun j _ => hno j), fun j p hp => ?_, fun j c hj a b hc => ?_, fun j p hp => ?_, h.few, h.sum⟩
    · show Good (n j) (upM H.M s _ j)
      unfold upM
      split
      · rename_i e; subst e; exact good_first (h.good _ hj) 0 (Or.inl rfl)
      · exact h.good j hj
    · simp only at hp
      unfold updT at hp
      split at hp
      · cases hp
        exact ⟨s, hs, rfl, i0.1, i0.2, by show i ∉ upM H.M s _ s 0; unfold upM; rw [if_pos rfl, hrow]; exact hnd⟩
      · obtain ⟨s', a1, a2, a3, a4, a5⟩ := h.pl j p hp
        refine ⟨s', a1, a2, a3, a4, ?_⟩
        show p.2 ∉ upM H.M s _ s' 0
        unfold upM
        split
        · rename_i e; subst e
          rw [hrow]
          intro hm
          exact a5 (by rw [hM]; simp [hm])
        · exact a5
    · have hc' : c ∉ upM H.M s (firstA (H.M s) 0 1) j 0 := hc
      unfold upM at hc'
      by_cases e : j = s
      · subst e
        rw [if_pos rfl, hrow] at hc'
        by_cases ei : c = i
        · subst ei; exact ⟨k, by show updT H.T k _ k = _; rw [updT_self]⟩
        · obtain ⟨m, hm⟩ := h.full j c hj a b (by rw [hM]; simp [ei, hc'])
          exact ⟨m, by show updT H.T k _ m = _; unfold updT; rw [if_neg (fun e => by subst e; rw [k3] at hm; cases hm)]; exact hm⟩
      · rw [if_neg e] at hc'
        obtain ⟨m, hm⟩ := h.full j c hj a b hc'
        exact ⟨m, by show updT H.T k _ m = _; unfold updT; rw [if_neg (fun e => by subst e; rw [k3] at hm; cases hm)]; exact hm⟩
    · simp only at hp ⊢
      unfold updT at hp
      split at hp
      · cases hp
        unfold upC
        rw [if_pos rfl]
        refine ⟨by simp only [List.length_replicate]; rw [show ((f.toNat : Nat) : Int) = f by omega]; exact ef, c0, fun x hx => ?_⟩
        have := List.eq_of_mem_replicate hx
        omega
      · unfold upC
        rw [if_neg (fun e : p = ((s : Int), i) => hno j (by rw [← e]; exact hp))]
        exact h.cel j p hp
theorem giveP_at {T : Tst} (hI : Inv T) (m : Int) (q : Pl) (id : Nat) : (giveP (T, m) q).1 id = if T id = some q then none else T id := by
  unfold giveP
  cases ho : ofR T q with
  | none =>
    simp only
    rw [if_neg (ofR_none hI ho id)]
  | some k =>
    simp only
    obtain ⟨_, _, h3, _⟩ := firstIn_some ho
    have hk : T k = some q := by simpa using h3
    unfold updT
    by_cases e : id = k
    · subst e; rw [if_pos rfl, if_pos hk]
    · rw [if_neg e, if_neg (fun hi => e (hI.inj id k q hi hk))]
theorem giveP_inv {T : Tst} (hI : Inv T) (m : Int) (q : Pl) : Inv (giveP (T, m) q).1 := by
  unfold giveP
  cases ho : ofR T q with
  | none => exact hI
  | some k => exact hI.del k
theorem fold_give {T : Tst} (hI : Inv T) (m : Int) (L : List Pl) : Inv (L.foldl giveP (T, m)).1 ∧ ∀ id, (L.foldl giveP (T, m)).1 id = if (∃ p ∈ L, T id = some p) then none else T id := by
  induction L generalizing T m with
  | nil => exact ⟨hI, fun id => by simp⟩
  | cons q L ih =>
    obtain ⟨h1, h2⟩ := ih (giveP_inv hI m q) (giveP (T, m) q).2
    refine ⟨h1, fun id => ?_⟩
    rw [List.foldl_cons]
    rw [show giveP (T, m) q = ((giveP (T, m) q).1, (giveP (T, m) q).2) from rfl, h2 id, giveP_at hI]
    by_cases e : T id = some q
    · rw [if_pos e, if_pos (⟨q, by simp, e⟩ : ∃ p ∈ q :: L, T id = some p)]
      split <;> rfl
    · rw [if_neg e]
      by_cases h : ∃ p ∈ L, T id = some p
      · obtain ⟨p, hp, hpe⟩ := h
        rw [if_pos ⟨p, hp, hpe⟩, if_pos ⟨p, by simp [hp], hpe⟩]
      · rw [if_neg h, if_neg]
        rintro ⟨p, hp, hpe⟩
        rcases List.mem_cons.1 hp with rfl | hp
        · exact e hpe
        · exact h ⟨p, hp, hpe⟩
theorem fold_count {T : Tst} (hI : Inv T) (m : Int) {L : List Pl} (hn : L.Nodup) (hh : ∀ p ∈ L, ∃ id, T id = some p) : (L.foldl giveP (T, m)).2 = m + L.length := by
  induction L generalizing T m with
  | nil => simp
  | cons q L ih =>
    have hn' := List.nodup_cons.1 hn
    obtain ⟨k, hk⟩ := hh q (by simp)
    have e2 : (giveP (T, m) q).2 = m + 1 := by unfold giveP; rw [ofR_at hI hk]
    rw [List.foldl_cons, show giveP (T, m) q = ((giveP (T, m) q).1, (giveP (T, m) q).2) from rfl, e2, ih (giveP_inv hI m q) (m + 1) hn'.2 (fun p hp => ?_)]
    · simp only [List.length_cons]; omega
    · obtain ⟨j, hj⟩ := hh p (by simp [hp])
      refine ⟨j, ?_⟩
      rw [giveP_at hI, if_neg]
      · exact hj
      · intro e
        rw [hj] at e
        cases e
        exact hn'.1 hp
theorem done_of (h : doneB H = true) : ∀ s, s < 5 → H.M s 2 = [] := by
  unfold doneB at h
  rw [List.all_eq_true] at h
  intro s hs
  have := h s (List.mem_range.2 hs)
  simpa using this
theorem mem_flipL (h : doneB H = true) {p : Pl} : p ∈ flipL H 5 ↔ ∃ s : Nat, s < 5 ∧ p.1 = s ∧ p.2 ∈ H.M s 3 := by
  unfold flipL flipS flipR
  simp only [List.mem_flatMap, List.mem_map, List.mem_range]
  constructor
  · rintro ⟨s, hs, c, hc, rfl⟩
    rw [if_pos (done_of h s hs)] at hc
    exact ⟨s, hs, rfl, hc⟩
  · rintro ⟨s, hs, h1, h2⟩
    exact ⟨s, hs, p.2, by rw [if_pos (done_of h s hs)]; exact h2, by rw [← h1]⟩
/-- what a Flip that is right leaves at an identity -/
theorem HInv.flp_at (h : HInv n H) (hd : doneB H = true) (id : Nat) : (flpH H).T id = if (∃ s : Nat, s < 5 ∧ ∃ c ∈ H.M s 3, H.T id = some ((s : Int), c)) then none else H.T id := by
  unfold flpH
  rw [if_pos hd]
  show (flpX H).1 id = _
  unfold flpX
  rw [(fold_give h.inv 0 (flipL H 5)).2 id]
  by_cases e : ∃ p ∈ flipL H 5, H.T id = some p
  · rw [if_pos e, if_pos]
    obtain ⟨p, hp, hpe⟩ := e
    obtain ⟨s, a, b, c⟩ := (mem_flipL hd).1 hp
    exact ⟨s, a, p.2, c, by rw [hpe, ← b]⟩
  · rw [if_neg e, if_neg]
    rintro ⟨s, a, c, hc, hpe⟩
    exact e ⟨_, (mem_flipL hd).2 ⟨s, a, rfl, hc⟩, hpe⟩
theorem flpH_M (hd : doneB H = true) {s : Nat} (hs : s < 5) : (flpH H).M s = upA (upA (upA (H.M s) 0 (H.M s 0 ++ H.M s 3)) 3 (H.M s 1)) 1 [] := by
  unfold flpH
  rw [if_pos hd]
  show flpM H 5 s = _
  unfold flpM flipA
  rw [if_pos hs, if_pos (done_of hd s hs)]
theorem flpH_C : (flpH H).C = H.C := by unfold flpH; split <;> rfl
theorem HInv.flp (h : HInv n H) : HInv n (flpH H) := by
  by_cases hd : doneB H = true
  · have hat := h.flp_at hd
    have hsome : ∀ k p, (flpH H).T k = some p → H.T k = some p ∧ ∀ s : Nat, s < 5 → ∀ c ∈ H.M s 3, p ≠ ((s : Int), c) := by
      intro k p hp
      rw [hat k] at hp
      split at hp
      · cases hp
      · rename_i hno
        exact ⟨hp, fun s hs c hc e => hno ⟨s, hs, c, hc, by rw [hp, e]⟩⟩
    refine ⟨fun s hs => ?_, ?_, fun k p hp => ?_, fun s c hs a b hc => ?_, fun k p hp => ?_, h.few, h.sum⟩
    · have := good_flip (h.good s hs)
      unfold flipA at this
      rw [if_pos (done_of hd s hs)] at this
      rw [flpH_M hd hs]
      exact this
    · have : (flpH H).T = (flpX H).1 := by unfold flpH; rw [if_pos hd]
      rw [this]
      exact (fold_give h.inv 0 _).1
    · obtain ⟨h1, h2⟩ := hsome k p hp
      obtain ⟨s, a1, a2, a3, a4, a5⟩ := h.pl k p h1
      refine ⟨s, a1, a2, a3, a4, ?_⟩
      rw [flpH_M hd a1]
      simp only [upA]
      simp
      refine ⟨a5, fun hm => h2 s a1 p.2 hm (by rw [← a2])⟩
    · rw [flpH_M hd hs] at hc
      simp only [upA] at hc
      simp at hc
      obtain ⟨k, hk⟩ := h.full s c hs a b hc.1
      refine ⟨k, ?_⟩
      rw [hat k, if_neg]
      · exact hk
      · rintro ⟨s', hs', c', hc', e⟩
        rw [hk] at e
        have e2 := Option.some.inj e
        have e3 : (s : Int) = s' := congrArg Prod.fst e2
        have e4 : c = c' := congrArg Prod.snd e2
        have : s = s' := by omega
        subst this
        subst e4
        exact hc.2 hc'
    · rw [flpH_C]
      exact h.cel k p (hsome k p hp).1
  · unfold flpH
    rw [if_neg hd]
    exact h
theorem HInv.new (n : Nat → Nat) (h1 : ∀ s, s < 5 → n s ≤ 512) (h2 : n 0 + (n 1 + (n 2 + (n 3 + n 4))) ≤ 1020) : HInv n (newH n) :=
  ⟨fun s hs => good_start _, Inv.no, fun k p hp => (by cases hp), fun s c hs a b hc => by
    exfalso
    apply hc
    show c ∈ startA (n s) 0
    unfold startA upA rng
    rw [if_pos rfl]
    exact List.mem_map.2 ⟨c.toNat, List.mem_range.2 (by omega), by omega⟩, fun k p hp => (by cases hp), h1, h2⟩
end
end Wd
end Go.Proofs.Ytdaojohdmidemaa

/- Rows of words; a map of places to cells, of the call's own. -/
namespace Go.Proofs.Ytdaojohdmidemaa
open Go.RowKit Go.Maps
set_option linter.unusedVariables false
namespace Wd
def wrds (L : List Int) : List Value := L.map (.int .u32)
/-- a row of words -/
def SW (w : World) (v : Value) (L : List Int) : Prop := w.ownsRow 0 29 1 v L.length (wrds L)
theorem infoW : (Try.prog.info? 29).map (fun i => (i.zero, i.size, i.bytes)) = some (some (.int .u32 0), 1, 4) := by kernel_rfl
theorem SW.cases {w : World} {v : Value} {L : List Int} (h : SW w v L) : (v = .slice none 0 0 ∧ L = []) ∨ ∃ g cap, v = .slice (some ⟨g, 0, none⟩) L.length cap ∧ L.length ≤ cap ∧ cap ≤ maxLen ∧ g < w.heap.size ∧ w.ownsRow 0 29 1 (.slice (some ⟨g, 0, none⟩) L.length cap) L.length (wrds L) := by
  rcases h.2 with ⟨rfl, h0⟩ | ⟨g, cap, cur, rfl, _, hh, hle, hm, _⟩
  · exact Or.inl ⟨rfl, List.length_eq_zero_iff.1 h0⟩
  · exact Or.inr ⟨g, cap, rfl, hle, hm, (Array.getElem?_eq_some_iff.1 hh).1, h⟩
theorem SW.keep {w w' : World} {v : Value} {L : List Int} (h : SW w v L) (b : Below w.heap.size w w') : SW w' v L :=
  World.ownsRow.kept h ⟨b.os, b.tape, b.output, b.size, fun k hk _ => b.block k hk⟩ (row := none) (by cases v.ownBlock <;> simp)
theorem SW.same {w w' : World} {v : Value} {L : List Int} (h : SW w v L) (hb : ∀ g, v.ownBlock = some g → w'.heap[g]? = w.heap[g]?) : SW w' v L := by
  obtain ⟨h1, h2⟩ := h
  refine ⟨h1, ?_⟩
  rcases h2 with hh | ⟨g, cap, cur, e1, e2, e3, e4⟩
  · exact Or.inl hh
  · exact Or.inr ⟨g, cap, cur, e1, e2, (hb g (by rw [e1]; rfl)).trans e3, e4⟩
theorem SW.form {w : World} {v : Value} {L : List Int} (h : SW w v L) : ∃ a c, v = .slice a L.length c := by
  rcases h.2 with ⟨rfl, h0⟩ | ⟨g, cap, cur, rfl, _⟩
  · exact ⟨_, _, by rw [h0]⟩
  · exact ⟨_, _, rfl⟩
theorem SW.lt {w : World} {v : Value} {L : List Int} (h : SW w v L) (g : Nat) (hg : v.ownBlock = some g) : g < w.heap.size := by
  rcases h.cases with ⟨rfl, _⟩ | ⟨g', cap, rfl, _, _, hlt, _⟩
  · cases hg
  · cases hg; exact hlt
theorem wrow_cell {w : World} {e : TypeId} {g n cap k : Nat} {L : List Int} {x : Int} (h : w.ownsRow 0 e 1 (.slice (some ⟨g, 0, none⟩) n cap) n (wrds L)) (hx : L[k]? = some x) : w.cell? ⟨g, k, none⟩ = some (.int .u32 x) := by
  have hl : L.length = n := by have := h.1; simpa [wrds] using this
  have hk := (List.getElem?_eq_some_iff.1 hx).1
  rw [h.cellAt k (by omega)]
  simp [wrds, hx]
theorem laidOutP : laidOutB Try.prog = true := by kernel_rfl
theorem cellsI1 : Try.prog.cellsOf 3 = 1 := by kernel_rfl
def keyL (p : Pl) : Lit := .string (keyBytes [.int .i64 p.1, .int .i64 p.2])
/-- what a cell that nobody has written is -/
def zeroC : Value := .agg #[.int .i64 0, .slice none 0 0]
/-- how a cell reads: as itself -/
def RV : Value → Option (DataW Value × List MemPlace) := fun v => some (.held v, [])
def updV (M : Pl → Option Value) (p : Pl) (v : Value) : Pl → Option Value := fun q => if q = p then some v else M q
section
variable {w w1 : World} {b c : Nat} {M : Pl → Option Value}
end
end Wd
end Go.Proofs.Ytdaojohdmidemaa

/- What the functions of chapter 1's own answer return, as far as the memory asks them. -/
namespace Go.Proofs.Ytdaojohdmidemaa
open Go.RowKit
set_option linter.unusedVariables false
namespace Wd
theorem wand1 (a : Int) (h0 : 0 ≤ a) (h1 : a ≤ 4294967295) : bits .and .u32 a 1 = a % 2 := by
  rw [u32_and a 1 h0 (by omega) (by decide) (by decide)]
  rw [show (1 : Int).toNat = 1 from rfl, Nat.and_one_is_mod]
  omega
def idW (x : Int) : Int := if isOp x then x / 2 else 0
def oopW (i : Int) : Int := if 1 ≤ i ∧ i ≤ 2147483647 then 2 * i else 0
theorem oopW_bd (i : Int) : 0 ≤ oopW i ∧ oopW i ≤ 4294967295 := by unfold oopW; split <;> omega
theorem ret_w {a b : Int} (h : a = b) : Ending.returned (Value.int .u32 a) = .returned (.int .u32 b) := by rw [h]
theorem wor1 (a : Int) (h0 : 0 ≤ a) (h1 : a ≤ 4294967295) (h2 : a % 2 = 0) : bits .or .u32 a 1 = a + 1 := by
  rw [u32_or a 1 h0 (by omega) (by decide) (by decide)]
  obtain ⟨k, hk⟩ : ∃ k : Nat, a.toNat = 2 * k := ⟨a.toNat / 2, by omega⟩
  have : a.toNat ||| (1 : Int).toNat = 2 * k + 1 := by
    rw [hk, show (1 : Int).toNat = 1 from rfl]
    have := Nat.two_pow_add_eq_or_of_lt (i := 1) (b := 1) (by decide) k
    simp at this
    omega
  rw [this]; omega
def intW (n : Int) : Int := if -1073741824 ≤ n ∧ n ≤ 1073741823 then (2 * n + 1) % 4294967296 else 0
theorem intW_bd (n : Int) : 0 ≤ intW n ∧ intW n ≤ 4294967295 := by unfold intW; split <;> omega
end Wd
end Go.Proofs.Ytdaojohdmidemaa
