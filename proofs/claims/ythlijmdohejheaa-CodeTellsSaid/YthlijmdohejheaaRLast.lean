/- A region that draws, whose last operation waits for all others: the others in whatever order, and then it. No program is named here. -/
import Derived.OrdersHeld
import Derived.Deep.RegionHeld
import Derived.RegionTactic
namespace Go.Proofs.Ythlijmdohejheaa
namespace Wd
section
variable {P : Program} {ops : Array Oper} {Q : Exit → Act → World → Prop} {md : Region.Mode} {S : World → Prop} {d : Nat}
/-- what is asked behind the others: number d, and then Q; where one of them leaves by another way, Q -/
def LastQ (P : Program) (ops : Array Oper) (Q : Exit → Act → World → Prop) (d : Nat) : Exit → Act → World → Prop
  | .normal, a, w => wpOp P ops Q d (Q .normal) a w
  | e, a, w => Q e a w
theorem upon_last {o : Oper} {a : Act} {K : Act → World → Prop} {r : Result Next} (h : o.upon P a K (LastQ P ops Q d) r) : o.upon P a K Q r := by
  cases r with
  | ok n w' =>
    cases n
    case enter f args => exact Calls.mono h fun e w'' he => by cases e <;> exact he
    all_goals exact h
  | halt x w' => cases x <;> exact h
theorem wpOp_last {i : Nat} {K : Act → World → Prop} {a : Act} {w : World} (h : wpOp P ops (LastQ P ops Q d) i K a w) : wpOp P ops Q i K a w := by
  cases ho : ops[i]? with
  | none => simpa [wpOp, ho] using h
  | some o =>
    simp only [wpOp, ho] at h ⊢
    split <;> rename_i hw
    · rw [if_pos hw] at h
      exact h.imp upon_last (fun h => ⟨h.1, h.2⟩)
    · rwa [if_neg hw] at h
/-- nobody waits for one that stands behind it -/
def onward (md : Region.Mode) (ops : Array Oper) : Bool :=
  (List.range ops.size).all fun i => ((ops[i]?).map fun o => o.after.all fun e => !Region.binds md e || decide (e.on < i)).getD false
/-- does number k wait for number i -/
def waitsFor (md : Region.Mode) (ops : Array Oper) (k i : Nat) : Bool := ((ops[k]?).map fun o => o.after.any fun e => Region.binds md e && e.on == i).getD false
/-- does number k wait for number i, or for one that waits for it, and so on -/
def waitsDeep (md : Region.Mode) (ops : Array Oper) : Nat → Nat → Nat → Bool
  | 0, k, i => waitsFor md ops k i
  | f + 1, k, i => waitsDeep md ops f k i || (List.range ops.size).any fun j => waitsFor md ops k j && waitsDeep md ops f j i
/-- number d waits for each other one -/
def waitsAll (md : Region.Mode) (ops : Array Oper) (d : Nat) : Bool := (List.range ops.size).all fun i => i == d || waitsDeep md ops 2 d i
theorem waitsFor_ready {k i : Nat} {listed : Array Bool} (hk : k ∈ Region.ready md ops listed) (h : waitsFor md ops k i = true) : listed.getD i false = true := by
  obtain ⟨_, o, ho, hall⟩ := mem_ready.1 hk
  simp only [waitsFor, ho, Option.map_some, Option.getD_some, Array.any_eq_true', Bool.and_eq_true, beq_iff_eq] at h
  obtain ⟨e, he, hb, rfl⟩ := h
  exact hall e he hb
/-- whoever has come up, those that it waits for have -/
def Whole (md : Region.Mode) (ops : Array Oper) (listed : Array Bool) : Prop := ∀ k i, waitsFor md ops k i = true → listed.getD k false = true → listed.getD i false = true
theorem Whole.deep {listed : Array Bool} (h : Whole md ops listed) : ∀ (f k i : Nat), waitsDeep md ops f k i = true → listed.getD k false = true → listed.getD i false = true
  | 0, k, i, hw, hk => h k i hw hk
  | f + 1, k, i, hw, hk => by
    simp only [waitsDeep, Bool.or_eq_true, List.any_eq_true, Bool.and_eq_true] at hw
    rcases hw with hw | ⟨j, _, h1, h2⟩
    · exact h.deep f k i hw hk
    · exact h.deep f j i h2 (h k j h1 hk)
theorem Whole.deep_ready {k : Nat} {listed : Array Bool} (h : Whole md ops listed) (hk : k ∈ Region.ready md ops listed) : ∀ (f i : Nat), waitsDeep md ops f k i = true → listed.getD i false = true
  | 0, i, hw => waitsFor_ready hk hw
  | f + 1, i, hw => by
    simp only [waitsDeep, Bool.or_eq_true, List.any_eq_true, Bool.and_eq_true] at hw
    rcases hw with hw | ⟨j, _, h1, h2⟩
    · exact h.deep_ready hk f i hw
    · exact h.deep f j i h2 (waitsFor_ready hk h1)
theorem Whole.step {k : Nat} {listed : Array Bool} (h : Whole md ops listed) (hk : k ∈ Region.ready md ops listed) : Whole md ops (listed.setIfInBounds k true) := by
  intro m i hw hm
  by_cases c : m = k
  · subst c; exact getD_set_true (waitsFor_ready hk hw)
  · rw [getD_set_ne false (Ne.symm c)] at hm
    exact getD_set_true (h m i hw hm)
theorem getD_both {l : Array Bool} {i : Nat} (hi : i < l.size) : l.getD i true = l.getD i false := by simp [hi]
/-- as long as one is left, one may come up -/
theorem none_left (hf : onward md ops = true) {listed : Array Bool} (hs : listed.size = ops.size) (hr : Region.ready md ops listed = []) : ∀ (m i : Nat), i < m → i < ops.size → listed.getD i false = true := by
  intro m
  induction m with
  | zero => intro i h; omega
  | succ m ih =>
    intro i _ hi
    cases hb : listed.getD i false with
    | true => rfl
    | false =>
      exfalso
      have ho : ops[i]? = some ops[i] := by simp [hi]
      have hin : i ∈ Region.ready md ops listed := by
        refine mem_ready.2 ⟨by rw [getD_both (by omega)]; exact hb, ops[i], ho, fun e he hbd => ?_⟩
        have h1 := List.all_eq_true.1 hf i (List.mem_range.2 hi)
        rw [ho] at h1
        have h2 := Array.all_eq_true_iff_forall_mem.1 h1 e he
        simp only [hbd, Bool.not_true, Bool.false_or, decide_eq_true_eq] at h2
        exact ih e.on (by omega) (by omega)
      rw [hr] at hin
      cases hin
/-- THE LAW: the others in whatever order, and then number d: that is all of them in whatever order -/
theorem wpAny_last (hf : onward md ops = true) (hw : waitsAll md ops d = true) (hd : d < ops.size) : ∀ (fuel : Nat) (listed : Array Bool) (a : Act) (w : World), listed.size = ops.size → Whole md ops listed → listed.getD d true = false →
    wpAny P md ops (LastQ P ops Q d) fuel (listed.setIfInBounds d true) a w → wpAny P md ops Q (fuel + 1) listed a w := by
  intro fuel
  induction fuel with
  | zero =>
    intro listed a w hs hcl hdl H
    refine ⟨fun h0 => ?_, fun i hi => ?_⟩
    · have := none_left hf hs h0 (d + 1) d (by omega) hd
      rw [← getD_both (by omega), hdl] at this
      cases this
    · by_cases c : i = d
      · subst c
        exact wpOp_mono (fun a' w' h => ⟨H.1, h⟩) H.2
      · have := ready_mono hi c
        rw [H.1] at this
        cases this
  | succ fuel ih =>
    intro listed a w hs hcl hdl H
    refine ⟨fun h0 => ?_, fun i hi => ?_⟩
    · have := none_left hf hs h0 (d + 1) d (by omega) hd
      rw [← getD_both (by omega), hdl] at this
      cases this
    · by_cases c : i = d
      · subst c
        have hE : Region.ready md ops (listed.setIfInBounds i true) = [] := by
          refine List.eq_nil_iff_forall_not_mem.2 (fun j hj => ?_)
          obtain ⟨hj0, oj, hoj, _⟩ := mem_ready.1 hj
          have hjs : j < ops.size := (Array.getElem?_eq_some_iff.1 hoj).1
          by_cases cj : j = i
          · subst cj
            simp [hs, hd] at hj0
          · rw [getD_set_ne true (Ne.symm cj)] at hj0
            have h1 := List.all_eq_true.1 hw j (List.mem_range.2 hjs)
            simp only [Bool.or_eq_true, beq_iff_eq, cj, false_or] at h1
            have h2 : listed.getD j false = true := hcl.deep_ready hi 2 j h1
            rw [← getD_both (by omega), hj0] at h2
            cases h2
        exact wpOp_mono (fun a' w' h => wpAny_done hE h _) (H.1 hE)
      · refine wpOp_mono (fun a' w' h => ih (listed.setIfInBounds i true) a' w' (by simpa using hs) (hcl.step hi) (by rw [getD_set_ne true c]; exact hdl) ?_) (wpOp_last (H.2 i (ready_mono hi c)))
        rw [Array.setIfInBounds_comm _ _ c]
        exact h
/-- the beginning: the others, in whatever order, while S holds -/
theorem wp_region_last {id fuel : Nat} {a : Act} {w : World} (hm : P.follows .mixedOrders = true) (hc : (onward .any ops && waitsAll .any ops d && decide (d < ops.size)) = true) (hfu : fuel + 1 = ops.size) (hS : S w.drew)
    (h : S w.drew → wpAnyH P .any ops (LastQ P ops Q d) S fuel ((Array.replicate ops.size false).setIfInBounds d true) a w.drew) : (Code.region id ops true).wp P Q a w := by
  simp only [Bool.and_eq_true, decide_eq_true_eq] at hc
  refine wp_region_any hm ?_
  rw [← hfu]
  have := wpAny_last (P := P) (Q := Q) hc.1.1 hc.1.2 hc.2 fuel (Array.replicate ops.size false) a w.drew (by simp) (fun k i _ h => by simp [Array.getElem?_replicate] at h; split at h <;> simp at h) (by simp [hc.2]) (wpAny_of_held _ _ _ _ (h hS))
  rw [← hfu] at this
  exact this
/-- the end: number d alone is left -/
theorem last_step {o : Oper} {fuel : Nat} {listed : Array Bool} {a : Act} {w : World} (ho : ops[d]? = some o) (hr : Region.ready md ops listed = [])
    (h : ∀ K' : Act → World → Prop, Shut (∀ a w, Q .normal a w → K' a w) → if Region.wanted o (yielded ops a.tmps) = true then Oper.wp P o a w K' Q else K' (a.put o.dst undef) w) : wpAnyH P md ops (LastQ P ops Q d) S fuel listed a w :=
  wpAnyH_done hr (wpOp_step ho (fun K' hK => h K' hK)) fuel
end
end Wd
end Go.Proofs.Ythlijmdohejheaa
