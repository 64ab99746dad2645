/- A map of numbers to numbers, of the call's own; it says what a dict has. -/
import Derived.Test.YtdpckckfkpefnaaJKnown
import Derived.Test.YtdpckckfkpefnaaJInv
import Derived.Maps.Own
import Derived.Maps.OwnOps
import Derived.Maps.OwnSet
import Derived.Maps.RangeWalk
namespace Go.Proofs.Ytdpckckfkpefnaa
open Go.RowKit Go.Maps
set_option linter.unusedVariables false
set_option maxRecDepth 20000
namespace Wd
theorem keyedI : Keyed Try.prog 3 := int_keyed Try.underlying3
theorem infoI : (Try.prog.info? 3).map (fun i => i.zero) = some (some (.int .i64 0)) := by kernel_rfl
theorem zeroI (w : World) : (zeroValue 3).run Try.prog w = .ok (.int .i64 0) w := by
  cases hi : Try.prog.info? 3 with
  | none => have := infoI; rw [hi] at this; cases this
  | some i0 =>
    have hz : i0.zero = some (.int .i64 0) := by have := infoI; rw [hi] at this; simpa using this
    simp [zeroValue, typeInfo, hi, hz]
theorem wfI {x : Int} (h : I64 x) : (Lit.int .i64 x).wf = true := WalkArith.wf_i64 ⟨h.1, h.2⟩
theorem keyI {x : Int} (h : I64 x) : keyOf Try.prog 3 (.int .i64 x) = some (.int .i64 x) := keyOf_int_mk Try.underlying3 (wfI h)
/-- a map of numbers: M x is the number that x has; there are c entries -/
def MapD (D : DataW Nat) (M : Int → Option Int) : Prop := ∀ x, I64 x → has D (.int .i64 x) = (M x).isSome ∧ D.atKey (.int .i64 x) (.lit (.int .i64 0)) = .lit (.int .i64 ((M x).getD 0))
def MapI (w : World) (b c : Nat) (M : Int → Option Int) : Prop := ∃ D : DataW Nat, w.ownsMap Try.prog 3 (plainElem Try.prog 3) b c D ∧ size D = c ∧ MapD D M
def updI (M : Int → Option Int) (x : Int) (v : Option Int) : Int → Option Int := fun q => if q = x then v else M q
section
variable {w w1 : World} {b c : Nat} {M : Int → Option Int}
theorem MapI.made (w : World) : MapI (w.alloc (.map #[] 0)) w.heap.size 0 (fun _ => none) := ⟨.map [], World.ownsMap_made _ _ _ _, rfl, fun p _ => ⟨rfl, rfl⟩⟩
theorem MapI.lt (h : MapI w b c M) : b < w.heap.size := by
  obtain ⟨D, hown, _⟩ := h
  exact hown.lt
theorem MapI.same (h : MapI w b c M) (hb : w1.heap[b]? = w.heap[b]?) : MapI w1 b c M := by
  obtain ⟨D, ⟨es, clock, h1, h2⟩, hD⟩ := h
  exact ⟨D, ⟨es, clock, hb.trans h1, h2⟩, hD⟩
/-- 'v, in := m[x]' -/
theorem MapI.look_ok (h : MapI w b c M) {x : Int} (hx : I64 x) : (Instr.lookup 36 (.map (some b)) (.int .i64 x) true).run Try.prog w = .ok (.tuple #[.int .i64 ((M x).getD 0), .bool (M x).isSome]) w := by
  obtain ⟨D, hown, _, hD⟩ := h
  obtain ⟨v, ps, hrun, hv⟩ := hown.look_ok keyedI Try.underlying36 (zeroI w) (plainElem_int Try.underlying3 (by decide)) (keyI hx)
  rw [(hD x hx).1] at hrun
  rw [(hD x hx).2] at hv
  obtain ⟨y, rfl, hc, _⟩ := plainElem_int_inv Try.underlying3 hv
  simp only [Prod.mk.injEq] at hc
  have : y = (M x).getD 0 := by
    have := hc.1
    injection this with h1
    injection h1 with _ h2
    exact h2.symm
  rw [hrun, this]
/-- 'len(m)' -/
theorem MapI.len (h : MapI w b c M) (ty : TypeId) : (Builtin.len_ #[36] ty #[.map (some b)]).run Try.prog w = .ok (.int .i64 c) w := by
  obtain ⟨D, hown, hsz, _⟩ := h
  rw [← hsz]
  exact hown.len Try.underlying36 ty
theorem own_size {D : DataW Nat} {n : Nat} (h : w.ownsMap Try.prog 3 (plainElem Try.prog 3) b n D) : w.ownsMap Try.prog 3 (plainElem Try.prog 3) b (size D) D := by
  obtain ⟨es, clock, hb, F, hs, rfl⟩ := h
  exact ⟨es, clock, hb, F, by simp [size, length_sorted], rfl⟩
/-- 'm[x] = v' -/
theorem MapI.put (h : MapI w b c M) (hc : c < maxLen) {x : Int} (hx : I64 x) {v : Int} (hv : I64 v) : ∃ w', (Instr.mapUpdate 36 (.map (some b)) (.int .i64 x) (.int .i64 v)).run Try.prog w = .ok () w' ∧ MapI w' b (if (M x).isSome then c else c + 1) (updI M x (some v)) ∧ w.grownBy w' (some b) ∧ w'.heap.size = w.heap.size := by
  obtain ⟨D, hown, hsz, hD⟩ := h
  have hk := keyI hx
  obtain ⟨w', hrun, h1, h2⟩ := hown.update keyedI Try.underlying36 hc hk (plainElem_int Try.underlying3 (wfI hv))
  obtain ⟨w2, hrun2, _, es, clock, es', clock', hb0, hw2⟩ := hown.store keyedI Try.underlying36 hc hk (plainElem_int Try.underlying3 (wfI hv))
  have ew : w' = w2 := by
    rw [hrun] at hrun2
    injection hrun2
  have hsize : w'.heap.size = w.heap.size := by rw [ew, hw2]; simp [ChangeMaps.setBlock]
  have es2 : size (D.put (.int .i64 x) (.lit (.int .i64 v))) = if (M x).isSome then c else c + 1 := by rw [size_put (hown.tidy keyedI), (hD x hx).1, hsz]
  have h3 := own_size h1
  rw [es2] at h3
  refine ⟨w', hrun, ⟨_, h3, es2, fun q hq => ?_⟩, h2, hsize⟩
  · by_cases e : q = x
    · subst e
      rw [has_put_same hown.isMap (keyedI.key hk), atKey_put_same hown.isMap (keyedI.key hk)]
      simp [updI]
    · have hne : (Lit.int .i64 q) ≠ .int .i64 x := fun h => e (by injection h)
      rw [has_put_other hne, atKey_put_other hne, (hD q hq).1, (hD q hq).2]
      simp [updI, e]
end
/-- what a dict has, as a map says it -/
def mapD (D : Dst) : Int → Option Int := fun x => if 0 ≤ x then valD D x else none
theorem mapD_start : mapD D0 = fun _ => none := by
  funext x
  unfold mapD
  split
  · rename_i h; exact val_start h
  · rfl
theorem mapD_put {D : Dst} (hD : InvD D) {s m : Int} (hs : 0 ≤ s) {p : Nat} (h : putP D s = some p) : mapD (D.set p (s, m)) = updI (mapD D) s (some m) := by
  obtain ⟨_, h1, h2, _⟩ := put_in hD (m := m) hs h
  funext x
  unfold mapD updI
  by_cases e : x = s
  · subst e; rw [if_pos hs, if_pos rfl]; exact h1
  · rw [if_neg e]
    by_cases h0 : 0 ≤ x
    · simp only [if_pos h0]; exact h2 x h0 e
    · simp only [if_neg h0]
variable {DA : DAt} {w0 wr w1 wA : World} {p m c : Nat} {D D' : Dst} {F F' : Nat → Prop}
/-- a dict of the call's own, a map that says what it has -/
structure BdS (DA : DAt) (w0 wr : World) (p m c : Nat) (D : Dst) (F : Nat → Prop) : Prop where
  pd : PD DA w0 wr p D F
  mp : MapI wr m c (mapD D)
  inv : InvD D
  cn : cnt D = c
  nf : ¬ F m
  fm : w0.heap.size ≤ m
/-- .. the dict has been told, the map hasn't -/
structure BdM (DA : DAt) (w0 wr : World) (p m c : Nat) (D D' : Dst) (F : Nat → Prop) : Prop where
  pd : PD DA w0 wr p D' F
  mp : MapI wr m c (mapD D)
  nf : ¬ F m
  fm : w0.heap.size ≤ m
theorem BdS.start {wm : World} (K : DicK DA) (h : PD DA w0 wr p D0 F) (hm : wm = wr.alloc (.map #[] 0)) : BdS DA w0 wm p wr.heap.size 0 D0 F := by
  subst hm
  refine ⟨h.keep K ((Below.refl _ _).alloc (Nat.le_refl _) _), by rw [mapD_start]; exact MapI.made wr, inv_start, by decide, fun hF => ?_, h.bel.size⟩
  have := K.lt h.da _ hF
  omega
theorem BdS.keep (K : DicK DA) (h : BdS DA w0 wr p m c D F) (g : Below wr.heap.size wr wA) : BdS DA w0 wA p m c D F :=
  ⟨h.pd.keep K g, h.mp.same (g.block m h.mp.lt), h.inv, h.cn, h.nf, h.fm⟩
theorem BdS.mid (h : BdS DA w0 wr p m c D F) (hm : PD DA w0 w1 p D' F') (ch : Ch F wr w1) (hn : Newer F F' wr.heap.size) : BdM DA w0 w1 p m c D D' F' :=
  ⟨hm, h.mp.same (ch.block m h.mp.lt h.nf), fun hF => by rcases hn m hF with e | e; exact h.nf e; have := h.mp.lt; omega, h.fm⟩
theorem BdS.le (h : BdS DA w0 wr p m c D F) : c ≤ 16 := by have := cnt_le D; rw [h.inv.len, h.cn] at this; exact this
/-- not put: the map doesn't say it either -/
theorem BdS.off (h : BdS DA w0 wr p m c D F) {s i : Int} (hs : 0 ≤ s) (hb : putB D s = false) (hM : BdM DA w0 w1 p m c D (putD D s i) F') : BdS DA w0 w1 p m c D F' ∧ mapD D s = none := by
  have hp : putP D s = none := by unfold putB at hb; cases e : putP D s with | none => rfl | some q => rw [e] at hb; cases hb
  have e : putD D s i = D := by unfold putD; rw [hp]
  refine ⟨⟨by rw [← e]; exact hM.pd, hM.mp, h.inv, h.cn, hM.nf, hM.fm⟩, ?_⟩
  unfold mapD
  rw [if_pos hs]
  exact put_out hs hp
/-- put: the map is told too -/
theorem BdM.told (K : DicK DA) (h : BdS DA w0 wr p m c D F) {s i : Int} (hs : 0 ≤ s) (hb : putB D s = true) (hM : BdM DA w0 w1 p m c D (putD D s i) F') {w2 : World} (hm : MapI w2 m (if (mapD D s).isSome then c else c + 1) (updI (mapD D) s (some i))) (hg : w1.grownBy w2 (some m)) :
    ∃ c', BdS DA w0 w2 p m c' (putD D s i) F' := by
  obtain ⟨q, hp⟩ : ∃ q, putP D s = some q := by unfold putB at hb; cases e : putP D s with | none => rw [e] at hb; cases hb | some q => exact ⟨q, rfl⟩
  have e : putD D s i = D.set q (s, i) := by unfold putD; rw [hp]
  obtain ⟨h1, _, _, h4⟩ := put_in h.inv (m := i) hs hp
  refine ⟨if (mapD D s).isSome then c else c + 1, ⟨K.keep hM.pd.da (fun k hk => hg.block k (K.lt hM.pd.da k hk) (fun e => hM.nf (by cases e; exact hk))), hM.pd.bel.grown hg hM.pd.bel.size (fun k hk => by cases hk; exact hM.fm), hM.pd.fF⟩, ?_, by rw [e]; exact h1, ?_, hM.nf, hM.fm⟩
  · rw [e, mapD_put h.inv hs hp]; exact hm
  · rw [e, cnt_set (by rw [h.inv.len]; exact putP_lt hp) hs, h.cn]
    have em : mapD D s = valD D s := by unfold mapD; rw [if_pos hs]
    rw [em]
    cases hv : valD D s with
    | none => rw [if_pos (h4.1 hv)]; rfl
    | some x => rw [if_neg (fun hh => by have := h4.2 hh; rw [hv] at this; cases this)]; rfl
/-- what came out of the range -/
theorem mapD_at {d : DataW Nat} (h : MapD d (mapD D)) {x v : Int} (hx : I64 x) (hat : ∀ zd, d.atKey (.int .i64 x) zd = .lit (.int .i64 v)) : ∃ n, findD D x = (v, n) ∧ 1 ≤ n ∧ n ≤ 4 := by
  obtain ⟨h1, h2⟩ := h x hx
  rw [has_true_of_atKey hat] at h1
  rw [hat] at h2
  cases hm : mapD D x with
  | none => rw [hm] at h1; cases h1
  | some y =>
    rw [hm] at h2
    have hy : v = y := by injection h2 with h2; injection h2
    subst hy
    unfold mapD at hm
    split at hm
    · rename_i h0; exact find_has h0 hm
    · cases hm
end Wd
end Go.Proofs.Ytdpckckfkpefnaa
