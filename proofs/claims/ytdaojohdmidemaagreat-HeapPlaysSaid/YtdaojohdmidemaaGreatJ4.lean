/- Texts joined: EPure, EMap, ELeaf, ERef, ERead, EShade, EOps. -/
import Derived.Test.YtdaojohdmidemaaGreatJ3
import Derived.Maps.Own
import Derived.Maps.OwnOps
import Derived.Maps.OwnSet
import Derived.DeepKeys4
import Derived.LoopN
import Derived.Laws.BitsAllLaws
import Derived.StillTailTactics
import Derived.Deep.RegionHeld3
import Derived.BigRegion
/- The memory of chapter 9, plainly: what each call answers and what it leaves; what holds at any time. No program is named here. -/
namespace Go.Proofs.YtdaojohdmidemaaGreat
open Go.RowKit
set_option linter.unusedVariables false
namespace Wd
/-- a memory: the identities' places, the rows of each size's cells, what lies in each cell: a class, fields -/
structure Hst where
  T : Tst
  M : Nat → Mst
  C : Pl → Int × List Int
def upM (M : Nat → Mst) (s : Nat) (A : Mst) : Nat → Mst := fun j => if j = s then A else M j
def upC (C : Pl → Int × List Int) (p : Pl) (x : Int × List Int) : Pl → Int × List Int := fun q => if q = p then x else C q
/-- the row of a place's size -/
def szP (p : Pl) : Nat := p.1.toNat
def sh (H : Hst) (p : Pl) : Hst := { H with M := upM H.M (szP p) (shadeA (H.M (szP p)) p.2) }
def shI (H : Hst) (i : Int) : Hst := if hasT H.T i then sh H (atP H.T i) else H
def isOp (x : Int) : Bool := decide (x % 2 = 0) && decide (x ≠ 0)
def shW (H : Hst) (x : Int) : Hst := if isOp x then shI H (x / 2) else H
def holdH (H : Hst) (l : List Int) : Hst := l.foldl shW H
def colP (H : Hst) (p : Pl) : Int := colorR (H.M (szP p)) p.2
def colI (H : Hst) (i : Int) : Int := if hasT H.T i then colP H (atP H.T i) else -1
def clsI (H : Hst) (i : Int) : Int := if hasT H.T i then (H.C (atP H.T i)).1 else -1
def fldI (H : Hst) (i : Int) : Int := if hasT H.T i then ((H.C (atP H.T i)).2.length : Int) else -1
def fsI (H : Hst) (i : Int) : List Int := if hasT H.T i then (H.C (atP H.T i)).2 else []
def getB (H : Hst) (i j : Int) : Bool := decide (0 ≤ j ∧ j < (fsI H i).length)
def getV (H : Hst) (i j : Int) : Int := if 0 ≤ j ∧ j < (fsI H i).length then (fsI H i).getD j.toNat 0 else 0
def putB (H : Hst) (i j x : Int) : Bool := decide (0 ≤ j ∧ j < (fsI H i).length) && decide (x ≠ 0)
def putC (H : Hst) (i j x : Int) : Hst := { H with C := upC H.C (atP H.T i) ((H.C (atP H.T i)).1, (fsI H i).set j.toNat x) }
def putH (H : Hst) (i j x : Int) : Hst := if putB H i j x then (if colI H i = 1 then shW (putC H i j x) x else putC H i j x) else H
def swT (H : Hst) (a b : Int) : Hst := { H with T := swapT H.T a b }
def swN (H : Hst) (a b : Int) : Bool := decide (colI H a = 3) != decide (colI H b = 3)
def swapH (H : Hst) (a b : Int) : Hst := if swapB H.T a b then (if swN H a b then shI (shI (swT H a b) a) b else swT H a b) else H
def doneB (H : Hst) : Bool := (List.range 5).all (fun s => (H.M s 2).isEmpty)
def gry (H : Hst) : Option Nat := (List.range 5).find? (fun s => !(H.M s 2).isEmpty)
def scA (H : Hst) (s : Nat) : Hst := { H with M := upM H.M s (firstA (H.M s) 2 1) }
def scan1 (H : Hst) (s : Nat) : Hst := holdH (scA H s) (H.C ((s : Int), firstR (H.M s) 2)).2
def scanN : Nat → Int → Int → Hst → Int × Hst
  | 0, _, d, H => (d, H)
  | k + 1, w, d, H => if d < w then (match gry H with | some s => scanN k w (d + wd s) (scan1 H s) | none => (d, H)) else (d, H)
def clampW (w : Int) : Int := max (min w 1048576) 0
def scanR (H : Hst) (w : Int) : Int × Hst := scanN 262145 (clampW w) 0 H
def giveP (x : Tst × Int) (p : Pl) : Tst × Int := match ofR x.1 p with | some k => (updT x.1 k none, x.2 + 1) | none => x
def flipS (H : Hst) (s : Nat) : List Pl := (flipR (H.M s)).map (fun c => ((s : Int), c))
def flipL (H : Hst) (k : Nat) : List Pl := (List.range k).flatMap (flipS H)
def flpX (H : Hst) : Tst × Int := (flipL H 5).foldl giveP (H.T, 0)
def flpM (H : Hst) (k : Nat) : Nat → Mst := fun s => if s < k then flipA (H.M s) else H.M s
def flpI (H : Hst) : Int := if doneB H then (flpX H).2 else -1
def flpH (H : Hst) : Hst := if doneB H then { H with T := (flpX H).1, M := flpM H 5 } else H
def alcP (H : Hst) (f : Int) : Pl := (fo f, firstR (H.M (fo f).toNat) 0)
def alcB (H : Hst) (cl f : Int) : Bool := decide (0 ≤ cl ∧ cl ≤ 4095) && (decide (0 ≤ fo f) && !(H.M (fo f).toNat 0).isEmpty)
def alcI (H : Hst) (cl f : Int) : Int := if alcB H cl f then takeI H.T (alcP H f) else -1
def alcH (H : Hst) (cl f : Int) : Hst := if alcB H cl f then { T := takeT H.T (alcP H f), M := upM H.M (fo f).toNat (firstA (H.M (fo f).toNat) 0 1), C := upC H.C (alcP H f) (cl, List.replicate f.toNat 2) } else H
def newH (n : Nat → Nat) : Hst := ⟨noT, fun s => startA (n s), fun _ => (0, [])⟩
/-- at any time: n: the cells of each size -/
structure HInv (n : Nat → Nat) (H : Hst) : Prop where
  good : ∀ s, s < 5 → Good (n s) (H.M s)
  inv : Inv H.T
  pl : ∀ k p, H.T k = some p → ∃ s : Nat, s < 5 ∧ p.1 = s ∧ 0 ≤ p.2 ∧ p.2 < n s ∧ p.2 ∉ H.M s 0
  full : ∀ (s : Nat) (c : Int), s < 5 → 0 ≤ c → c < n s → c ∉ H.M s 0 → ∃ k, H.T k = some ((s : Int), c)
  cel : ∀ k p, H.T k = some p → fo (H.C p).2.length = p.1 ∧ (0 ≤ (H.C p).1 ∧ (H.C p).1 ≤ 4095) ∧ ∀ x ∈ (H.C p).2, 0 < x ∧ x ≤ 4294967295
  few : ∀ s, s < 5 → n s ≤ 512
  sum : n 0 + (n 1 + (n 2 + (n 3 + n 4))) ≤ 1020
section
variable {n : Nat → Nat} {H : Hst}
theorem nd_sub {α : Type} [DecidableEq α] : ∀ {L K : List α}, L.Nodup → (∀ x ∈ L, x ∈ K) → L.length ≤ K.length
  | [], K, _, _ => Nat.zero_le _
  | a :: L, K, hn, h => by
    have ha := h a (by simp)
    have hn' := List.nodup_cons.1 hn
    have := nd_sub (L := L) (K := K.erase a) hn'.2 (fun x hx => by
      have hne : x ≠ a := fun e => hn'.1 (e ▸ hx)
      exact (List.mem_erase_of_ne hne).2 (h x (by simp [hx])))
    rw [List.length_erase_of_mem ha] at this
    have h1 : 0 < K.length := List.length_pos_of_mem ha
    simp only [List.length_cons]
    omega
/-- all places of a memory -/
def allP (n : Nat → Nat) : List Pl := (List.range 5).flatMap (fun s => (rng (n s)).map (fun c => ((s : Int), c)))
theorem mem_allP {p : Pl} : p ∈ allP n ↔ ∃ s : Nat, s < 5 ∧ p.1 = s ∧ 0 ≤ p.2 ∧ p.2 < n s := by
  unfold allP rng
  simp only [List.mem_flatMap, List.mem_map, List.mem_range]
  constructor
  · rintro ⟨s, hs, c, ⟨k, hk, rfl⟩, rfl⟩; exact ⟨s, hs, rfl, by simp, by simpa using hk⟩
  · rintro ⟨s, hs, h1, h2, h3⟩; exact ⟨s, hs, p.2, ⟨p.2.toNat, by omega, by omega⟩, by rw [← h1]⟩
theorem len_allP : (allP n).length = n 0 + (n 1 + (n 2 + (n 3 + n 4))) := by
  unfold allP
  have e : List.range 5 = [0, 1, 2, 3, 4] := by decide
  rw [e]
  simp [List.flatMap_cons, rng]
theorem nodup_map_on {α β : Type} (f : α → β) : ∀ {L : List α}, L.Nodup → (∀ a ∈ L, ∀ b ∈ L, f a = f b → a = b) → (L.map f).Nodup
  | [], _, _ => by simp
  | a :: L, hn, h => by
    have hn' := List.nodup_cons.1 hn
    rw [List.map_cons, List.nodup_cons]
    refine ⟨fun hm => ?_, nodup_map_on f hn'.2 (fun x hx y hy => h x (by simp [hx]) y (by simp [hy]))⟩
    obtain ⟨b, hb, e⟩ := List.mem_map.1 hm
    have := h b (by simp [hb]) a (by simp) e
    exact hn'.1 (this ▸ hb)
/-- there is an identity as long as there is a free cell -/
theorem HInv.free (h : HInv n H) {s : Nat} {c : Int} (hs : s < 5) (hc : c ∈ H.M s 0) : ∃ k, freeR H.T = some k := by
  cases hf : freeR H.T with
  | some k => exact ⟨k, rfl⟩
  | none =>
    exfalso
    have hno := firstIn_no hf
    have hall : ∀ k, 4 ≤ k → k < 1024 → ∃ p, H.T k = some p := fun k a b => by
      have := hno k a b
      exact Option.isSome_iff_exists.1 (by simpa using this)
    have hn : ((List.range' 4 1020).map (fun k => (H.T k).getD (0, 0))).Nodup := by
      refine nodup_map_on _ List.nodup_range' ?_
      intro a ha b hb e
      rw [List.mem_range'_1] at ha hb
      obtain ⟨p, hp⟩ := hall a ha.1 (by omega)
      obtain ⟨q, hq⟩ := hall b hb.1 (by omega)
      rw [hp, hq] at e
      simp only [Option.getD_some] at e
      subst e
      exact h.inv.inj a b p hp hq
    have hg := good_mem (h.good s hs) (i := c)
    have hin : 0 ≤ c ∧ c < n s := hg.1 (by unfold LL; simp [hc])
    have hsub : ∀ x ∈ (List.range' 4 1020).map (fun k => (H.T k).getD (0, 0)), x ∈ (allP n).erase ((s : Int), c) := by
      intro x hx
      obtain ⟨k, hk, rfl⟩ := List.mem_map.1 hx
      rw [List.mem_range'_1] at hk
      obtain ⟨p, hp⟩ := hall k hk.1 (by omega)
      rw [hp]
      simp only [Option.getD_some]
      obtain ⟨s', h1, h2, h3, h4, h5⟩ := h.pl k p hp
      refine (List.mem_erase_of_ne ?_).2 (mem_allP.2 ⟨s', h1, h2, h3, h4⟩)
      intro e
      subst e
      simp only at h2 h5
      have : s' = s := by omega
      subst this
      exact h5 hc
    have hl := nd_sub hn hsub
    have hm : ((s : Int), c) ∈ allP n := mem_allP.2 ⟨s, hs, rfl, hin.1, hin.2⟩
    rw [List.length_erase_of_mem hm, len_allP] at hl
    simp only [List.length_map, List.length_range'] at hl
    have := h.sum
    omega
/-- the rows turn, but no free cell -/
theorem HInv.rows (h : HInv n H) {M' : Nat → Mst} (hg : ∀ s, s < 5 → Good (n s) (M' s)) (h0 : ∀ s, s < 5 → M' s 0 = H.M s 0) : HInv n { H with M := M' } :=
  ⟨hg, h.inv, fun k p hp => by
    obtain ⟨s, h1, h2, h3, h4, h5⟩ := h.pl k p hp
    exact ⟨s, h1, h2, h3, h4, by show p.2 ∉ M' s 0; rw [h0 s h1]; exact h5⟩,
   fun s c hs a b hc => h.full s c hs a b (by rw [← h0 s hs]; exact hc), h.cel, h.few, h.sum⟩
theorem shade_0 (A : Mst) (i : Int) : shadeA A i 0 = A 0 := by unfold shadeA; split <;> simp [upA]
theorem HInv.sh (h : HInv n H) (p : Pl) : HInv n (sh H p) := by
  refine h.rows (fun s hs => ?_) (fun s hs => ?_)
  · unfold upM
    split
    · rename_i e; subst e; exact good_shade (h.good _ hs) _
    · exact h.good s hs
  · unfold upM
    split
    · rename_i e; subst e; exact shade_0 _ _
    · rfl
theorem HInv.shI (h : HInv n H) (i : Int) : HInv n (shI H i) := by
  unfold Wd.shI; split
  · exact h.sh _
  · exact h
theorem HInv.shW (h : HInv n H) (i : Int) : HInv n (shW H i) := by
  unfold Wd.shW; split
  · exact h.shI _
  · exact h
theorem HInv.hold (h : HInv n H) : ∀ l : List Int, HInv n (holdH H l) := by
  intro l
  unfold holdH
  induction l generalizing H with
  | nil => exact h
  | cons x l ih => exact ih (h.shW x)
theorem first2_0 (A : Mst) : firstA A 2 1 0 = A 0 := by
  unfold firstA
  cases hA : A 2 <;> simp [upA]
theorem HInv.scA (h : HInv n H) (s : Nat) : HInv n (scA H s) := by
  refine h.rows (fun j hj => ?_) (fun j hj => ?_)
  · unfold upM
    split
    · rename_i e; subst e; exact good_first (h.good _ hj) 2 (Or.inr rfl)
    · exact h.good j hj
  · unfold upM
    split
    · rename_i e; subst e; exact first2_0 _
    · rfl
theorem HInv.scan1 (h : HInv n H) (s : Nat) : HInv n (scan1 H s) := (h.scA s).hold _
theorem HInv.scanN : ∀ (k : Nat) (w d : Int) {H : Hst}, HInv n H → HInv n (scanN k w d H).2
  | 0, _, _, _, h => h
  | k + 1, w, d, H, h => by
    unfold Wd.scanN
    split
    · split
      · exact HInv.scanN k w _ (h.scan1 _)
      · exact h
    · exact h
theorem HInv.has (h : HInv n H) {i : Int} (hh : hasT H.T i = true) : ∃ k p, i = (k : Nat) ∧ 4 ≤ k ∧ k < 1024 ∧ H.T k = some p ∧ atP H.T i = p := by
  obtain ⟨k, rfl, hk, _, p, hp⟩ := hasT_some hh
  exact ⟨k, p, rfl, (h.inv.bd k p hp).1, hk, hp, (atP_at hp hk).1⟩
theorem HInv.cells (h : HInv n H) {C' : Pl → Int × List Int} (hc : ∀ k p, H.T k = some p → fo (C' p).2.length = p.1 ∧ (0 ≤ (C' p).1 ∧ (C' p).1 ≤ 4095) ∧ ∀ x ∈ (C' p).2, 0 < x ∧ x ≤ 4294967295) : HInv n { H with C := C' } :=
  ⟨h.good, h.inv, h.pl, h.full, hc, h.few, h.sum⟩
theorem HInv.putC (h : HInv n H) (i j x : Int) (hx : 0 < x ∧ x ≤ 4294967295) (hh : hasT H.T i = true) : HInv n (putC H i j x) := by
  obtain ⟨k0, p0, rfl, _, _, hp0, e0⟩ := h.has hh
  refine h.cells (fun k p hp => ?_)
  unfold upC fsI
  rw [e0, if_pos hh]
  split
  · rename_i e
    subst e
    obtain ⟨c1, c2, c3⟩ := h.cel k0 p hp0
    refine ⟨by simpa using c1, c2, fun y hy => ?_⟩
    rcases List.mem_or_eq_of_mem_set hy with hy | rfl
    · exact c3 y hy
    · exact hx
  · exact h.cel k p hp
theorem HInv.put (h : HInv n H) (i j x : Int) (hx : 0 ≤ x ∧ x ≤ 4294967295) : HInv n (putH H i j x) := by
  unfold putH
  split
  · rename_i hb
    unfold putB at hb
    rw [Bool.and_eq_true, decide_eq_true_eq, decide_eq_true_eq] at hb
    have hh : hasT H.T i = true := by
      cases hh : hasT H.T i with
      | true => rfl
      | false =>
        exfalso
        have : fsI H i = [] := by unfold fsI; rw [hh]; simp
        rw [this] at hb
        simp at hb
        omega
    split
    · exact (h.putC i j x (by omega) hh).shW _
    · exact h.putC i j x (by omega) hh
  · exact h
theorem swap_of {T : Tst} {a b : Int} (hb : swapB T a b = true) : ∃ x y p q, a = (x : Nat) ∧ b = (y : Nat) ∧ x < 1024 ∧ y < 1024 ∧ T x = some p ∧ T y = some q ∧ swapT T a b = updT (updT T x (some q)) y (some p) := by
  have hb' := hb
  unfold swapB at hb'
  rw [Bool.and_eq_true] at hb'
  obtain ⟨x, rfl, hx, _, p, hp⟩ := hasT_some hb'.1
  obtain ⟨y, rfl, hy, _, q, hq⟩ := hasT_some hb'.2
  exact ⟨x, y, p, q, rfl, rfl, hx, hy, hp, hq, (swapT_at hp hq hx hy).2⟩
/-- what a swap leaves at an identity -/
theorem swap_val {T : Tst} {x y k : Nat} {p q : Pl} (hp : T x = some p) (hq : T y = some q) : updT (updT T x (some q)) y (some p) k = if k = y then some p else if k = x then some q else T k := by
  unfold updT; rfl
theorem HInv.swT (h : HInv n H) {a b : Int} (hb : swapB H.T a b = true) : HInv n (swT H a b) := by
  obtain ⟨x, y, p, q, rfl, rfl, hx, hy, hp, hq, e⟩ := swap_of hb
  have bx := h.inv.bd x p hp
  have by' := h.inv.bd y q hq
  have hv : ∀ k r, updT (updT H.T x (some q)) y (some p) k = some r → ∃ j, H.T j = some r := by
    intro k r hr
    rw [swap_val hp hq] at hr
    split at hr
    · exact ⟨x, by rw [hp]; exact hr⟩
    · split at hr
      · exact ⟨y, by rw [hq]; exact hr⟩
      · exact ⟨k, hr⟩
  unfold Wd.swT
  rw [e]
  refine ⟨h.good, ⟨fun k r hr => ?_, fun i j r hi hj => ?_⟩, fun k r hr => ?_, fun s c hs a b hc => ?_, fun k r hr => ?_, h.few, h.sum⟩
  · have hr' := hr
    simp only at hr
    rw [swap_val hp hq] at hr
    obtain ⟨j, hj⟩ := hv k r hr'
    refine ⟨?_, ?_, (h.inv.bd j r hj).2.2⟩
    · split at hr
      · omega
      · split at hr
        · omega
        · exact (h.inv.bd k r hr).1
    · split at hr
      · omega
      · split at hr
        · omega
        · exact (h.inv.bd k r hr).2.1
  · simp only at hi hj
    rw [swap_val hp hq] at hi hj
    have inj := h.inv.inj
    by_cases c1 : i = y
    · rw [if_pos c1] at hi
      cases hi
      by_cases d1 : j = y
      · omega
      · rw [if_neg d1] at hj
        by_cases d2 : j = x
        · rw [if_pos d2] at hj
          cases hj
          have := inj x y _ hp hq
          omega
        · rw [if_neg d2] at hj
          have := inj j x _ hj hp
          omega
    · rw [if_neg c1] at hi
      by_cases c2 : i = x
      · rw [if_pos c2] at hi
        cases hi
        by_cases d1 : j = y
        · rw [if_pos d1] at hj
          cases hj
          have := inj x y _ hp hq
          omega
        · rw [if_neg d1] at hj
          by_cases d2 : j = x
          · omega
          · rw [if_neg d2] at hj
            have := inj j y _ hj hq
            omega
      · rw [if_neg c2] at hi
        by_cases d1 : j = y
        · rw [if_pos d1] at hj
          cases hj
          have := inj i x _ hi hp
          omega
        · rw [if_neg d1] at hj
          by_cases d2 : j = x
          · rw [if_pos d2] at hj
            cases hj
            have := inj i y _ hi hq
            omega
          · rw [if_neg d2] at hj
            exact inj i j r hi hj
  · obtain ⟨j, hj⟩ := hv k r hr
    exact h.pl j r hj
  · obtain ⟨k, hk⟩ := h.full s c hs a b hc
    by_cases c1 : k = x
    · subst c1
      refine ⟨y, ?_⟩
      show updT (updT H.T k (some q)) y (some p) y = _
      rw [swap_val hp hq, if_pos rfl, ← hp, hk]
    · by_cases c2 : k = y
      · subst c2
        refine ⟨x, ?_⟩
        show updT (updT H.T x (some q)) k (some p) x = _
        rw [swap_val hp hq, if_neg (fun e => c1 e.symm), if_pos rfl, ← hq, hk]
      · refine ⟨k, ?_⟩
        show updT (updT H.T x (some q)) y (some p) k = _
        rw [swap_val hp hq, if_neg c2, if_neg c1, hk]
  · obtain ⟨j, hj⟩ := hv k r hr
    exact h.cel j r hj
theorem HInv.swap (h : HInv n H) (a b : Int) : HInv n (swapH H a b) := by
  unfold swapH
  split
  · rename_i hb
    split
    · exact ((h.swT hb).shI _).shI _
    · exact h.swT hb
  · exact h
theorem alcB_of {cl f : Int} (hb : alcB H cl f = true) : ∃ s : Nat, s < 5 ∧ fo f = s ∧ 0 ≤ f ∧ f ≤ 62 ∧ 0 ≤ cl ∧ cl ≤ 4095 ∧ ∃ i R, H.M s 0 = i :: R ∧ alcP H f = ((s : Int), i) ∧ alcH H cl f = { T := takeT H.T ((s : Int), i), M := upM H.M s (firstA (H.M s) 0 1), C := upC H.C ((s : Int), i) (cl, List.replicate f.toNat 2) } := by
  have hb' := hb
  unfold alcB at hb'
  rw [Bool.and_eq_true, Bool.and_eq_true, decide_eq_true_eq, decide_eq_true_eq] at hb'
  obtain ⟨⟨c0, c1⟩, f0, h0⟩ := hb'
  have hf := fo_bd f
  have hf2 : 0 ≤ f ∧ f ≤ 62 := by
    rcases fo_cases f with ⟨h, e⟩ | ⟨h1, h2, e⟩ | ⟨h1, h2, e⟩ | ⟨h1, h2, e⟩ | ⟨h1, h2, e⟩ | ⟨h1, h2, e⟩ <;> omega
  obtain ⟨s, hs⟩ : ∃ s : Nat, fo f = s := ⟨(fo f).toNat, by omega⟩
  have hs' : (fo f).toNat = s := by omega
  rw [hs'] at h0
  rcases hM : H.M s 0 with _ | ⟨i, R⟩
  · rw [hM] at h0; simp at h0
  · have ep : alcP H f = ((s : Int), i) := by
      unfold alcP firstR
      rw [hs', hM, hs]
    refine ⟨s, by omega, hs, hf2.1, hf2.2, c0, c1, i, R, hM, ep, ?_⟩
    unfold alcH
    rw [if_pos hb, ep, hs']
theorem HInv.miss (h : HInv n H) {s : Nat} {i : Int} (hs : s < 5) (hi : i ∈ H.M s 0) : ofR H.T ((s : Int), i) = none := by
  cases ho : ofR H.T ((s : Int), i) with
  | none => rfl
  | some k =>
    exfalso
    obtain ⟨h1, h2, h3, _⟩ := firstIn_some ho
    have hk : H.T k = some ((s : Int), i) := by simpa using h3
    obtain ⟨s', a1, a2, a3, a4, a5⟩ := h.pl k _ hk
    simp only at a2 a5
    have : s' = s := by omega
    subst this
    exact a5 hi
/-- what an Alloc that is right answers and leaves -/
theorem HInv.alc_of (h : HInv n H) {cl f : Int} (hb : alcB H cl f = true) : ∃ (s k : Nat) (i : Int) (R : List Int), s < 5 ∧ fo f = s ∧ 0 ≤ f ∧ f ≤ 62 ∧ (0 ≤ cl ∧ cl ≤ 4095) ∧ H.M s 0 = i :: R ∧ 4 ≤ k ∧ k < 1024 ∧ H.T k = none ∧ (0 ≤ i ∧ i < n s) ∧ alcI H cl f = k ∧ alcH H cl f = { T := updT H.T k (some ((s : Int), i)), M := upM H.M s (firstA (H.M s) 0 1), C := upC H.C ((s : Int), i) (cl, List.replicate f.toNat 2) } := by
  obtain ⟨s, hs, ef, f0, f1, c0, c1, i, R, hM, ep, eH⟩ := alcB_of hb
  have hi : i ∈ H.M s 0 := by rw [hM]; simp
  obtain ⟨k, hk⟩ := h.free hs hi
  obtain ⟨k1, k2, k3⟩ := freeR_at hk
  have ho := h.miss hs hi
  refine ⟨s, k, i, R, hs, ef, f0, f1, ⟨c0, c1⟩, hM, k1, k2, k3, (good_mem (h.good s hs)).1 (by unfold LL; simp [hi]), ?_, ?_⟩
  · unfold alcI
    rw [if_pos hb, ep]
    unfold takeI
    rw [ho, hk]; rfl
  · rw [eH]
    unfold takeT
    rw [ho, hk]; rfl
theorem HInv.alc (h : HInv n H) (cl f : Int) : HInv n (alcH H cl f) := by
  cases hb : alcB H cl f with
  | false => unfold alcH; rw [hb]; exact h
  | true =>
    obtain ⟨s, k, i, R, hs, ef, f0, f1, c0, hM, k1, k2, k3, i0, _, e⟩ := h.alc_of hb
    have few := h.few s hs
    rw [e]
    have hnd : i ∉ R := by
      have := good_nd (h.good s hs)
      rw [hM] at this
      exact fun hm => (List.nodup_cons.1 this).1 (by simp [hm])
    have hno : ∀ j, H.T j ≠ some ((s : Int), i) := ofR_none h.inv (h.miss hs (by rw [hM]; simp))
    have hrow : firstA (H.M s) 0 1 0 = R := by unfold firstA; rw [hM]; simp [upA]
    refine ⟨fun j hj => ?_, h.inv.upd k1 k2 ⟨⟨by simp only; omega, by simp only; omega⟩, ⟨by simp only; omega, by simp only; omega⟩⟩ (fun j _ => hno j), fun j p hp => ?_, fun j c hj a b hc => ?_, fun j p hp => ?_, h.few, h.sum⟩
    · show Good (n j) (upM H.M s _ j)
      unfold upM
      split
      · rename_i e; subst e; exact good_first (h.good _ hj) 0 (Or.inl rfl)
      · exact h.good j hj
    · simp only at hp
      unfold updT at hp
      split at hp
      · cases hp
        exact ⟨s, hs, rfl, i0.1, i0.2, by show i ∉ upM H.M s _ s 0; unfold upM; rw [if_pos rfl, hrow]; exact hnd⟩
      · obtain ⟨s', a1, a2, a3, a4, a5⟩ := h.pl j p hp
        refine ⟨s', a1, a2, a3, a4, ?_⟩
        show p.2 ∉ upM H.M s _ s' 0
        unfold upM
        split
        · rename_i e; subst e
          rw [hrow]
          intro hm
          exact a5 (by rw [hM]; simp [hm])
        · exact a5
    · have hc' : c ∉ upM H.M s (firstA (H.M s) 0 1) j 0 := hc
      unfold upM at hc'
      by_cases e : j = s
      · subst e
        rw [if_pos rfl, hrow] at hc'
        by_cases ei : c = i
        · subst ei; exact ⟨k, by show updT H.T k _ k = _; rw [updT_self]⟩
        · obtain ⟨m, hm⟩ := h.full j c hj a b (by rw [hM]; simp [ei, hc'])
          exact ⟨m, by show updT H.T k _ m = _; unfold updT; rw [if_neg (fun e => by subst e; rw [k3] at hm; cases hm)]; exact hm⟩
      · rw [if_neg e] at hc'
        obtain ⟨m, hm⟩ := h.full j c hj a b hc'
        exact ⟨m, by show updT H.T k _ m = _; unfold updT; rw [if_neg (fun e => by subst e; rw [k3] at hm; cases hm)]; exact hm⟩
    · simp only at hp ⊢
      unfold updT at hp
      split at hp
      · cases hp
        unfold upC
        rw [if_pos rfl]
        refine ⟨by simp only [List.length_replicate]; rw [show ((f.toNat : Nat) : Int) = f by omega]; exact ef, c0, fun x hx => ?_⟩
        have := List.eq_of_mem_replicate hx
        omega
      · unfold upC
        rw [if_neg (fun e : p = ((s : Int), i) => hno j (by rw [← e]; exact hp))]
        exact h.cel j p hp
theorem giveP_at {T : Tst} (hI : Inv T) (m : Int) (q : Pl) (id : Nat) : (giveP (T, m) q).1 id = if T id = some q then none else T id := by
  unfold giveP
  cases ho : ofR T q with
  | none =>
    simp only
    rw [if_neg (ofR_none hI ho id)]
  | some k =>
    simp only
    obtain ⟨_, _, h3, _⟩ := firstIn_some ho
    have hk : T k = some q := by simpa using h3
    unfold updT
    by_cases e : id = k
    · subst e; rw [if_pos rfl, if_pos hk]
    · rw [if_neg e, if_neg (fun hi => e (hI.inj id k q hi hk))]
theorem giveP_inv {T : Tst} (hI : Inv T) (m : Int) (q : Pl) : Inv (giveP (T, m) q).1 := by
  unfold giveP
  cases ho : ofR T q with
  | none => exact hI
  | some k => exact hI.del k
theorem fold_give {T : Tst} (hI : Inv T) (m : Int) (L : List Pl) : Inv (L.foldl giveP (T, m)).1 ∧ ∀ id, (L.foldl giveP (T, m)).1 id = if (∃ p ∈ L, T id = some p) then none else T id := by
  induction L generalizing T m with
  | nil => exact ⟨hI, fun id => by simp⟩
  | cons q L ih =>
    obtain ⟨h1, h2⟩ := ih (giveP_inv hI m q) (giveP (T, m) q).2
    refine ⟨h1, fun id => ?_⟩
    rw [List.foldl_cons]
    rw [show giveP (T, m) q = ((giveP (T, m) q).1, (giveP (T, m) q).2) from rfl, h2 id, giveP_at hI]
    by_cases e : T id = some q
    · rw [if_pos e, if_pos (⟨q, by simp, e⟩ : ∃ p ∈ q :: L, T id = some p)]
      split <;> rfl
    · rw [if_neg e]
      by_cases h : ∃ p ∈ L, T id = some p
      · obtain ⟨p, hp, hpe⟩ := h
        rw [if_pos ⟨p, hp, hpe⟩, if_pos ⟨p, by simp [hp], hpe⟩]
      · rw [if_neg h, if_neg]
        rintro ⟨p, hp, hpe⟩
        rcases List.mem_cons.1 hp with rfl | hp
        · exact e hpe
        · exact h ⟨p, hp, hpe⟩
theorem fold_count {T : Tst} (hI : Inv T) (m : Int) {L : List Pl} (hn : L.Nodup) (hh : ∀ p ∈ L, ∃ id, T id = some p) : (L.foldl giveP (T, m)).2 = m + L.length := by
  induction L generalizing T m with
  | nil => simp
  | cons q L ih =>
    have hn' := List.nodup_cons.1 hn
    obtain ⟨k, hk⟩ := hh q (by simp)
    have e2 : (giveP (T, m) q).2 = m + 1 := by unfold giveP; rw [ofR_at hI hk]
    rw [List.foldl_cons, show giveP (T, m) q = ((giveP (T, m) q).1, (giveP (T, m) q).2) from rfl, e2, ih (giveP_inv hI m q) (m + 1) hn'.2 (fun p hp => ?_)]
    · simp only [List.length_cons]; omega
    · obtain ⟨j, hj⟩ := hh p (by simp [hp])
      refine ⟨j, ?_⟩
      rw [giveP_at hI, if_neg]
      · exact hj
      · intro e
        rw [hj] at e
        cases e
        exact hn'.1 hp
theorem done_of (h : doneB H = true) : ∀ s, s < 5 → H.M s 2 = [] := by
  unfold doneB at h
  rw [List.all_eq_true] at h
  intro s hs
  have := h s (List.mem_range.2 hs)
  simpa using this
theorem mem_flipL (h : doneB H = true) {p : Pl} : p ∈ flipL H 5 ↔ ∃ s : Nat, s < 5 ∧ p.1 = s ∧ p.2 ∈ H.M s 3 := by
  unfold flipL flipS flipR
  simp only [List.mem_flatMap, List.mem_map, List.mem_range]
  constructor
  · rintro ⟨s, hs, c, hc, rfl⟩
    rw [if_pos (done_of h s hs)] at hc
    exact ⟨s, hs, rfl, hc⟩
  · rintro ⟨s, hs, h1, h2⟩
    exact ⟨s, hs, p.2, by rw [if_pos (done_of h s hs)]; exact h2, by rw [← h1]⟩
/-- what a Flip that is right leaves at an identity -/
theorem HInv.flp_at (h : HInv n H) (hd : doneB H = true) (id : Nat) : (flpH H).T id = if (∃ s : Nat, s < 5 ∧ ∃ c ∈ H.M s 3, H.T id = some ((s : Int), c)) then none else H.T id := by
  unfold flpH
  rw [if_pos hd]
  show (flpX H).1 id = _
  unfold flpX
  rw [(fold_give h.inv 0 (flipL H 5)).2 id]
  by_cases e : ∃ p ∈ flipL H 5, H.T id = some p
  · rw [if_pos e, if_pos]
    obtain ⟨p, hp, hpe⟩ := e
    obtain ⟨s, a, b, c⟩ := (mem_flipL hd).1 hp
    exact ⟨s, a, p.2, c, by rw [hpe, ← b]⟩
  · rw [if_neg e, if_neg]
    rintro ⟨s, a, c, hc, hpe⟩
    exact e ⟨_, (mem_flipL hd).2 ⟨s, a, rfl, hc⟩, hpe⟩
theorem flpH_M (hd : doneB H = true) {s : Nat} (hs : s < 5) : (flpH H).M s = upA (upA (upA (H.M s) 0 (H.M s 0 ++ H.M s 3)) 3 (H.M s 1)) 1 [] := by
  unfold flpH
  rw [if_pos hd]
  show flpM H 5 s = _
  unfold flpM flipA
  rw [if_pos hs, if_pos (done_of hd s hs)]
theorem flpH_C : (flpH H).C = H.C := by unfold flpH; split <;> rfl
theorem HInv.flp (h : HInv n H) : HInv n (flpH H) := by
  by_cases hd : doneB H = true
  · have hat := h.flp_at hd
    have hsome : ∀ k p, (flpH H).T k = some p → H.T k = some p ∧ ∀ s : Nat, s < 5 → ∀ c ∈ H.M s 3, p ≠ ((s : Int), c) := by
      intro k p hp
      rw [hat k] at hp
      split at hp
      · cases hp
      · rename_i hno
        exact ⟨hp, fun s hs c hc e => hno ⟨s, hs, c, hc, by rw [hp, e]⟩⟩
    refine ⟨fun s hs => ?_, ?_, fun k p hp => ?_, fun s c hs a b hc => ?_, fun k p hp => ?_, h.few, h.sum⟩
    · have := good_flip (h.good s hs)
      unfold flipA at this
      rw [if_pos (done_of hd s hs)] at this
      rw [flpH_M hd hs]
      exact this
    · have : (flpH H).T = (flpX H).1 := by unfold flpH; rw [if_pos hd]
      rw [this]
      exact (fold_give h.inv 0 _).1
    · obtain ⟨h1, h2⟩ := hsome k p hp
      obtain ⟨s, a1, a2, a3, a4, a5⟩ := h.pl k p h1
      refine ⟨s, a1, a2, a3, a4, ?_⟩
      rw [flpH_M hd a1]
      simp only [upA]
      simp
      refine ⟨a5, fun hm => h2 s a1 p.2 hm (by rw [← a2])⟩
    · rw [flpH_M hd hs] at hc
      simp only [upA] at hc
      simp at hc
      obtain ⟨k, hk⟩ := h.full s c hs a b hc.1
      refine ⟨k, ?_⟩
      rw [hat k, if_neg]
      · exact hk
      · rintro ⟨s', hs', c', hc', e⟩
        rw [hk] at e
        have e2 := Option.some.inj e
        have e3 : (s : Int) = s' := congrArg Prod.fst e2
        have e4 : c = c' := congrArg Prod.snd e2
        have : s = s' := by omega
        subst this
        subst e4
        exact hc.2 hc'
    · rw [flpH_C]
      exact h.cel k p (hsome k p hp).1
  · unfold flpH
    rw [if_neg hd]
    exact h
theorem HInv.new (n : Nat → Nat) (h1 : ∀ s, s < 5 → n s ≤ 512) (h2 : n 0 + (n 1 + (n 2 + (n 3 + n 4))) ≤ 1020) : HInv n (newH n) :=
  ⟨fun s hs => good_start _, Inv.no, fun k p hp => (by cases hp), fun s c hs a b hc => by
    exfalso
    apply hc
    show c ∈ startA (n s) 0
    unfold startA upA rng
    rw [if_pos rfl]
    exact List.mem_map.2 ⟨c.toNat, List.mem_range.2 (by omega), by omega⟩, fun k p hp => (by cases hp), h1, h2⟩
end
end Wd
end Go.Proofs.YtdaojohdmidemaaGreat

/- Rows of words; a map of places to cells, of the call's own. -/
namespace Go.Proofs.YtdaojohdmidemaaGreat
open Go.RowKit Go.Maps
set_option linter.unusedVariables false
set_option maxRecDepth 100000
namespace Wd
def wrds (L : List Int) : List Value := L.map (.int .u32)
/-- a row of words -/
def SW (w : World) (v : Value) (L : List Int) : Prop := w.ownsRow 0 37 1 v L.length (wrds L)
theorem infoW : (Tryz.prog.info? 37).map (fun i => (i.zero, i.size, i.bytes)) = some (some (.int .u32 0), 1, 4) := by kernel_rfl
theorem SW.cases {w : World} {v : Value} {L : List Int} (h : SW w v L) : (v = .slice none 0 0 ∧ L = []) ∨ ∃ g cap, v = .slice (some ⟨g, 0, none⟩) L.length cap ∧ L.length ≤ cap ∧ cap ≤ maxLen ∧ g < w.heap.size ∧ w.ownsRow 0 37 1 (.slice (some ⟨g, 0, none⟩) L.length cap) L.length (wrds L) := by
  rcases h.2 with ⟨rfl, h0⟩ | ⟨g, cap, cur, rfl, _, hh, hle, hm, _⟩
  · exact Or.inl ⟨rfl, List.length_eq_zero_iff.1 h0⟩
  · exact Or.inr ⟨g, cap, rfl, hle, hm, (Array.getElem?_eq_some_iff.1 hh).1, h⟩
theorem SW.keep {w w' : World} {v : Value} {L : List Int} (h : SW w v L) (b : Below w.heap.size w w') : SW w' v L :=
  World.ownsRow.kept h ⟨b.os, b.tape, b.output, b.size, fun k hk _ => b.block k hk⟩ (row := none) (by cases v.ownBlock <;> simp)
theorem SW.same {w w' : World} {v : Value} {L : List Int} (h : SW w v L) (hb : ∀ g, v.ownBlock = some g → w'.heap[g]? = w.heap[g]?) : SW w' v L := by
  obtain ⟨h1, h2⟩ := h
  refine ⟨h1, ?_⟩
  rcases h2 with hh | ⟨g, cap, cur, e1, e2, e3, e4⟩
  · exact Or.inl hh
  · exact Or.inr ⟨g, cap, cur, e1, e2, (hb g (by rw [e1]; rfl)).trans e3, e4⟩
theorem SW.form {w : World} {v : Value} {L : List Int} (h : SW w v L) : ∃ a c, v = .slice a L.length c := by
  rcases h.2 with ⟨rfl, h0⟩ | ⟨g, cap, cur, rfl, _⟩
  · exact ⟨_, _, by rw [h0]⟩
  · exact ⟨_, _, rfl⟩
theorem SW.lt {w : World} {v : Value} {L : List Int} (h : SW w v L) (g : Nat) (hg : v.ownBlock = some g) : g < w.heap.size := by
  rcases h.cases with ⟨rfl, _⟩ | ⟨g', cap, rfl, _, _, hlt, _⟩
  · cases hg
  · cases hg; exact hlt
theorem wrow_cell {w : World} {e : TypeId} {g n cap k : Nat} {L : List Int} {x : Int} (h : w.ownsRow 0 e 1 (.slice (some ⟨g, 0, none⟩) n cap) n (wrds L)) (hx : L[k]? = some x) : w.cell? ⟨g, k, none⟩ = some (.int .u32 x) := by
  have hl : L.length = n := by have := h.1; simpa [wrds] using this
  have hk := (List.getElem?_eq_some_iff.1 hx).1
  rw [h.cellAt k (by omega)]
  simp [wrds, hx]
theorem laidOutP : laidOutB Tryz.prog = true := by kernel_rfl
theorem rowPl : (71 : TypeId) < Tryz.prog.types.size := of_decide_eq_true (by kernel_rfl)
theorem widePl : (match Tryz.prog.underlying 71 with | some (.array _ _) | some (.struct _) => true | _ => false) = true := by rw [Tryz.underlying71]
theorem lawPl : WideMaps.KeyLaw Tryz.prog 71 := deep_law_laid laidOutP (m := 2) (by omega) rowPl (by kernel_rfl) widePl
theorem keyedPl : Keyed Tryz.prog 71 := Keyed.of_law lawPl
theorem cellsPl : Tryz.prog.cellsOf 71 = 2 := by kernel_rfl
theorem cellsI1 : Tryz.prog.cellsOf 3 = 1 := by kernel_rfl
theorem keyTypePl : Tryz.prog.keyType 71 = true := by kernel_rfl
def keyL (p : Pl) : Lit := .string (keyBytes [.int .i64 p.1, .int .i64 p.2])
theorem key_pl {p : Pl} (hp : plOk p) : keyOf Tryz.prog 71 (plV p) = some (keyL p) := by
  obtain ⟨a, c⟩ := p
  have wa : (Lit.int .i64 a).wf = true := WalkArith.wf_i64 ⟨hp.1.1, hp.1.2⟩
  have wc : (Lit.int .i64 c).wf = true := WalkArith.wf_i64 ⟨hp.2.1, hp.2.2⟩
  obtain ⟨m, hm⟩ : ∃ m, Tryz.prog.types.size = m + 1 := ⟨Tryz.prog.types.size - 1, by have h : 0 < Tryz.prog.types.size := Nat.lt_of_le_of_lt (Nat.zero_le _) rowPl; omega⟩
  unfold keyOf
  rw [Tryz.underlying71]
  simp only
  rw [if_pos (by simp [keyTypePl, plV, Value.formed, Tryz.underlying71, cellsPl]), hm]
  unfold Program.keyLits
  rw [Tryz.underlying71]
  simp [plV, Value.cells, cellsPl, cellsI1, Program.keyLits, Tryz.underlying3, wa, wc, keyL]
theorem keyL_inj {p q : Pl} (hp : plOk p) (hq : plOk q) (h : keyL p = keyL q) : p = q := by
  have h1 := key_pl hp
  have h2 := key_pl hq
  rw [h] at h1
  have := keyedPl.inj h1 h2
  obtain ⟨a, c⟩ := p
  obtain ⟨b, d⟩ := q
  unfold plV at this
  simp only [Value.agg.injEq, Array.mk.injEq, List.cons.injEq, Value.int.injEq, true_and, and_true] at this
  exact Prod.ext this.1 this.2
/-- what a cell that nobody has written is -/
def zeroC : Value := .agg #[.int .i64 0, .slice none 0 0]
theorem infoC : (Tryz.prog.info? 90).map (fun i => i.zero) = some (some zeroC) := by kernel_rfl
theorem run_zeroC (w : World) : (zeroValue 90).run Tryz.prog w = .ok zeroC w := by
  have h := infoC
  cases hi : Tryz.prog.info? 90 with
  | none => rw [hi] at h; cases h
  | some i =>
    rw [hi] at h
    have hz : i.zero = some zeroC := by simpa using h
    simp [zeroValue, typeInfo, hi, hz]
/-- how a cell reads: as itself -/
def RV : Value → Option (DataW Value × List MemPlace) := fun v => some (.held v, [])
/-- a map of places: M p is what p has; there are c entries -/
def MapV (w : World) (b c : Nat) (M : Pl → Option Value) : Prop := ∃ D : DataW Value, w.ownsMap Tryz.prog 71 RV b c D ∧ size D = c ∧
  ∀ p, plOk p → has D (keyL p) = (M p).isSome ∧ ∀ z, D.atKey (keyL p) (.held z) = .held ((M p).getD z)
def updV (M : Pl → Option Value) (p : Pl) (v : Value) : Pl → Option Value := fun q => if q = p then some v else M q
section
variable {w w1 : World} {b c : Nat} {M : Pl → Option Value}
theorem MapV.made (w : World) : MapV (w.alloc (.map #[] 0)) w.heap.size 0 (fun _ => none) := ⟨.map [], World.ownsMap_made _ _ _ _, rfl, fun p _ => ⟨rfl, fun z => rfl⟩⟩
theorem MapV.lt (h : MapV w b c M) : b < w.heap.size := by
  obtain ⟨D, hown, _⟩ := h
  exact hown.lt
theorem MapV.same (h : MapV w b c M) (hb : w1.heap[b]? = w.heap[b]?) : MapV w1 b c M := by
  obtain ⟨D, ⟨es, clock, h1, h2⟩, hD⟩ := h
  exact ⟨D, ⟨es, clock, hb.trans h1, h2⟩, hD⟩
/-- 'm[p]' -/
theorem MapV.look (h : MapV w b c M) {p : Pl} (hp : plOk p) : (Instr.lookup 68 (.map (some b)) (plV p) false).run Tryz.prog w = .ok ((M p).getD zeroC) w := by
  obtain ⟨D, hown, _, hD⟩ := h
  obtain ⟨v, ps, hrun, hv⟩ := hown.lookup keyedPl Tryz.underlying68 (run_zeroC w) (zd := .held zeroC) (zp := []) rfl (key_pl hp)
  rw [(hD p hp).2] at hv
  unfold RV at hv
  simp only [Option.some.injEq, Prod.mk.injEq, DataW.held.injEq] at hv
  rw [hrun, hv.1]
theorem own_size {D : DataW Value} {n : Nat} (h : w.ownsMap Tryz.prog 71 RV b n D) : w.ownsMap Tryz.prog 71 RV b (size D) D := by
  obtain ⟨es, clock, hb, F, hs, rfl⟩ := h
  exact ⟨es, clock, hb, F, by simp [size, length_sorted], rfl⟩
/-- 'm[p] = v' -/
theorem MapV.put (h : MapV w b c M) (hc : c < maxLen) {p : Pl} (hp : plOk p) (v : Value) : ∃ w', (Instr.mapUpdate 68 (.map (some b)) (plV p) v).run Tryz.prog w = .ok () w' ∧ MapV w' b (if (M p).isSome then c else c + 1) (updV M p v) ∧ w.grownBy w' (some b) ∧ w'.heap.size = w.heap.size := by
  obtain ⟨D, hown, hsz, hD⟩ := h
  have hk := key_pl hp
  obtain ⟨w', hrun, h1, h2⟩ := hown.update keyedPl Tryz.underlying68 hc hk (d := .held v) (ps := []) (val := v) rfl
  obtain ⟨w2, hrun2, _, es, clock, es', clock', hb0, hw2⟩ := hown.store keyedPl Tryz.underlying68 hc hk (d := .held v) (ps := []) (val := v) rfl
  have ew : w' = w2 := by
    rw [hrun] at hrun2
    injection hrun2
  have hsize : w'.heap.size = w.heap.size := by rw [ew, hw2]; simp [ChangeMaps.setBlock]
  have es2 : size (D.put (keyL p) (.held v)) = if (M p).isSome then c else c + 1 := by rw [size_put (hown.tidy keyedPl), (hD p hp).1, hsz]
  have h3 := own_size h1
  rw [es2] at h3
  refine ⟨w', hrun, ⟨_, h3, es2, fun q hq => ?_⟩, h2, hsize⟩
  by_cases e : q = p
  · subst e
    rw [has_put_same hown.isMap (keyedPl.key hk)]
    refine ⟨by simp [updV], fun z => ?_⟩
    rw [atKey_put_same hown.isMap (keyedPl.key hk)]
    simp [updV]
  · have hne : keyL q ≠ keyL p := fun h => e (keyL_inj hq hp h)
    rw [has_put_other hne, (hD q hq).1]
    refine ⟨by simp [updV, e], fun z => ?_⟩
    rw [atKey_put_other hne, (hD q hq).2]
    simp [updV, e]
end
end Wd
end Go.Proofs.YtdaojohdmidemaaGreat

/- What the functions of chapter 1's own answer return, as far as the memory asks them. -/
namespace Go.Proofs.YtdaojohdmidemaaGreat
open Go.RowKit
set_option linter.unusedVariables false
namespace Wd
set_option maxHeartbeats 4000000 in
theorem rwords_c (n : Int) (h1 : -9223372036854775808 ≤ n) (h2 : n ≤ 9223372036854775807) (w : World) :
    Calls Tryz.prog 67 #[.int .i64 n] w fun e w' => e = .returned (.int .i64 (wd n)) ∧ w' = w := by
  rcases wd_cases n with ⟨h | h, e⟩ | ⟨rfl, e⟩ | ⟨rfl, e⟩ | ⟨rfl, e⟩ | ⟨rfl, e⟩ | ⟨rfl, e⟩
  all_goals
    rw [e]; clear e
    go_enter Tryz.func67, Tryz.ntmps67
    go_wp2
    go_ret
    exact ⟨rfl, rfl⟩
set_option maxHeartbeats 16000000 in
theorem rfit_c (n : Int) (h1 : -9223372036854775808 ≤ n) (h2 : n ≤ 9223372036854775807) (w : World) :
    Calls Tryz.prog 48 #[.int .i64 n] w fun e w' => e = .returned (.int .i64 (fo n)) ∧ w' = w := by
  have f0 : wd 0 = 4 := rfl
  have f1 : wd 1 = 8 := rfl
  have f2 : wd 2 = 16 := rfl
  have f3 : wd 3 = 32 := rfl
  have f4 : wd 4 = 64 := rfl
  rcases fo_cases n with ⟨h | h, e⟩ | ⟨l0, l1, e⟩ | ⟨l0, l1, e⟩ | ⟨l0, l1, e⟩ | ⟨l0, l1, e⟩ | ⟨l0, l1, e⟩
  · rw [e]; clear e
    go_enter Tryz.func48, Tryz.ntmps48
    go_wp2_with (first | (go_at_call 67; ((with_reducible refine (rwords_c _ ?_ ?_ _).mono ?_); (first | with_reducible assumption | omega); (first | with_reducible assumption | omega); rintro e w' ⟨rfl, rfl⟩)))
    refine wp_loop_rounds 1 ?_; rw [rounds_succ]
    go_wp2
    go_ret
    exact ⟨rfl, rfl⟩
  · rw [e]; clear e
    go_enter Tryz.func48, Tryz.ntmps48
    go_wp2_with (first | (go_at_call 67; ((with_reducible refine (rwords_c _ ?_ ?_ _).mono ?_); (first | with_reducible assumption | omega); (first | with_reducible assumption | omega); rintro e w' ⟨rfl, rfl⟩)))
    refine wp_loop_rounds 1 ?_; rw [rounds_succ]
    go_wp2
    go_ret
    exact ⟨rfl, rfl⟩
  · rw [e]; clear e
    go_enter Tryz.func48, Tryz.ntmps48
    go_wp2_with (first | (go_at_call 67; ((with_reducible refine (rwords_c _ ?_ ?_ _).mono ?_); (first | with_reducible assumption | omega); (first | with_reducible assumption | omega); rintro e w' ⟨rfl, rfl⟩)))
    refine wp_loop_rounds 1 ?_
    rw [rounds_succ]
    go_wp2_with (first | (go_at_call 67; ((with_reducible refine (rwords_c _ ?_ ?_ _).mono ?_); (first | with_reducible assumption | omega); (first | with_reducible assumption | omega); rintro e w' ⟨rfl, rfl⟩)))
    go_ret
    exact ⟨rfl, rfl⟩
  · rw [e]; clear e
    go_enter Tryz.func48, Tryz.ntmps48
    go_wp2_with (first | (go_at_call 67; ((with_reducible refine (rwords_c _ ?_ ?_ _).mono ?_); (first | with_reducible assumption | omega); (first | with_reducible assumption | omega); rintro e w' ⟨rfl, rfl⟩)))
    refine wp_loop_rounds 2 ?_
    rw [rounds_succ]
    go_wp2_with (first | (go_at_call 67; ((with_reducible refine (rwords_c _ ?_ ?_ _).mono ?_); (first | with_reducible assumption | omega); (first | with_reducible assumption | omega); rintro e w' ⟨rfl, rfl⟩)))
    rw [rounds_succ]
    go_wp2_with (first | (go_at_call 67; ((with_reducible refine (rwords_c _ ?_ ?_ _).mono ?_); (first | with_reducible assumption | omega); (first | with_reducible assumption | omega); rintro e w' ⟨rfl, rfl⟩)))
    go_ret
    exact ⟨rfl, rfl⟩
  · rw [e]; clear e
    go_enter Tryz.func48, Tryz.ntmps48
    go_wp2_with (first | (go_at_call 67; ((with_reducible refine (rwords_c _ ?_ ?_ _).mono ?_); (first | with_reducible assumption | omega); (first | with_reducible assumption | omega); rintro e w' ⟨rfl, rfl⟩)))
    refine wp_loop_rounds 3 ?_
    rw [rounds_succ]
    go_wp2_with (first | (go_at_call 67; ((with_reducible refine (rwords_c _ ?_ ?_ _).mono ?_); (first | with_reducible assumption | omega); (first | with_reducible assumption | omega); rintro e w' ⟨rfl, rfl⟩)))
    rw [rounds_succ]
    go_wp2_with (first | (go_at_call 67; ((with_reducible refine (rwords_c _ ?_ ?_ _).mono ?_); (first | with_reducible assumption | omega); (first | with_reducible assumption | omega); rintro e w' ⟨rfl, rfl⟩)))
    rw [rounds_succ]
    go_wp2_with (first | (go_at_call 67; ((with_reducible refine (rwords_c _ ?_ ?_ _).mono ?_); (first | with_reducible assumption | omega); (first | with_reducible assumption | omega); rintro e w' ⟨rfl, rfl⟩)))
    go_ret
    exact ⟨rfl, rfl⟩
  · rw [e]; clear e
    go_enter Tryz.func48, Tryz.ntmps48
    go_wp2_with (first | (go_at_call 67; ((with_reducible refine (rwords_c _ ?_ ?_ _).mono ?_); (first | with_reducible assumption | omega); (first | with_reducible assumption | omega); rintro e w' ⟨rfl, rfl⟩)))
    refine wp_loop_rounds 4 ?_
    rw [rounds_succ]
    go_wp2_with (first | (go_at_call 67; ((with_reducible refine (rwords_c _ ?_ ?_ _).mono ?_); (first | with_reducible assumption | omega); (first | with_reducible assumption | omega); rintro e w' ⟨rfl, rfl⟩)))
    rw [rounds_succ]
    go_wp2_with (first | (go_at_call 67; ((with_reducible refine (rwords_c _ ?_ ?_ _).mono ?_); (first | with_reducible assumption | omega); (first | with_reducible assumption | omega); rintro e w' ⟨rfl, rfl⟩)))
    rw [rounds_succ]
    go_wp2_with (first | (go_at_call 67; ((with_reducible refine (rwords_c _ ?_ ?_ _).mono ?_); (first | with_reducible assumption | omega); (first | with_reducible assumption | omega); rintro e w' ⟨rfl, rfl⟩)))
    rw [rounds_succ]
    go_wp2_with (first | (go_at_call 67; ((with_reducible refine (rwords_c _ ?_ ?_ _).mono ?_); (first | with_reducible assumption | omega); (first | with_reducible assumption | omega); rintro e w' ⟨rfl, rfl⟩)))
    go_ret
    exact ⟨rfl, rfl⟩
  · rw [e]; clear e
    go_enter Tryz.func48, Tryz.ntmps48
    go_wp2_with (first | (go_at_call 67; ((with_reducible refine (rwords_c _ ?_ ?_ _).mono ?_); (first | with_reducible assumption | omega); (first | with_reducible assumption | omega); rintro e w' ⟨rfl, rfl⟩)))
    refine wp_loop_rounds 5 ?_
    rw [rounds_succ]
    go_wp2_with (first | (go_at_call 67; ((with_reducible refine (rwords_c _ ?_ ?_ _).mono ?_); (first | with_reducible assumption | omega); (first | with_reducible assumption | omega); rintro e w' ⟨rfl, rfl⟩)))
    rw [rounds_succ]
    go_wp2_with (first | (go_at_call 67; ((with_reducible refine (rwords_c _ ?_ ?_ _).mono ?_); (first | with_reducible assumption | omega); (first | with_reducible assumption | omega); rintro e w' ⟨rfl, rfl⟩)))
    rw [rounds_succ]
    go_wp2_with (first | (go_at_call 67; ((with_reducible refine (rwords_c _ ?_ ?_ _).mono ?_); (first | with_reducible assumption | omega); (first | with_reducible assumption | omega); rintro e w' ⟨rfl, rfl⟩)))
    rw [rounds_succ]
    go_wp2_with (first | (go_at_call 67; ((with_reducible refine (rwords_c _ ?_ ?_ _).mono ?_); (first | with_reducible assumption | omega); (first | with_reducible assumption | omega); rintro e w' ⟨rfl, rfl⟩)))
    rw [rounds_succ]
    go_wp2_with (first | (go_at_call 67; ((with_reducible refine (rwords_c _ ?_ ?_ _).mono ?_); (first | with_reducible assumption | omega); (first | with_reducible assumption | omega); rintro e w' ⟨rfl, rfl⟩)))
    go_ret
    exact ⟨rfl, rfl⟩
set_option maxHeartbeats 16000000 in
set_option maxRecDepth 100000 in
theorem rconfig_c (a b c d e p : Int) (ha : -9223372036854775808 ≤ a) (ha' : a ≤ 9223372036854775807) (hb : -9223372036854775808 ≤ b) (hb' : b ≤ 9223372036854775807) (hc : -9223372036854775808 ≤ c) (hc' : c ≤ 9223372036854775807) (hd : -9223372036854775808 ≤ d) (hd' : d ≤ 9223372036854775807) (he : -9223372036854775808 ≤ e) (he' : e ≤ 9223372036854775807) (hp : -9223372036854775808 ≤ p) (hp' : p ≤ 9223372036854775807) (w : World) :
    Calls Tryz.prog 27 #[.agg #[.int .i64 a, .int .i64 b, .int .i64 c, .int .i64 d, .int .i64 e, .int .i64 p]] w fun r w' => r = .returned (.int .i64 (rt a b c d e p)) ∧ w' = w.alloc (.cells #[.int .i64 a, .int .i64 b, .int .i64 c, .int .i64 d, .int .i64 e, .int .i64 p] 28) := by
  have i0 : ∀ w : World, (Instr.index 26 (.agg #[.int .i64 a, .int .i64 b, .int .i64 c, .int .i64 d, .int .i64 e]) (.int .i64 0)).run Tryz.prog w = .ok (.int .i64 a) w := fun _ => by kernel_rfl
  have i1 : ∀ w : World, (Instr.index 26 (.agg #[.int .i64 a, .int .i64 b, .int .i64 c, .int .i64 d, .int .i64 e]) (.int .i64 1)).run Tryz.prog w = .ok (.int .i64 b) w := fun _ => by kernel_rfl
  have i2 : ∀ w : World, (Instr.index 26 (.agg #[.int .i64 a, .int .i64 b, .int .i64 c, .int .i64 d, .int .i64 e]) (.int .i64 2)).run Tryz.prog w = .ok (.int .i64 c) w := fun _ => by kernel_rfl
  have i3 : ∀ w : World, (Instr.index 26 (.agg #[.int .i64 a, .int .i64 b, .int .i64 c, .int .i64 d, .int .i64 e]) (.int .i64 3)).run Tryz.prog w = .ok (.int .i64 d) w := fun _ => by kernel_rfl
  have i4 : ∀ w : World, (Instr.index 26 (.agg #[.int .i64 a, .int .i64 b, .int .i64 c, .int .i64 d, .int .i64 e]) (.int .i64 4)).run Tryz.prog w = .ok (.int .i64 e) w := fun _ => by kernel_rfl
  rcases rt_cases a b c d e p with ⟨h, q⟩ | ⟨⟨a0, a1, b0, b1, c0, c1, d0, d1, e0, e1, s0, s1⟩, ⟨h, q⟩ | ⟨p0, p1, q⟩⟩
  · rw [q]; clear q
    rcases h with (h | h) | (⟨a0, a1, h | h⟩) | (⟨a0, a1, b0, b1, h | h⟩) | (⟨a0, a1, b0, b1, c0, c1, h | h⟩) | (⟨a0, a1, b0, b1, c0, c1, d0, d1, h | h⟩) | (⟨a0, a1, b0, b1, c0, c1, d0, d1, e0, e1, h | h⟩)
    · go_enter Tryz.func27, Tryz.ntmps27
      go_wp2
      refine wp_loop_rounds 1 ?_
      rw [rounds_succ]
      go_wp2
      go_ret
      exact ⟨rfl, rfl⟩
    · go_enter Tryz.func27, Tryz.ntmps27
      go_wp2
      refine wp_loop_rounds 1 ?_
      rw [rounds_succ]
      go_wp2
      go_ret
      exact ⟨rfl, rfl⟩
    · go_enter Tryz.func27, Tryz.ntmps27
      go_wp2
      refine wp_loop_rounds 2 ?_
      rw [rounds_succ]
      go_wp2
      rw [rounds_succ]
      go_wp2
      go_ret
      exact ⟨rfl, rfl⟩
    · go_enter Tryz.func27, Tryz.ntmps27
      go_wp2
      refine wp_loop_rounds 2 ?_
      rw [rounds_succ]
      go_wp2
      rw [rounds_succ]
      go_wp2
      go_ret
      exact ⟨rfl, rfl⟩
    · go_enter Tryz.func27, Tryz.ntmps27
      go_wp2
      refine wp_loop_rounds 3 ?_
      rw [rounds_succ]
      go_wp2
      rw [rounds_succ]
      go_wp2
      rw [rounds_succ]
      go_wp2
      go_ret
      exact ⟨rfl, rfl⟩
    · go_enter Tryz.func27, Tryz.ntmps27
      go_wp2
      refine wp_loop_rounds 3 ?_
      rw [rounds_succ]
      go_wp2
      rw [rounds_succ]
      go_wp2
      rw [rounds_succ]
      go_wp2
      go_ret
      exact ⟨rfl, rfl⟩
    · go_enter Tryz.func27, Tryz.ntmps27
      go_wp2
      refine wp_loop_rounds 4 ?_
      rw [rounds_succ]
      go_wp2
      rw [rounds_succ]
      go_wp2
      rw [rounds_succ]
      go_wp2
      rw [rounds_succ]
      go_wp2
      go_ret
      exact ⟨rfl, rfl⟩
    · go_enter Tryz.func27, Tryz.ntmps27
      go_wp2
      refine wp_loop_rounds 4 ?_
      rw [rounds_succ]
      go_wp2
      rw [rounds_succ]
      go_wp2
      rw [rounds_succ]
      go_wp2
      rw [rounds_succ]
      go_wp2
      go_ret
      exact ⟨rfl, rfl⟩
    · go_enter Tryz.func27, Tryz.ntmps27
      go_wp2
      refine wp_loop_rounds 5 ?_
      rw [rounds_succ]
      go_wp2
      rw [rounds_succ]
      go_wp2
      rw [rounds_succ]
      go_wp2
      rw [rounds_succ]
      go_wp2
      rw [rounds_succ]
      go_wp2
      go_ret
      exact ⟨rfl, rfl⟩
    · go_enter Tryz.func27, Tryz.ntmps27
      go_wp2
      refine wp_loop_rounds 5 ?_
      rw [rounds_succ]
      go_wp2
      rw [rounds_succ]
      go_wp2
      rw [rounds_succ]
      go_wp2
      rw [rounds_succ]
      go_wp2
      rw [rounds_succ]
      go_wp2
      go_ret
      exact ⟨rfl, rfl⟩
    · go_enter Tryz.func27, Tryz.ntmps27
      go_wp2
      refine wp_loop_rounds 6 ?_
      rw [rounds_succ]
      go_wp2
      rw [rounds_succ]
      go_wp2
      rw [rounds_succ]
      go_wp2
      rw [rounds_succ]
      go_wp2
      rw [rounds_succ]
      go_wp2
      rw [rounds_succ]
      go_wp2
      go_ret
      exact ⟨rfl, rfl⟩
    · go_enter Tryz.func27, Tryz.ntmps27
      go_wp2
      refine wp_loop_rounds 6 ?_
      rw [rounds_succ]
      go_wp2
      rw [rounds_succ]
      go_wp2
      rw [rounds_succ]
      go_wp2
      rw [rounds_succ]
      go_wp2
      rw [rounds_succ]
      go_wp2
      rw [rounds_succ]
      go_wp2
      go_ret
      exact ⟨rfl, rfl⟩
  · rw [q]; clear q
    rcases h with h | h
    · go_enter Tryz.func27, Tryz.ntmps27
      go_wp2
      refine wp_loop_rounds 6 ?_
      rw [rounds_succ]
      go_wp2
      rw [rounds_succ]
      go_wp2
      rw [rounds_succ]
      go_wp2
      rw [rounds_succ]
      go_wp2
      rw [rounds_succ]
      go_wp2
      rw [rounds_succ]
      go_wp2
      go_ret
      exact ⟨rfl, rfl⟩
    · go_enter Tryz.func27, Tryz.ntmps27
      go_wp2
      refine wp_loop_rounds 6 ?_
      rw [rounds_succ]
      go_wp2
      rw [rounds_succ]
      go_wp2
      rw [rounds_succ]
      go_wp2
      rw [rounds_succ]
      go_wp2
      rw [rounds_succ]
      go_wp2
      rw [rounds_succ]
      go_wp2
      go_ret
      exact ⟨rfl, rfl⟩
  · rw [q]; clear q
    go_enter Tryz.func27, Tryz.ntmps27
    go_wp2
    refine wp_loop_rounds 6 ?_
    rw [rounds_succ]
    go_wp2
    rw [rounds_succ]
    go_wp2
    rw [rounds_succ]
    go_wp2
    rw [rounds_succ]
    go_wp2
    rw [rounds_succ]
    go_wp2
    rw [rounds_succ]
    go_wp2
    go_ret
    exact ⟨rfl, rfl⟩
theorem wand1 (a : Int) (h0 : 0 ≤ a) (h1 : a ≤ 4294967295) : bits .and .u32 a 1 = a % 2 := by
  rw [u32_and a 1 h0 (by omega) (by decide) (by decide)]
  rw [show (1 : Int).toNat = 1 from rfl, Nat.and_one_is_mod]
  omega
def idW (x : Int) : Int := if isOp x then x / 2 else 0
theorem rid_c (a : Int) (h0 : 0 ≤ a) (h1 : a ≤ 4294967295) (w : World) :
    Calls Tryz.prog 13 #[.int .u32 a] w fun e w' => e = .returned (.tuple #[.int .i64 (idW a), .bool (isOp a)]) ∧ w' = w := by
  have k0 := wand1 a h0 h1
  by_cases ha : a % 2 = 0
  · rw [ha] at k0
    by_cases hz : a = 0
    · subst hz
      go_enter Tryz.func13, Tryz.ntmps13
      go_wp2
      go_ret2
      exact ⟨rfl, rfl⟩
    · have hb : (a == 0) = false := by simp [hz]
      have hi : isOp a = true := by unfold isOp; simp [ha, hz]
      have e : idW a = a / 2 := by unfold idW; rw [if_pos hi]
      rw [e, hi]
      clear e hi
      go_enter Tryz.func13, Tryz.ntmps13
      go_wp2
      go_ret2
      exact ⟨rfl, rfl⟩
  · have k1 : bits .and .u32 a 1 = 1 := by omega
    have hi : isOp a = false := by unfold isOp; simp [ha]
    have e : idW a = 0 := by unfold idW; rw [hi]; rfl
    rw [e, hi]
    clear e hi k0
    go_enter Tryz.func13, Tryz.ntmps13
    go_wp2
    go_ret2
    exact ⟨rfl, rfl⟩
def oopW (i : Int) : Int := if 1 ≤ i ∧ i ≤ 2147483647 then 2 * i else 0
theorem oopW_bd (i : Int) : 0 ≤ oopW i ∧ oopW i ≤ 4294967295 := by unfold oopW; split <;> omega
theorem ret_w {a b : Int} (h : a = b) : Ending.returned (Value.int .u32 a) = .returned (.int .u32 b) := by rw [h]
theorem roop_c (a : Int) (w : World) :
    Calls Tryz.prog 61 #[.int .i64 a] w fun e w' => e = .returned (.int .u32 (oopW a)) ∧ w' = w := by
  by_cases h1 : a < 1
  · go_enter Tryz.func61, Tryz.ntmps61
    go_wp2
    go_ret
    exact ⟨ret_w (by unfold oopW; rw [if_neg (by omega)]), rfl⟩
  · by_cases h2 : 2147483647 < a
    · have h1' : 1 ≤ a := by omega
      go_enter Tryz.func61, Tryz.ntmps61
      go_wp2
      go_ret
      exact ⟨ret_w (by unfold oopW; rw [if_neg (by omega)]), rfl⟩
    · have h1' : 1 ≤ a := by omega
      have h2' : a ≤ 2147483647 := by omega
      go_enter Tryz.func61, Tryz.ntmps61
      go_wp2
      go_ret
      exact ⟨ret_w (by unfold oopW; rw [if_pos (by omega)]; omega), rfl⟩
theorem wor1 (a : Int) (h0 : 0 ≤ a) (h1 : a ≤ 4294967295) (h2 : a % 2 = 0) : bits .or .u32 a 1 = a + 1 := by
  rw [u32_or a 1 h0 (by omega) (by decide) (by decide)]
  obtain ⟨k, hk⟩ : ∃ k : Nat, a.toNat = 2 * k := ⟨a.toNat / 2, by omega⟩
  have : a.toNat ||| (1 : Int).toNat = 2 * k + 1 := by
    rw [hk, show (1 : Int).toNat = 1 from rfl]
    have := Nat.two_pow_add_eq_or_of_lt (i := 1) (b := 1) (by decide) k
    simp at this
    omega
  rw [this]; omega
def intW (n : Int) : Int := if -1073741824 ≤ n ∧ n ≤ 1073741823 then (2 * n + 1) % 4294967296 else 0
theorem intW_bd (n : Int) : 0 ≤ intW n ∧ intW n ≤ 4294967295 := by unfold intW; split <;> omega
theorem rint_c (n : Int) (w : World) :
    Calls Tryz.prog 78 #[.int .i64 n] w fun e w' => e = .returned (.tuple #[.int .u32 (intW n), .bool (decide (-1073741824 ≤ n ∧ n ≤ 1073741823))]) ∧ w' = w := by
  by_cases h1 : n < -1073741824
  · have e1 : intW n = 0 := by unfold intW; rw [if_neg (by omega)]
    have e2 : decide (-1073741824 ≤ n ∧ n ≤ 1073741823) = false := by simp; omega
    rw [e1, e2]; clear e1 e2
    go_enter Tryz.func78, Tryz.ntmps78
    go_wp2
    go_ret2
    exact ⟨rfl, rfl⟩
  · by_cases h2 : 1073741823 < n
    · have e1 : intW n = 0 := by unfold intW; rw [if_neg (by omega)]
      have e2 : decide (-1073741824 ≤ n ∧ n ≤ 1073741823) = false := by simp; omega
      rw [e1, e2]; clear e1 e2
      have h1' : -1073741824 ≤ n := by omega
      go_enter Tryz.func78, Tryz.ntmps78
      go_wp2
      go_ret2
      exact ⟨rfl, rfl⟩
    · have e1 : intW n = (2 * n + 1) % 4294967296 := by unfold intW; rw [if_pos (by omega)]
      have e2 : decide (-1073741824 ≤ n ∧ n ≤ 1073741823) = true := by simp; omega
      rw [e1, e2]; clear e1 e2
      have h1' : -1073741824 ≤ n := by omega
      have h2' : n ≤ 1073741823 := by omega
      have k : Hid (bits .or .u32 (n % 4294967296 * 2 % 4294967296) 1 = (2 * n + 1) % 4294967296) := Lib.hid (by rw [wor1 _ (by omega) (by omega) (by omega)]; omega)
      go_enter Tryz.func78, Tryz.ntmps78
      go_wp2
      go_ret2
      rw [← k.out]
      exact ⟨rfl, rfl⟩
end Wd
end Go.Proofs.YtdaojohdmidemaaGreat

/- The document's own memory: how it lies; at. -/
namespace Go.Proofs.YtdaojohdmidemaaGreat
open Go.RowKit Go.Maps
set_option linter.unusedVariables false
namespace Wd
/-- a mill of the document's own, and the blocks in which it lies -/
def QM (w : World) (m : Nat) (A : Mst) (F : Nat → Prop) : Prop := ∃ V, F = (fun g => g = m ∨ ∃ j, j < 4 ∧ (V j).ownBlock = some g) ∧ RefM w m A V
theorem QM.lt {w : World} {m : Nat} {A : Mst} {F : Nat → Prop} (h : QM w m A F) : ∀ g, F g → g < w.heap.size := by
  obtain ⟨V, rfl, h⟩ := h
  rintro g (rfl | ⟨j, hj, hg⟩)
  · exact h.lt.1
  · exact h.lt.2 j g hj hg
theorem QM.same {w w' : World} {m : Nat} {A : Mst} {F : Nat → Prop} (h : QM w m A F) (hk : ∀ g, F g → w'.heap[g]? = w.heap[g]?) : QM w' m A F := by
  obtain ⟨V, rfl, h⟩ := h
  exact ⟨V, rfl, h.same hk⟩
theorem QM.at_ {w : World} {m : Nat} {A : Mst} {F : Nat → Prop} (h : QM w m A F) : F m := by
  obtain ⟨V, rfl, h⟩ := h
  exact Or.inl rfl
theorem qm_step {w w' : World} {m : Nat} {A' : Mst} {V V' : Nat → Value} (hr : RefM w' m A' V') (hg : w.grownBy w' (some m)) (hc : Comes V V' w.heap.size) :
    ∃ F', QM w' m A' F' ∧ Ch (fun g => g = m) w w' ∧ Newer (fun g => g = m ∨ ∃ j, j < 4 ∧ (V j).ownBlock = some g) F' w.heap.size := by
  refine ⟨_, ⟨V', rfl, hr⟩, ⟨hg.os, hg.tape, hg.output, hg.size, fun k hk hn => hg.block k hk (fun e => hn (by cases e; rfl))⟩, ?_⟩
  rintro g (rfl | ⟨j, hj, hgo⟩)
  · exact Or.inl (Or.inl rfl)
  · rcases hc j g hj hgo with h | ⟨i, hi, h⟩
    · exact Or.inr h
    · exact Or.inl (Or.inr ⟨i, hi, h⟩)
/-- the cells of the memory's block behind the table -/
def extX (ms : Nat → Nat) (mb : Nat) : Nat → Option Value := fun k => if k = 3077 then some (.map (some mb)) else if 3072 ≤ k ∧ k < 3077 then some (.pointer (some ⟨ms (k - 3072), 0, none⟩)) else none
/-- what the map holds: each cell's class and a row of its own of its fields -/
structure CM (w : World) (M : Pl → Option Value) (C : Pl → Int × List Int) (R : Nat → Prop) : Prop where
  some' : ∀ p v, M p = some v → ∃ u, v = .agg #[.int .i64 (C p).1, u] ∧ SW w u (C p).2 ∧ ∀ g, u.ownBlock = some g → R g
  none' : ∀ p, M p = none → C p = (0, [])
  lt : ∀ g, R g → g < w.heap.size
/-- the document's own memory, at block b: its mills at ms, in the blocks FM; its map at mb; its rows in R -/
structure RefP (w : World) (b : Nat) (n : Nat → Nat) (H : Hst) (ms : Nat → Nat) (FM : Nat → Nat → Prop) (mb c : Nat) (M : Pl → Option Value) (R : Nat → Prop) : Prop where
  tbl : RefT (extX ms mb) w b H.T
  ml : ∀ s, s < 5 → QM w (ms s) (H.M s) (FM s)
  mp : MapV w mb c M
  cm : CM w M H.C R
  keys : ∃ K : List Pl, K.Nodup ∧ K.length = c ∧ ∀ p, p ∈ K ↔ (M p).isSome = true
  dom : ∀ p, (M p).isSome = true → p ∈ allP n
  a1 : ∀ s, s < 5 → ¬ FM s b
  a2 : mb ≠ b
  a3 : ¬ R b
  a4 : ∀ s t, s < 5 → t < 5 → s ≠ t → ∀ g, FM s g → ¬ FM t g
  a5 : ∀ s, s < 5 → ¬ FM s mb
  a6 : ∀ s, s < 5 → ∀ g, FM s g → ¬ R g
  a7 : ¬ R mb
/-- .. and what holds at any time -/
structure RefH (w : World) (b : Nat) (n : Nat → Nat) (H : Hst) (ms : Nat → Nat) (FM : Nat → Nat → Prop) (mb c : Nat) (M : Pl → Option Value) (R : Nat → Prop) : Prop extends RefP w b n H ms FM mb c M R where
  inv : HInv n H
/-- its blocks -/
def FH (b : Nat) (FM : Nat → Nat → Prop) (mb : Nat) (R : Nat → Prop) : Nat → Prop := fun g => g = b ∨ (∃ s, s < 5 ∧ FM s g) ∨ g = mb ∨ R g
section
variable {w w' : World} {b : Nat} {n : Nat → Nat} {H : Hst} {ms : Nat → Nat} {FM : Nat → Nat → Prop} {mb c : Nat} {M : Pl → Option Value} {R : Nat → Prop}
theorem RefP.lt (h : RefP w b n H ms FM mb c M R) : ∀ g, FH b FM mb R g → g < w.heap.size := by
  rintro g (rfl | ⟨s, hs, hg⟩ | rfl | hg)
  · exact h.tbl.lt
  · exact (h.ml s hs).lt g hg
  · exact h.mp.lt
  · exact h.cm.lt g hg
theorem CM.same (h : CM w M H.C R) (hs : w.heap.size ≤ w'.heap.size) (hk : ∀ g, R g → w'.heap[g]? = w.heap[g]?) : CM w' M H.C R :=
  ⟨fun p v hp => by
    obtain ⟨u, h1, h2, h3⟩ := h.some' p v hp
    exact ⟨u, h1, h2.same (fun g hg => hk g (h3 g hg)), h3⟩, h.none', fun g hg => Nat.lt_of_lt_of_le (h.lt g hg) hs⟩
theorem RefP.same (h : RefP w b n H ms FM mb c M R) (hs : w.heap.size ≤ w'.heap.size) (hk : ∀ g, FH b FM mb R g → w'.heap[g]? = w.heap[g]?) : RefP w' b n H ms FM mb c M R :=
  ⟨h.tbl.same (hk b (Or.inl rfl)), fun s hs => (h.ml s hs).same (fun g hg => hk g (Or.inr (Or.inl ⟨s, hs, hg⟩))), h.mp.same (hk mb (Or.inr (Or.inr (Or.inl rfl)))),
   h.cm.same hs (fun g hg => hk g (Or.inr (Or.inr (Or.inr hg)))), h.keys, h.dom, h.a1, h.a2, h.a3, h.a4, h.a5, h.a6, h.a7⟩
theorem RefP.keep (h : RefP w b n H ms FM mb c M R) (g : Below w.heap.size w w') : RefP w' b n H ms FM mb c M R := h.same g.size (fun k hk => g.block k (h.lt k hk))
theorem RefH.same (h : RefH w b n H ms FM mb c M R) (hs : w.heap.size ≤ w'.heap.size) (hk : ∀ g, FH b FM mb R g → w'.heap[g]? = w.heap[g]?) : RefH w' b n H ms FM mb c M R := ⟨h.toRefP.same hs hk, h.inv⟩
theorem RefH.keep (h : RefH w b n H ms FM mb c M R) (g : Below w.heap.size w w') : RefH w' b n H ms FM mb c M R := h.same g.size (fun k hk => g.block k (h.lt k hk))
theorem RefP.mapc (h : RefP w b n H ms FM mb c M R) : w.cell? ⟨b, 3077, none⟩ = some (.map (some mb)) := (h.tbl.x 3077 (by omega)).trans rfl
theorem RefP.mill (h : RefP w b n H ms FM mb c M R) {s : Nat} (hs : s < 5) : w.cell? ⟨b, 3072 + s, none⟩ = some (.pointer (some ⟨ms s, 0, none⟩)) := by
  rw [h.tbl.x (3072 + s) (by omega)]
  unfold extX
  rw [if_neg (by omega), if_pos (by omega)]
  simp
/-- what lies in the map at a place -/
theorem RefP.cellv (h : RefP w b n H ms FM mb c M R) (p : Pl) : ∃ u, (M p).getD zeroC = .agg #[.int .i64 (H.C p).1, u] ∧ SW w u (H.C p).2 ∧ ∀ g, u.ownBlock = some g → R g := by
  cases hM : M p with
  | none =>
    refine ⟨.slice none 0 0, ?_, ?_, fun g hg => by cases hg⟩
    · rw [h.cm.none' p hM]; rfl
    · rw [h.cm.none' p hM]; exact World.ownsRow_nil _ _ _ _
  | some v =>
    obtain ⟨u, h1, h2, h3⟩ := h.cm.some' p v hM
    exact ⟨u, by rw [h1]; rfl, h2, h3⟩
/-- two boxes of two cells are written -/
theorem boxes4 {w w2 : World} {s : Nat} {v0 v1 v2 v3 c1 c2 c3 c4 : Value} (g0 : w2.cell? ⟨s, 0, none⟩ = some v0) (g1 : w2.cell? ⟨s, 1, none⟩ = some v1) (g2 : w2.cell? ⟨s + 1, 0, none⟩ = some v2) (g3 : w2.cell? ⟨s + 1, 1, none⟩ = some v3) (hB : Below s w w2) :
    ((((w2.setCell ⟨s, 0, none⟩ c1).setCell ⟨s, 1, none⟩ c2).setCell ⟨s + 1, 0, none⟩ c3).setCell ⟨s + 1, 1, none⟩ c4).drew.cell? ⟨s, 0, none⟩ = some c1 ∧
    ((((w2.setCell ⟨s, 0, none⟩ c1).setCell ⟨s, 1, none⟩ c2).setCell ⟨s + 1, 0, none⟩ c3).setCell ⟨s + 1, 1, none⟩ c4).drew.cell? ⟨s, 1, none⟩ = some c2 ∧
    ((((w2.setCell ⟨s, 0, none⟩ c1).setCell ⟨s, 1, none⟩ c2).setCell ⟨s + 1, 0, none⟩ c3).setCell ⟨s + 1, 1, none⟩ c4).drew.cell? ⟨s + 1, 0, none⟩ = some c3 ∧
    ((((w2.setCell ⟨s, 0, none⟩ c1).setCell ⟨s, 1, none⟩ c2).setCell ⟨s + 1, 0, none⟩ c3).setCell ⟨s + 1, 1, none⟩ c4).drew.cell? ⟨s + 1, 1, none⟩ = some c4 ∧
    Below s w ((((w2.setCell ⟨s, 0, none⟩ c1).setCell ⟨s, 1, none⟩ c2).setCell ⟨s + 1, 0, none⟩ c3).setCell ⟨s + 1, 1, none⟩ c4).drew := by
  have f1 : ∀ {W : World} {o o' : Nat} {q : Nat} {x : Value}, o ≠ o' → (W.setCell ⟨q, o, none⟩ x).cell? ⟨q, o', none⟩ = W.cell? ⟨q, o', none⟩ := fun hne => World.cell?_setCell_other _ _ _ _ (by intro e; injection e with _ h2; exact hne h2)
  have f2 : ∀ {W : World} {o o' : Nat} {q q' : Nat} {x : Value}, q ≠ q' → (W.setCell ⟨q, o, none⟩ x).cell? ⟨q', o', none⟩ = W.cell? ⟨q', o', none⟩ := fun hne => World.cell?_setCell_far _ _ _ _ hne
  have n1 : s + 1 ≠ s := by omega
  have n2 : s ≠ s + 1 := by omega
  refine ⟨?_, ?_, ?_, ?_, ?_⟩
  · rw [World.cell?_drew, f2 n1, f2 n1, f1 (by decide)]
    exact World.cell?_setCell_same _ _ _ g0
  · rw [World.cell?_drew, f2 n1, f2 n1]
    exact World.cell?_setCell_same _ _ _ (by rw [f1 (by decide)]; exact g1)
  · rw [World.cell?_drew, f1 (by decide)]
    exact World.cell?_setCell_same _ _ _ (by rw [f2 n2, f2 n2]; exact g2)
  · rw [World.cell?_drew]
    exact World.cell?_setCell_same _ _ _ (by rw [f1 (by decide), f2 n2, f2 n2]; exact g3)
  · refine ⟨hB.os, hB.tape, hB.output, by simpa [World.drew, World.setCell] using hB.size, fun k hk => ?_⟩
    have hd : ∀ W : World, W.drew.heap = W.heap := fun _ => rfl
    rw [hd, Below.heap_setCell _ _ _ _ (by simp only; omega), Below.heap_setCell _ _ _ _ (by simp only; omega), Below.heap_setCell _ _ _ _ (by simp only; omega), Below.heap_setCell _ _ _ _ (by simp only; omega)]
    exact hB.block k hk
set_option maxHeartbeats 4000000 in
set_option maxRecDepth 20000 in
theorem rat_c (h : RefH w b n H ms FM mb c M R) (i : Int) :
    Calls Tryz.prog 54 #[.pointer (some ⟨b, 0, none⟩), .int .i64 i] w fun e w' => ∃ u, e = .returned (.tuple #[.agg #[.int .i64 (if hasT H.T i then (H.C (atP H.T i)).1 else 0), u], plV (atP H.T i), .bool (hasT H.T i)]) ∧ SW w' u (fsI H i) ∧ (∀ g, u.ownBlock = some g → R g) ∧ Below w.heap.size w w' := by
  have hbs := h.tbl.lt
  cases hh : hasT H.T i with
  | false =>
    have e1 : fsI H i = [] := by unfold fsI; rw [hh]; rfl
    have e2 : atP H.T i = (0, 0) := by unfold atP; rw [hh]; rfl
    rw [e1, e2]
    have hP : Hid (∀ w1, Below w.heap.size w w1 → Calls Tryz.prog 94 #[.pointer (some ⟨b, 0, none⟩), .int .i64 i] w1 fun e w' => e = .returned (.bool false) ∧ w' = w1) := Lib.hid (fun w1 hb => by
      have := rhas_c i (h.tbl.keep hb)
      rw [hh] at this
      exact this)
    have hB : Below w.heap.size w ((w.alloc (.cells #[.int .i64 0, .slice none 0 0] 90)).alloc (.cells #[.int .i64 0, .int .i64 0] 71)) := ((Below.refl _ _).alloc (Nat.le_refl _) _).alloc (by simp) _
    clear h e1 e2
    go_enter Tryz.func54, Tryz.ntmps54
    go_wp2_with (first | (go_at_call 94; ((with_reducible refine (hP.out _ hB).mono ?_); rintro e w1 ⟨rfl, hw1⟩; subst w1)))
    go_returns
    refine ⟨_, rfl, World.ownsRow_nil _ _ _ _, fun g hg => (by cases hg), ?_⟩
    exact hB
  | true =>
    obtain ⟨k, rfl, hk, _, p, hp⟩ := hasT_some hh
    obtain ⟨ea, _⟩ := atP_at hp hk
    have ef : fsI H k = (H.C p).2 := by unfold fsI; rw [if_pos hh, ea]
    rw [ef, ea]
    obtain ⟨u, hu, hs, hr⟩ := h.cellv p
    have hpl := (h.inv.inv.bd k p hp).2.2
    obtain ⟨ua, uc, rfl⟩ := hs.form
    have hP : Hid (∀ w1, Below w.heap.size w w1 → Calls Tryz.prog 94 #[.pointer (some ⟨b, 0, none⟩), .int .i64 (k : Int)] w1 fun e w' => e = .returned (.bool true) ∧ w' = w1) := Lib.hid (fun w1 hb => by
      have := rhas_c k (h.tbl.keep hb)
      rw [hh] at this
      exact this)
    obtain ⟨w2, hw2⟩ : ∃ w2, w2 = ((w.alloc (.cells #[.int .i64 0, .slice none 0 0] 90)).alloc (.cells #[.int .i64 0, .int .i64 0] 71)) := ⟨_, rfl⟩
    have hB : Below w.heap.size w w2 := by rw [hw2]; exact ((Below.refl _ _).alloc (Nat.le_refl _) _).alloc (by simp) _
    have h2 := h.keep hB
    have hL : (Instr.lookup 68 (.map (some mb)) (plV p) false).run Tryz.prog w2.drew = .ok (.agg #[.int .i64 (H.C p).1, .slice ua (H.C p).2.length uc]) w2.drew := by
      have := (h2.mp.same (w1 := w2.drew) rfl).look hpl
      rw [hu] at this
      exact this
    have cs := h2.tbl.cs k hk
    have cl := h2.tbl.cl k hk
    have cm := h2.mapc
    unfold szR at cs
    unfold clR at cl
    rw [hp] at cs cl
    simp only [Option.getD_some] at cs cl
    obtain ⟨pa, pc⟩ := p
    unfold plV at hL ⊢
    simp only at cs cl hL ⊢
    have g0 : w2.cell? ⟨w.heap.size, 0, none⟩ = some (.int .i64 0) := by rw [hw2]; simp
    have g1 : w2.cell? ⟨w.heap.size, 1, none⟩ = some (.slice none 0 0) := by rw [hw2]; simp
    have g2 : w2.cell? ⟨w.heap.size + 1, 0, none⟩ = some (.int .i64 0) := by rw [hw2]; simp
    have g3 : w2.cell? ⟨w.heap.size + 1, 1, none⟩ = some (.int .i64 0) := by rw [hw2]; simp
    have z0 : ∀ j, w2.frozen? ⟨w.heap.size, j, none⟩ = false := by intro j; rw [hw2]; simp
    have z1 : ∀ j, w2.frozen? ⟨w.heap.size + 1, j, none⟩ = false := by intro j; rw [hw2]; simp
    have hk1 : (k : Int) < 1024 := by omega
    replace hs := Lib.hid hs
    replace hB := Lib.hid hB
    replace hr := Lib.hid hr
    clear h h2 hp ea ef hu hpl
    generalize H.C (pa, pc) = cf at *
    obtain ⟨c1, fs⟩ := cf
    simp only at hs hr hL ⊢
    generalize fs.length = fl at *
    go_enter Tryz.func54, Tryz.ntmps54
    go_wp2_with fail
    rw [← hw2]
    clear hw2
    go_wp2_with (first | (go_at_call 94; ((with_reducible refine (hP.out _ hB.out).mono ?_); rintro e w1 ⟨rfl, hw1⟩; subst w1)))
    clear hP
    generalize hsb : w.heap.size = sb at *
    replace hsb := Lib.hid hsb
    go_region
    clear hL cs cl cm hh
    obtain ⟨r0, r1, r2, r3, bw⟩ := boxes4 (c1 := .int .i64 c1) (c2 := .slice ua fl uc) (c3 := .int .i64 pa) (c4 := .int .i64 pc) g0 g1 g2 g3 hB.out
    clear g0 g1 g2 g3 z0 z1
    generalize ((((w2.setCell ⟨sb, 0, none⟩ (.int .i64 c1)).setCell ⟨sb, 1, none⟩ (.slice ua fl uc)).setCell ⟨sb + 1, 0, none⟩ (.int .i64 pa)).setCell ⟨sb + 1, 1, none⟩ (.int .i64 pc)).drew = w3 at r0 r1 r2 r3 bw ⊢
    replace bw := Lib.hid bw
    go_wp2
    (try simp only [Exit.inBlock, Exit.then])
    refine bodyPost_ret (by simp [results, Tryz.results54, go_sem, r0, r1, r2, r3]; try rfl) rfl ?_
    have hw : Below w.heap.size w w3 := by rw [hsb.out]; exact bw.out
    exact ⟨_, rfl, hs.out.keep hw, hr.out, hw⟩
end
end Wd
end Go.Proofs.YtdaojohdmidemaaGreat

/- The document's own memory: what is read of it. -/
namespace Go.Proofs.YtdaojohdmidemaaGreat
open Go.RowKit Go.Maps
set_option linter.unusedVariables false
namespace Wd
section
variable {w : World} {m : Nat} {A : Mst} {F : Nat → Prop}
theorem qalloc (h : QM w m A F) (hl : ∀ k, k < 4 → (A k).length ≤ 8192) :
    Calls Tryz.prog 49 #[.pointer (some ⟨m, 0, none⟩)] w fun e w' => ∃ F', e = .returned (.int .i64 (firstR A 0)) ∧ QM w' m (firstA A 0 1) F' ∧ Ch (fun g => g = m) w w' ∧ Newer F F' w.heap.size := by
  obtain ⟨V, rfl, h⟩ := h
  refine (ralloc_c m A V w h hl).mono ?_
  rintro e w' ⟨rfl, V', h1, h2, h3⟩
  obtain ⟨F', a, b, c⟩ := qm_step h1 h2 h3
  exact ⟨F', rfl, a, b, c⟩
theorem qscan (h : QM w m A F) (hl : ∀ k, k < 4 → (A k).length ≤ 8192) :
    Calls Tryz.prog 66 #[.pointer (some ⟨m, 0, none⟩)] w fun e w' => ∃ F', e = .returned (.int .i64 (firstR A 2)) ∧ QM w' m (firstA A 2 1) F' ∧ Ch (fun g => g = m) w w' ∧ Newer F F' w.heap.size := by
  obtain ⟨V, rfl, h⟩ := h
  refine (rscan_c m A V w h hl).mono ?_
  rintro e w' ⟨rfl, V', h1, h2, h3⟩
  obtain ⟨F', a, b, c⟩ := qm_step h1 h2 h3
  exact ⟨F', rfl, a, b, c⟩
theorem qshade (h : QM w m A F) (hl : ∀ k, k < 4 → (A k).length ≤ 8192) (i : Int) :
    Calls Tryz.prog 95 #[.pointer (some ⟨m, 0, none⟩), .int .i64 i] w fun e w' => ∃ F', e = .returned (.bool (decide (colorR A i = 3))) ∧ QM w' m (shadeA A i) F' ∧ Ch (fun g => g = m) w w' ∧ Newer F F' w.heap.size := by
  obtain ⟨V, rfl, h⟩ := h
  refine (rshade_c i m A V w h hl).mono ?_
  rintro e w' ⟨rfl, V', h1, h2, h3⟩
  obtain ⟨F', a, b, c⟩ := qm_step h1 h2 h3
  exact ⟨F', rfl, a, b, c⟩
theorem qflip (h : QM w m A F) (hl : ∀ k, k < 4 → (A k).length ≤ 8192) :
    Calls Tryz.prog 71 #[.pointer (some ⟨m, 0, none⟩)] w fun e w' => ∃ u F', e = .returned u ∧ QM w' m (flipA A) F' ∧ Ch (fun g => g = m) w w' ∧ Newer F F' w.heap.size ∧ SL w' 3 u (flipR A) ∧ (∀ g, u.ownBlock = some g → w.heap.size ≤ g) := by
  obtain ⟨V, rfl, h⟩ := h
  refine (rflip_c m A V w h hl).mono ?_
  rintro e w' ⟨u, V', rfl, h1, h2, h3, h4, h5⟩
  obtain ⟨F', a, b, c⟩ := qm_step h1 h2 h3
  exact ⟨u, F', rfl, a, b, c, h4, h5⟩
theorem qcolor (h : QM w m A F) (hl : ∀ k, k < 4 → (A k).length ≤ 8192) (i : Int) :
    Calls Tryz.prog 55 #[.pointer (some ⟨m, 0, none⟩), .int .i64 i] w fun e w' => e = .returned (.int .i64 (colorR A i)) ∧ w' = w := by
  obtain ⟨V, rfl, h⟩ := h
  exact rcolor_c i m A V w h hl
end
section
variable {w : World} {b : Nat} {n : Nat → Nat} {H : Hst} {ms : Nat → Nat} {FM : Nat → Nat → Prop} {mb c : Nat} {M : Pl → Option Value} {R : Nat → Prop}
theorem HInv.hl (h : HInv n H) {s : Nat} (hs : s < 5) : ∀ k, k < 4 → (H.M s k).length ≤ 8192 := fun k hk => Nat.le_trans (good_le (h.good s hs) k hk) (by have := h.few s hs; omega)
set_option maxHeartbeats 4000000 in
theorem rclass_c (h : RefH w b n H ms FM mb c M R) (i : Int) :
    Calls Tryz.prog 75 #[.pointer (some ⟨b, 0, none⟩), .int .i64 i] w fun e w' => e = .returned (.int .i64 (clsI H i)) ∧ Below w.heap.size w w' := by
  have P := Lib.hid (rat_c h i)
  obtain ⟨⟨pa, pc⟩, hp⟩ : ∃ p, p = atP H.T i := ⟨_, rfl⟩
  unfold clsI
  rw [← hp] at P ⊢
  clear h hp
  unfold plV at P
  cases hh : hasT H.T i <;>
  · rw [hh] at P
    generalize (H.C (pa, pc)).1 = c1 at *
    go_enter Tryz.func75, Tryz.ntmps75
    go_wp2_with fail
    refine P.out.mono ?_
    clear P
    rintro e w1 ⟨u, he, hs, hr, hb⟩
    obtain ⟨ua, uc, rfl⟩ := hs.form
    subst he
    replace hb := Lib.hid hb
    replace hs := Lib.hid hs
    clear hr
    go_wp2
    go_ret
    exact ⟨rfl, (hb.out.alloc hb.out.size _).alloc (by have := hb.out.size; simp; omega) _⟩
set_option maxHeartbeats 4000000 in
theorem rfields_c (h : RefH w b n H ms FM mb c M R) (i : Int) :
    Calls Tryz.prog 76 #[.pointer (some ⟨b, 0, none⟩), .int .i64 i] w fun e w' => e = .returned (.int .i64 (fldI H i)) ∧ Below w.heap.size w w' := by
  have P := Lib.hid (rat_c h i)
  obtain ⟨⟨pa, pc⟩, hp⟩ : ∃ p, p = atP H.T i := ⟨_, rfl⟩
  have ef : fldI H i = if hasT H.T i then ((fsI H i).length : Int) else -1 := by
    unfold fldI fsI
    cases hasT H.T i <;> rfl
  rw [ef]
  clear ef
  rw [← hp] at P
  clear h hp
  generalize fsI H i = fs at *
  unfold plV at P
  cases hh : hasT H.T i <;>
  · rw [hh] at P
    generalize (H.C (pa, pc)).1 = c1 at *
    go_enter Tryz.func76, Tryz.ntmps76
    go_wp2_with fail
    refine P.out.mono ?_
    clear P
    rintro e w1 ⟨u, he, hs, hr, hb⟩
    obtain ⟨ua, uc, rfl⟩ := hs.form
    subst he
    replace hb := Lib.hid hb
    replace hs := Lib.hid hs
    clear hr
    go_wp2
    go_ret
    exact ⟨rfl, (hb.out.alloc hb.out.size _).alloc (by have := hb.out.size; simp; omega) _⟩
set_option maxHeartbeats 4000000 in
theorem rget_c (h : RefH w b n H ms FM mb c M R) (i j : Int) :
    Calls Tryz.prog 77 #[.pointer (some ⟨b, 0, none⟩), .int .i64 i, .int .i64 j] w fun e w' => e = .returned (.tuple #[.int .u32 (getV H i j), .bool (getB H i j)]) ∧ Below w.heap.size w w' := by
  have P := Lib.hid (rat_c h i)
  obtain ⟨⟨pa, pc⟩, hp⟩ : ∃ p, p = atP H.T i := ⟨_, rfl⟩
  rw [← hp] at P
  have hf : hasT H.T i = false → fsI H i = [] := fun hh => by unfold fsI; rw [hh]; rfl
  unfold getV getB
  clear h hp
  unfold plV at P
  generalize fsI H i = fs at *
  generalize (H.C (pa, pc)).1 = c1 at *
  cases hh : hasT H.T i with
  | false =>
    rw [hh] at P
    rw [hf hh] at P ⊢
    rw [if_neg (by simp <;> omega), decide_eq_false (by simp <;> omega)]
    clear hf
    go_enter Tryz.func77, Tryz.ntmps77
    go_wp2_with fail
    refine P.out.mono ?_
    clear P
    rintro e w1 ⟨u, he, hs, hr, hb⟩
    obtain ⟨ua, uc, rfl⟩ := hs.form
    subst he
    replace hb := Lib.hid hb
    replace hs := Lib.hid hs
    clear hr
    go_wp2
    go_ret2
    exact ⟨rfl, (hb.out.alloc hb.out.size _).alloc (by have := hb.out.size; simp; omega) _⟩
  | true =>
    rw [hh] at P
    clear hf
    by_cases hj : 0 ≤ j
    · by_cases hl : j < fs.length
      · rw [if_pos ⟨hj, hl⟩, decide_eq_true ⟨hj, hl⟩]
        obtain ⟨k, rfl⟩ : ∃ k : Nat, j = k := ⟨j.toNat, by omega⟩
        have hk : k < fs.length := by omega
        have hx : fs[k]? = some (fs.getD k 0) := by simp [List.getD, hk]
        rw [show ((k : Int)).toNat = k by simp]
        generalize fs.getD k 0 = x at *
        have d1 : decide ((k : Int) < 0) = false := by simp
        have d2 : decide ((k : Int) ≥ (fs.length : Int)) = false := by simp; omega
        have d3 : decide ((fs.length : Int) ≤ (k : Int)) = false := by simp; omega
        go_enter Tryz.func77, Tryz.ntmps77
        go_wp2_with fail
        refine P.out.mono ?_
        clear P
        rintro e w1 ⟨u, he, hs, hr, hb⟩
        rcases hs.cases with ⟨rfl, e0⟩ | ⟨g, cap, rfl, g1, g2, g3, g4⟩
        · subst e0; simp at hk
        have hc := wrow_cell g4 hx
        subst he
        replace hb := Lib.hid hb
        clear hr hs g4 g1 g2 hx
        go_wp2
        go_ret2
        exact ⟨rfl, (hb.out.alloc hb.out.size _).alloc (by have := hb.out.size; simp; omega) _⟩
      · rw [if_neg (fun e => hl e.2), decide_eq_false (fun e => hl e.2)]
        have d1 : decide (j < 0) = false := by simp; omega
        have d2 : decide (j ≥ (fs.length : Int)) = true := by simp; omega
        have d3 : decide ((fs.length : Int) ≤ j) = true := by simp; omega
        go_enter Tryz.func77, Tryz.ntmps77
        go_wp2_with fail
        refine P.out.mono ?_
        clear P
        rintro e w1 ⟨u, he, hs, hr, hb⟩
        obtain ⟨ua, uc, rfl⟩ := hs.form
        subst he
        replace hb := Lib.hid hb
        replace hs := Lib.hid hs
        clear hr
        go_wp2
        go_ret2
        exact ⟨rfl, (hb.out.alloc hb.out.size _).alloc (by have := hb.out.size; simp; omega) _⟩
    · rw [if_neg (fun e => hj e.1), decide_eq_false (fun e => hj e.1)]
      have d1 : decide (j < 0) = true := by simp; omega
      go_enter Tryz.func77, Tryz.ntmps77
      go_wp2_with fail
      refine P.out.mono ?_
      clear P
      rintro e w1 ⟨u, he, hs, hr, hb⟩
      obtain ⟨ua, uc, rfl⟩ := hs.form
      subst he
      replace hb := Lib.hid hb
      replace hs := Lib.hid hs
      clear hr
      go_wp2
      go_ret2
      exact ⟨rfl, (hb.out.alloc hb.out.size _).alloc (by have := hb.out.size; simp; omega) _⟩
/-- where an identity that is there lies -/
theorem HInv.where_ (h : HInv n H) {i : Int} (hh : hasT H.T i = true) : ∃ (s : Nat) (q : Int), s < 5 ∧ atP H.T i = ((s : Int), q) ∧ plOk ((s : Int), q) := by
  obtain ⟨k, p, rfl, h4, hk, hp, e⟩ := h.has hh
  obtain ⟨s, h1, h2, h3, h4, _⟩ := h.pl k p hp
  have hok := (h.inv.bd k p hp).2.2
  obtain ⟨pa, pc⟩ := p
  simp only at h2
  subst h2
  exact ⟨s, pc, h1, e, hok⟩
set_option maxHeartbeats 4000000 in
set_option maxRecDepth 20000 in
theorem rcolorh_c (h : RefH w b n H ms FM mb c M R) (i : Int) :
    Calls Tryz.prog 59 #[.pointer (some ⟨b, 0, none⟩), .int .i64 i] w fun e w' => e = .returned (.int .i64 (colI H i)) ∧ Below w.heap.size w w' := by
  have P := Lib.hid (rat_c h i)
  unfold colI
  cases hh : hasT H.T i with
  | false =>
    obtain ⟨⟨pa, pc⟩, hp⟩ : ∃ p, p = atP H.T i := ⟨_, rfl⟩
    rw [hh, ← hp] at P
    clear h hp
    unfold plV at P
    go_enter Tryz.func59, Tryz.ntmps59
    go_wp2_with fail
    refine P.out.mono ?_
    clear P
    rintro e w1 ⟨u, he, hs, hr, hb⟩
    obtain ⟨ua, uc, rfl⟩ := hs.form
    subst he
    replace hb := Lib.hid hb
    replace hs := Lib.hid hs
    clear hr
    go_wp2
    go_ret
    exact ⟨rfl, (hb.out.alloc hb.out.size _).alloc (by have := hb.out.size; simp; omega) _⟩
  | true =>
    obtain ⟨s, q, hs5, hp, hok⟩ := h.inv.where_ hh
    rw [hh, hp] at P
    rw [hp]
    unfold plV at P
    unfold colP szP
    simp only at P ⊢
    rw [show ((s : Int)).toNat = s by simp]
    generalize (H.C ((s : Int), q)).1 = c1 at *
    replace h := Lib.hid h
    go_enter Tryz.func59, Tryz.ntmps59
    go_wp2_with fail
    refine P.out.mono ?_
    clear P
    rintro e w1 ⟨u, he, hs, hr, hb⟩
    obtain ⟨ua, uc, rfl⟩ := hs.form
    subst he
    have h1 := h.out.keep hb
    have cm := h1.mill hs5
    have hB : Below w.heap.size w ((w1.alloc (.cells #[.int .i64 c1, .slice ua (fsI H i).length uc] 90)).alloc (.cells #[.int .i64 s, .int .i64 q] 71)) := (hb.alloc hb.size _).alloc (by have := hb.size; simp; omega) _
    have Q := Lib.hid (fun (W : World) (hW : Below w.heap.size w W) => qcolor ((h.out.keep hW).ml s hs5) (h.out.inv.hl hs5) q)
    replace hb := Lib.hid hb
    replace hB := Lib.hid hB
    have hbs := h1.tbl.lt
    have hs5' : (s : Int) < 5 := by omega
    clear hr hs h1
    have q0 : ((w1.alloc (.cells #[.int .i64 c1, .slice ua (fsI H i).length uc] 90)).alloc (.cells #[.int .i64 s, .int .i64 q] 71)).cell? ⟨w1.heap.size + 1, 0, none⟩ = some (.int .i64 s) := by simp
    have q1 : ((w1.alloc (.cells #[.int .i64 c1, .slice ua (fsI H i).length uc] 90)).alloc (.cells #[.int .i64 s, .int .i64 q] 71)).cell? ⟨w1.heap.size + 1, 1, none⟩ = some (.int .i64 q) := by simp
    have cm2 := (h.out.keep hB.out).mill hs5
    clear h cm hbs
    go_wp2
    generalize ((w1.alloc (.cells #[.int .i64 c1, .slice ua (fsI H i).length uc] 90)).alloc (.cells #[.int .i64 s, .int .i64 q] 71)) = w2 at *
    refine wp_region_still_lit (by kernel_rfl) (by kernel_rfl) ?_
    iterate 9 still_step
    still_call (Q.out _ hB.out.drew)
    still_step
    refine wpStill_nil ?_
    change Exit.then _ _ Exit.normal _ (World.drew _)
    go_wp2
    go_ret
    exact ⟨rfl, hB.out.drew⟩
end
end Wd
end Go.Proofs.YtdaojohdmidemaaGreat

/- The document's own memory: Shade, Done. -/
namespace Go.Proofs.YtdaojohdmidemaaGreat
open Go.RowKit Go.Maps
set_option linter.unusedVariables false
namespace Wd
def upF (FM : Nat → Nat → Prop) (s : Nat) (F' : Nat → Prop) : Nat → Nat → Prop := fun j => if j = s then F' else FM j
section
variable {w w' : World} {b : Nat} {n : Nat → Nat} {H : Hst} {ms : Nat → Nat} {FM : Nat → Nat → Prop} {mb c : Nat} {M : Pl → Option Value} {R F : Nat → Prop}
/-- one mill does something -/
theorem RefP.mstep (h : RefP w b n H ms FM mb c M R) {s : Nat} (hs : s < 5) {A' : Mst} {F' : Nat → Prop} (hq : QM w' (ms s) A' F') (hc : Ch (fun g => g = ms s) w w') (hn : Newer (FM s) F' w.heap.size) :
    RefP w' b n { H with M := upM H.M s A' } ms (upF FM s F') mb c M R ∧ Ch (FH b FM mb R) w w' ∧ Newer (FH b FM mb R) (FH b (upF FM s F') mb R) w.heap.size := by
  have hlt := h.lt
  have hms : FM s (ms s) := (h.ml s hs).at_
  have e1 : ∀ g, g < w.heap.size → g ≠ ms s → w'.heap[g]? = w.heap[g]? := fun g h1 h2 => hc.block g h1 h2
  have nb : b ≠ ms s := fun e => h.a1 s hs (e ▸ hms)
  have nm : mb ≠ ms s := fun e => h.a5 s hs (e ▸ hms)
  have nR : ∀ g, R g → g ≠ ms s := fun g hg e => h.a6 s hs (ms s) hms (e ▸ hg)
  have nF : ∀ t, t < 5 → t ≠ s → ∀ g, FM t g → g ≠ ms s := fun t ht hts g hg e => h.a4 t s ht hs hts g hg (e ▸ hms)
  have hF' : ∀ g, F' g → FM s g ∨ w.heap.size ≤ g := hn
  refine ⟨⟨?_, fun t ht => ?_, h.mp.same (e1 mb h.mp.lt nm), h.cm.same hc.size (fun g hg => e1 g (h.cm.lt g hg) (nR g hg)), h.keys, h.dom, fun t ht => ?_, h.a2, h.a3, fun t u ht hu htu g => ?_, fun t ht => ?_, fun t ht g => ?_, h.a7⟩, ⟨hc.os, hc.tape, hc.output, hc.size, fun g h1 h2 => e1 g h1 (fun e => h2 (Or.inr (Or.inl ⟨s, hs, e ▸ hms⟩)))⟩, ?_⟩
  · exact h.tbl.same (e1 b h.tbl.lt nb)
  · unfold upF upM
    by_cases e : t = s
    · subst e; simp only [if_true]; exact hq
    · simp only [if_neg e]
      exact (h.ml t ht).same (fun g hg => e1 g ((h.ml t ht).lt g hg) (nF t ht e g hg))
  · unfold upF
    split
    · intro hb
      rcases hF' b hb with h1 | h1
      · exact h.a1 s hs h1
      · have := h.tbl.lt; omega
    · exact h.a1 t ht
  · unfold upF
    intro h1 h2
    split at h1
    · rename_i e
      rw [if_neg (by omega)] at h2
      rcases hF' g h1 with h3 | h3
      · exact h.a4 s u hs hu (by omega) g h3 h2
      · have := (h.ml u hu).lt g h2; omega
    · rename_i e
      split at h2
      · rename_i e2
        rcases hF' g h2 with h3 | h3
        · exact h.a4 t s ht hs e g h1 h3
        · have := (h.ml t ht).lt g h1; omega
      · exact h.a4 t u ht hu htu g h1 h2
  · unfold upF
    split
    · intro hb
      rcases hF' mb hb with h1 | h1
      · exact h.a5 s hs h1
      · have := h.mp.lt; omega
    · exact h.a5 t ht
  · unfold upF
    split
    · intro h1 h2
      rcases hF' g h1 with h3 | h3
      · exact h.a6 s hs g h3 h2
      · have := h.cm.lt g h2; omega
    · exact h.a6 t ht g
  · rintro g (h1 | ⟨t, ht, h1⟩ | h1 | h1)
    · exact Or.inl (Or.inl h1)
    · unfold upF at h1
      split at h1
      · rcases hF' g h1 with h3 | h3
        · exact Or.inl (Or.inr (Or.inl ⟨s, hs, h3⟩))
        · exact Or.inr h3
      · exact Or.inl (Or.inr (Or.inl ⟨t, ht, h1⟩))
    · exact Or.inl (Or.inr (Or.inr (Or.inl h1)))
    · exact Or.inl (Or.inr (Or.inr (Or.inr h1)))
theorem RefH.mstep (h : RefH w b n H ms FM mb c M R) {s : Nat} (hs : s < 5) {A' : Mst} {F' : Nat → Prop} (hq : QM w' (ms s) A' F') (hc : Ch (fun g => g = ms s) w w') (hn : Newer (FM s) F' w.heap.size) (hi : HInv n { H with M := upM H.M s A' }) :
    RefH w' b n { H with M := upM H.M s A' } ms (upF FM s F') mb c M R ∧ Ch (FH b FM mb R) w w' ∧ Newer (FH b FM mb R) (FH b (upF FM s F') mb R) w.heap.size :=
  ⟨⟨(h.toRefP.mstep hs hq hc hn).1, hi⟩, (h.toRefP.mstep hs hq hc hn).2⟩
end
/-- the document's own memory at block b, of n cells; it lies in the blocks F -/
def RA9 (w : World) (b : Nat) (n : Nat → Nat) (H : Hst) (F : Nat → Prop) : Prop := ∃ ms FM mb c M R, F = FH b FM mb R ∧ RefH w b n H ms FM mb c M R
section
variable {w w' : World} {b : Nat} {n : Nat → Nat} {H : Hst} {F : Nat → Prop}
theorem RA9.lt (h : RA9 w b n H F) : ∀ g, F g → g < w.heap.size := by
  obtain ⟨ms, FM, mb, c, M, R, rfl, h⟩ := h
  exact h.lt
theorem RA9.same (h : RA9 w b n H F) (hs : w.heap.size ≤ w'.heap.size) (hk : ∀ g, F g → w'.heap[g]? = w.heap[g]?) : RA9 w' b n H F := by
  obtain ⟨ms, FM, mb, c, M, R, rfl, h⟩ := h
  exact ⟨ms, FM, mb, c, M, R, rfl, h.same hs hk⟩
theorem RA9.keep (h : RA9 w b n H F) (g : Below w.heap.size w w') : RA9 w' b n H F := h.same g.size (fun k hk => g.block k (h.lt k hk))
theorem RA9.inv (h : RA9 w b n H F) : HInv n H := by
  obtain ⟨ms, FM, mb, c, M, R, rfl, h⟩ := h
  exact h.inv
theorem newer_refl9 (F : Nat → Prop) (s : Nat) : Newer F F s := fun _ h => Or.inl h
theorem Newer.trans {F F' F'' : Nat → Prop} {s t : Nat} (h : Newer F F' s) (g : Newer F' F'' t) (hst : s ≤ t) : Newer F F'' s := fun k hk => by
  rcases g k hk with h1 | h1
  · exact h k h1
  · exact Or.inr (Nat.le_trans hst h1)
theorem Ch.then_ {F F' : Nat → Prop} {w w1 w2 : World} (h : Ch F w w1) (g : Ch F' w1 w2) (hn : Newer F F' w.heap.size) : Ch F w w2 :=
  ⟨g.os.trans h.os, g.tape.trans h.tape, g.output.trans h.output, Nat.le_trans h.size g.size, fun k hk hF => (g.block k (Nat.lt_of_lt_of_le hk h.size) (fun hF' => by
    rcases hn k hF' with h1 | h1
    · exact hF h1
    · omega)).trans (h.block k hk hF)⟩
set_option maxHeartbeats 4000000 in
set_option maxRecDepth 20000 in
theorem rshade_r {ms : Nat → Nat} {FM : Nat → Nat → Prop} {mb c : Nat} {M : Pl → Option Value} {R : Nat → Prop} (h : RefH w b n H ms FM mb c M R) (x : Int) (x0 : 0 ≤ x) (x1 : x ≤ 4294967295) :
    Calls Tryz.prog 56 #[.pointer (some ⟨b, 0, none⟩), .int .u32 x] w fun e w' => ∃ FM', e = .returned (.tuple #[]) ∧ RefH w' b n (shW H x) ms FM' mb c M R ∧ Ch (FH b FM mb R) w w' ∧ Newer (FH b FM mb R) (FH b FM' mb R) w.heap.size := by
  have P := Lib.hid (rid_c x x0 x1)
  cases hx : isOp x with
  | false =>
    have e : shW H x = H := by unfold shW; rw [hx]; rfl
    have e2 : idW x = 0 := by unfold idW; rw [hx]; rfl
    rw [e]
    rw [hx, e2] at P
    replace h := Lib.hid h
    clear e e2
    go_enter Tryz.func56, Tryz.ntmps56
    go_wp2_with (first | (go_at_call 13; ((with_reducible refine (P.out _).mono ?_); rintro e w1 ⟨rfl, hw1⟩; subst w1)))
    go_end0
    exact ⟨_, rfl, h.out, Ch.refl _ _, newer_refl9 _ _⟩
  | true =>
    have e : shW H x = shI H (x / 2) := by unfold shW; rw [hx]; rfl
    have e2 : idW x = x / 2 := by unfold idW; rw [hx]; rfl
    rw [e]
    rw [hx, e2] at P
    clear e e2
    obtain ⟨i, hi⟩ : ∃ i, x / 2 = i := ⟨_, rfl⟩
    rw [hi] at P ⊢
    have i1 : -9223372036854775808 ≤ i ∧ i ≤ 9223372036854775807 := by omega
    clear hi
    cases hh : hasT H.T i with
    | false =>
      have e : shI H i = H := by unfold shI; rw [hh]; rfl
      rw [e]
      have P2 := Lib.hid (rhas_c i h.tbl)
      rw [hh] at P2
      replace h := Lib.hid h
      clear e
      go_enter Tryz.func56, Tryz.ntmps56
      go_wp2_with (first | (go_at_call 13; ((with_reducible refine (P.out _).mono ?_); rintro e w1 ⟨rfl, hw1⟩; subst w1)) | (go_at_call 94; ((with_reducible refine (P2.out).mono ?_); rintro e w1 ⟨rfl, hw1⟩; subst w1)))
      go_end0
      exact ⟨_, rfl, h.out, Ch.refl _ _, newer_refl9 _ _⟩
    | true =>
      obtain ⟨s, q, hs5, hp, hok⟩ := h.inv.where_ hh
      have e : shI H i = { H with M := upM H.M s (shadeA (H.M s) q) } := by
        unfold shI sh szP
        rw [if_pos hh, hp]
        simp
      have hi : HInv n { H with M := upM H.M s (shadeA (H.M s) q) } := by rw [← e]; exact h.inv.shI i
      rw [e]
      obtain ⟨k, rfl, hk, _, p, hT⟩ := hasT_some hh
      have ep := (atP_at hT hk).1
      rw [hp] at ep
      subst ep
      have P2 := Lib.hid (rhas_c k h.tbl)
      rw [hh] at P2
      have cs := h.tbl.cs k hk
      have cl := h.tbl.cl k hk
      unfold szR at cs
      unfold clR at cl
      rw [hT] at cs cl
      simp only [Option.getD_some] at cs cl
      have hk1 : (k : Int) < 1024 := by omega
      have hs5' : (s : Int) < 5 := by omega
      obtain ⟨w2, hw2⟩ : ∃ w2, w2 = w.alloc (.cells #[.int .i64 s, .int .i64 q] 71) := ⟨_, rfl⟩
      have hB : Below w.heap.size w w2.drew := by rw [hw2]; exact ((Below.refl _ _).alloc (Nat.le_refl _) _).drew
      have h2 := h.keep hB
      have q0 : w2.cell? ⟨w.heap.size, 0, none⟩ = some (.int .i64 s) := by rw [hw2]; simp
      have q1 : w2.cell? ⟨w.heap.size, 1, none⟩ = some (.int .i64 q) := by rw [hw2]; simp
      have cm : w2.cell? ⟨b, 3072 + s, none⟩ = some (.pointer (some ⟨ms s, 0, none⟩)) := h2.mill hs5
      have Q := Lib.hid (qshade (h2.ml s hs5) (h.inv.hl hs5) q)
      replace h2 := Lib.hid h2
      replace hB := Lib.hid hB
      replace hi := Lib.hid hi
      clear h e hT hp hh
      go_enter Tryz.func56, Tryz.ntmps56
      go_wp2_with (first | (go_at_call 13; ((with_reducible refine (P.out _).mono ?_); rintro e w1 ⟨rfl, hw1⟩; subst w1)) | (go_at_call 94; ((with_reducible refine (P2.out).mono ?_); rintro e w1 ⟨rfl, hw1⟩; subst w1)))
      rw [← hw2]
      clear P P2 cs cl hw2
      refine wp_region_still_tail 9 (by kernel_rfl) (by kernel_rfl) ?_
      simp only [List.take_succ_cons, List.take_zero, List.drop_succ_cons, List.drop_zero]
      iterate 9 still_step
      refine wpStill_nil ?_
      change wpList _ _ _ _ _ w2.drew
      clear q0 q1 cm
      go_wp2_with (first | (go_at_call 95; ((with_reducible refine (Q.out).mono ?_); rintro e w3 ⟨F', he, d1, d2, d3⟩; subst he)))
      go_end0
      obtain ⟨a1, a2, a3⟩ := h2.out.mstep hs5 d1 d2 d3 hi.out
      have hsz := hB.out.size
      exact ⟨_, rfl, a1, (below_toCh _ hB.out).trans a2, fun g hg => by
        rcases a3 g hg with h1 | h1
        · exact Or.inl h1
        · exact Or.inr (Nat.le_trans hsz h1)⟩
theorem rshadeh_c (h : RA9 w b n H F) (x : Int) (x0 : 0 ≤ x) (x1 : x ≤ 4294967295) :
    Calls Tryz.prog 56 #[.pointer (some ⟨b, 0, none⟩), .int .u32 x] w fun e w' => ∃ F', e = .returned (.tuple #[]) ∧ RA9 w' b n (shW H x) F' ∧ Ch F w w' ∧ Newer F F' w.heap.size := by
  obtain ⟨ms, FM, mb, c, M, R, rfl, h⟩ := h
  refine (rshade_r h x x0 x1).mono ?_
  rintro e w' ⟨FM', rfl, h1, h2, h3⟩
  exact ⟨_, rfl, ⟨ms, FM', mb, c, M, R, rfl, h1⟩, h2, h3⟩
end
end Wd
end Go.Proofs.YtdaojohdmidemaaGreat

/- The document's own memory: Hold, Done, Swap. -/
namespace Go.Proofs.YtdaojohdmidemaaGreat
open Go.RowKit Go.Maps
set_option linter.unusedVariables false
namespace Wd
section
variable {w w' : World} {b : Nat} {n : Nat → Nat} {H : Hst} {F : Nat → Prop}
/-- so far the first k are held -/
structure HSt9 (w : World) (b : Nat) (n : Nat → Nat) (H : Hst) (F : Nat → Prop) (l : List Int) (k : Nat) (wr : World) (F' : Nat → Prop) : Prop where
  ra : RA9 wr b n (holdH H (l.take k)) F'
  ch : Ch F w wr
  nw : Newer F F' w.heap.size
theorem hold_take {H : Hst} {l : List Int} {k : Nat} {x : Int} (hx : l[k]? = some x) : holdH H (l.take (k + 1)) = shW (holdH H (l.take k)) x := by
  rw [List.take_add_one, hx]
  unfold holdH
  rw [List.foldl_append]; rfl
set_option maxHeartbeats 4000000 in
set_option maxRecDepth 20000 in
theorem rholdh_c (h : RA9 w b n H F) {u : Value} {l : List Int} (hu : SW w u l) (hx : ∀ x ∈ l, 0 ≤ x ∧ x ≤ 4294967295) (hap : ∀ g, u.ownBlock = some g → ¬ F g) :
    Calls Tryz.prog 20 #[.pointer (some ⟨b, 0, none⟩), u] w fun e w' => ∃ F', e = .returned (.tuple #[]) ∧ RA9 w' b n (holdH H l) F' ∧ Ch F w w' ∧ Newer F F' w.heap.size := by
  have S0 : HSt9 w b n H F l 0 w F := ⟨h, Ch.refl _ _, newer_refl9 _ _⟩
  replace S0 := Lib.hid S0
  rcases hu.cases with ⟨rfl, rfl⟩ | ⟨g, cap, rfl, h1, h2, hg, hrow⟩
  · clear hu hx hap h
    go_enter Tryz.func20, Tryz.ntmps20
    go_wp2
    refine wp_loop_rounds 1 ?_
    rw [rounds_succ]
    go_wp2
    go_end0
    exact ⟨_, rfl, S0.out.ra, S0.out.ch, S0.out.nw⟩
  · have hng := hap g rfl
    have hmx : maxLen ≤ 9223372036854775807 := by decide
    replace hx := Lib.hid hx
    replace hrow := Lib.hid hrow
    clear hu hap h
    have hL : l.length ≤ 9223372036854775807 := by omega
    go_enter Tryz.func20, Tryz.ntmps20
    go_wp2
    go_loopw [8] (fun i wr => ∃ k : Nat, k ≤ l.length ∧ i = .int .i64 k ∧ ∃ F', HSt9 w b n H F l k wr F') (fun i _ => l.length - (intOf i).toNat)
    case atStart => exact ⟨0, by omega, rfl, F, S0.out⟩
    case round =>
      obtain ⟨k, hk, rfl, F', hR⟩ := hrel
      by_cases hlt : k < l.length
      · have hlt' : decide ((k : Int) < (l.length : Int)) = true := by simp; omega
        have hw : IntKind.i64.wrap ((k : Int) + 1) = (k : Int) + 1 := by rw [IntKind.wrap_i64]; omega
        obtain ⟨x, hxk⟩ : ∃ x, l[k]? = some x := ⟨l[k], by simp [hlt]⟩
        have hc : wr.cell? ⟨g, k, none⟩ = some (.int .u32 x) := (World.cell?_of_block (a := ⟨g, k, none⟩) (hR.ch.block g hg hng)).trans (wrow_cell hrow.out hxk)
        have hb := hx.out x (List.mem_of_getElem? hxk)
        have P := Lib.hid (rshadeh_c hR.ra x hb.1 hb.2)
        rw [← hold_take hxk] at P
        replace hR := Lib.hid hR
        clear hxk hb
        go_wp2_with (first | (go_at_call 56; ((with_reducible refine (P.out).mono ?_); rintro e w3 ⟨F3, he, d1, d2, d3⟩; subst he)))
        have hN : HSt9 w b n H F l (k + 1) w3 F3 := ⟨d1, hR.out.ch.then_ d2 hR.out.nw, Newer.trans hR.out.nw d3 hR.out.ch.size⟩
        replace hN := Lib.hid hN
        clear d1 d2 d3 hR P hc
        go_roundw
        case rel => exact ⟨k + 1, by omega, by go_num, F3, hN.out⟩
        case measure => simp [intOf]; omega
      · have e : k = l.length := by omega
        subst e
        replace hR := Lib.hid hR
        go_wp2
        go_end0
        have := hR.out.ra
        rw [List.take_length] at this
        exact ⟨_, rfl, this, hR.out.ch, hR.out.nw⟩
/-- the array of a memory's mills, as it is read -/
def msV (ms : Nat → Nat) : Value := .agg #[.pointer (some ⟨ms 0, 0, none⟩), .pointer (some ⟨ms 1, 0, none⟩), .pointer (some ⟨ms 2, 0, none⟩), .pointer (some ⟨ms 3, 0, none⟩), .pointer (some ⟨ms 4, 0, none⟩)]
theorem index_ms (ms : Nat → Nat) {s : Nat} (hs : s < 5) (w : World) : (Instr.index 76 (.agg #[.pointer (some ⟨ms 0, 0, none⟩), .pointer (some ⟨ms 1, 0, none⟩), .pointer (some ⟨ms 2, 0, none⟩), .pointer (some ⟨ms 3, 0, none⟩), .pointer (some ⟨ms 4, 0, none⟩)]) (.int .i64 (s : Int))).run Tryz.prog w = .ok (.pointer (some ⟨ms s, 0, none⟩)) w := by
  rcases (show s = 0 ∨ s = 1 ∨ s = 2 ∨ s = 3 ∨ s = 4 by omega) with rfl | rfl | rfl | rfl | rfl <;> kernel_rfl
theorem QM.row2 {w : World} {m : Nat} {A : Mst} {F : Nat → Prop} (h : QM w m A F) {k : Nat} (hk : k < 4) : ∃ a c, w.cell? ⟨m, k, none⟩ = some (.slice a (A k).length c) := by
  obtain ⟨V, rfl, h⟩ := h
  obtain ⟨a, c, e⟩ := (h.own k hk).form
  exact ⟨a, c, by rw [h.c k hk, e]⟩
theorem all_step {P : Nat → Bool} {k : Nat} : (List.range k).all P = true ↔ ∀ j, j < k → P j = true := by
  rw [List.all_eq_true]
  exact ⟨fun h j hj => h j (List.mem_range.2 hj), fun h j hj => h j (List.mem_range.1 hj)⟩
/-- so far no grey one -/
structure DSt9 (w : World) (H : Hst) (k : Nat) (wr : World) : Prop where
  eq : wr = w
  em : ∀ j, j < k → H.M j 2 = []
set_option maxHeartbeats 4000000 in
set_option maxRecDepth 20000 in
theorem rdone_c (h : RA9 w b n H F) :
    Calls Tryz.prog 65 #[.pointer (some ⟨b, 0, none⟩)] w fun e w' => e = .returned (.bool (doneB H)) ∧ w' = w := by
  obtain ⟨ms, FM, mb, c, M, R, rfl, h⟩ := h
  have m0 : w.cell? ⟨b, 3072, none⟩ = some (.pointer (some ⟨ms 0, 0, none⟩)) := h.mill (s := 0) (by omega)
  have m1 : w.cell? ⟨b, 3073, none⟩ = some (.pointer (some ⟨ms 1, 0, none⟩)) := h.mill (s := 1) (by omega)
  have m2 : w.cell? ⟨b, 3074, none⟩ = some (.pointer (some ⟨ms 2, 0, none⟩)) := h.mill (s := 2) (by omega)
  have m3 : w.cell? ⟨b, 3075, none⟩ = some (.pointer (some ⟨ms 3, 0, none⟩)) := h.mill (s := 3) (by omega)
  have m4 : w.cell? ⟨b, 3076, none⟩ = some (.pointer (some ⟨ms 4, 0, none⟩)) := h.mill (s := 4) (by omega)
  replace h := Lib.hid h
  go_enter Tryz.func65, Tryz.ntmps65
  go_wp2
  clear m0 m1 m2 m3 m4
  go_loopw [9] (fun i wr => ∃ k : Nat, k ≤ 5 ∧ i = .int .i64 k ∧ DSt9 w H k wr) (fun i _ => 5 - (intOf i).toNat)
  case atStart => exact ⟨0, by omega, rfl, rfl, fun j hj => by omega⟩
  case round =>
    obtain ⟨k, hk, rfl, rfl, hem⟩ := hrel
    by_cases hlt : k < 5
    · have hlt' : decide ((k : Int) < 5) = true := by simp; omega
      have hw : IntKind.i64.wrap ((k : Int) + 1) = (k : Int) + 1 := by rw [IntKind.wrap_i64]; omega
      have hix := index_ms ms hlt wr
      obtain ⟨a2, c2, hc⟩ := (h.out.ml k hlt).row2 (k := 2) (by omega)
      by_cases h0 : H.M k 2 = []
      · rw [h0] at hc
        have hc' : wr.cell? ⟨ms k, 2, none⟩ = some (.slice a2 0 c2) := hc
        have hN : DSt9 wr H (k + 1) wr := ⟨rfl, fun j hj => by
          by_cases e : j = k
          · subst e; exact h0
          · exact hem j (by omega)⟩
        replace hN := Lib.hid hN
        replace hem := Lib.hid hem
        clear h0 hc
        go_wp2
        go_roundw
        case rel => exact ⟨k + 1, by omega, by go_num, hN.out⟩
        case measure => simp [intOf]; omega
      · have hl : 0 < (H.M k 2).length := List.length_pos_iff.2 h0
        have d1 : decide (((H.M k 2).length : Int) > 0) = true := by simp; omega
        have d2 : decide (0 < ((H.M k 2).length : Int)) = true := by simp; omega
        have e : doneB H = false := by
          cases hd : doneB H with
          | false => rfl
          | true => exact absurd (done_of hd k hlt) h0
        replace hem := Lib.hid hem
        replace e := Lib.hid e
        clear h0
        go_wp2
        go_ret
        exact ⟨by rw [e.out]; rfl, rfl⟩
    · have e : k = 5 := by omega
      subst e
      have e : doneB H = true := by
        unfold doneB
        rw [all_step]
        intro j hj
        rw [hem j hj]; rfl
      replace e := Lib.hid e
      clear hem
      go_wp2
      go_ret
      exact ⟨by rw [e.out]; rfl, rfl⟩
variable {ms : Nat → Nat} {FM : Nat → Nat → Prop} {mb c : Nat} {M : Pl → Option Value} {R : Nat → Prop}
/-- the table does something -/
theorem RefP.tstep (h : RefP w b n H ms FM mb c M R) {T' : Tst} (ht : RefT (extX ms mb) w' b T') (hc : Ch (fun g => g = b) w w') :
    RefP w' b n { H with T := T' } ms FM mb c M R ∧ Ch (FH b FM mb R) w w' := by
  have e1 : ∀ g, g < w.heap.size → g ≠ b → w'.heap[g]? = w.heap[g]? := fun g h1 h2 => hc.block g h1 h2
  refine ⟨⟨ht, fun s hs => (h.ml s hs).same (fun g hg => e1 g ((h.ml s hs).lt g hg) (fun e => h.a1 s hs (e ▸ hg))), h.mp.same (e1 mb h.mp.lt h.a2), h.cm.same hc.size (fun g hg => e1 g (h.cm.lt g hg) (fun e => h.a3 (e ▸ hg))), h.keys, h.dom, h.a1, h.a2, h.a3, h.a4, h.a5, h.a6, h.a7⟩, ⟨hc.os, hc.tape, hc.output, hc.size, fun g h1 h2 => e1 g h1 (fun e => h2 (Or.inl e))⟩⟩
theorem RefH.tstep (h : RefH w b n H ms FM mb c M R) {T' : Tst} (ht : RefT (extX ms mb) w' b T') (hc : Ch (fun g => g = b) w w') (hi : HInv n { H with T := T' }) :
    RefH w' b n { H with T := T' } ms FM mb c M R ∧ Ch (FH b FM mb R) w w' :=
  ⟨⟨(h.toRefP.tstep ht hc).1, hi⟩, (h.toRefP.tstep ht hc).2⟩
theorem shW_oop {H : Hst} {a : Int} (h1 : 1 ≤ a) (h2 : a ≤ 2147483647) : shW H (oopW a) = shI H a := by
  have e : oopW a = 2 * a := by unfold oopW; rw [if_pos ⟨h1, h2⟩]
  have e2 : isOp (2 * a) = true := by unfold isOp; simp; omega
  unfold shW
  rw [e, if_pos e2, show 2 * a / 2 = a by omega]
theorem colI_bd {H : Hst} (i : Int) : -1 ≤ colI H i ∧ colI H i ≤ 3 := by
  unfold colI colP colorR
  repeat' split
  all_goals omega
set_option maxHeartbeats 8000000 in
set_option maxRecDepth 20000 in
theorem rswaph_c (h : RA9 w b n H F) (x y : Int) :
    Calls Tryz.prog 18 #[.pointer (some ⟨b, 0, none⟩), .int .i64 x, .int .i64 y] w fun e w' => ∃ F', e = .returned (.bool (swapB H.T x y)) ∧ RA9 w' b n (swapH H x y) F' ∧ Ch F w w' ∧ Newer F F' w.heap.size := by
  have hinv := h.inv
  obtain ⟨ms, FM, mb, c, M, R, rfl, h⟩ := h
  have P1 := Lib.hid (rcolorh_c h x)
  have P2 := Lib.hid (fun (W : World) (hW : Below w.heap.size w W) => rcolorh_c (h.keep hW) y)
  have P3 := Lib.hid (fun (W : World) (hW : Below w.heap.size w W) => rswap_c x y (h.keep hW).tbl)
  cases hb : swapB H.T x y with
  | false =>
    have e : swapH H x y = H := by unfold swapH; rw [hb]; rfl
    rw [e]
    clear e
    have es : swapT H.T x y = H.T := by unfold swapT; rw [hb]; rfl
    rw [hb, es] at P3
    replace h := Lib.hid h
    go_enter Tryz.func18, Tryz.ntmps18
    go_wp2_with fail
    refine P1.out.mono ?_
    rintro e w1 ⟨rfl, hb1⟩
    replace hb1 := Lib.hid hb1
    go_wp2_with fail
    refine (P2.out _ hb1.out).mono ?_
    rintro e w2 ⟨rfl, hb2⟩
    replace hb2 := Lib.hid (hb1.out.trans (hb2.mono hb1.out.size))
    go_wp2_with fail
    refine (P3.out _ hb2.out).mono ?_
    rintro e w3 ⟨rfl, d1, d2⟩
    obtain ⟨a1, a2⟩ := (h.out.keep hb2.out).tstep d1 d2 (by have := h.out.inv; exact this)
    replace a1 := Lib.hid a1
    replace a2 := Lib.hid a2
    clear d1 d2 P1 P2 P3
    go_wp2
    go_ret
    exact ⟨_, rfl, ⟨ms, FM, mb, c, M, R, rfl, a1.out⟩, (below_toCh _ hb2.out).trans a2.out, newer_refl9 _ _⟩
  | true =>
    obtain ⟨kx, ky, px, py, ex, ey, hx, hy, hTx, hTy, eT⟩ := swap_of hb
    have hpx := (hinv.inv.bd kx px hTx).1
    have hpy := (hinv.inv.bd ky py hTy).1
    rw [hb] at P3
    have hi := Lib.hid (hinv.swT hb)
    replace h := Lib.hid h
    replace hinv := Lib.hid hinv
    clear eT hTx hTy
    have bx : 1 ≤ x ∧ x ≤ 2147483647 := by omega
    have by' : 1 ≤ y ∧ y ≤ 2147483647 := by omega
    have eS : swapH H x y = if swN H x y then shW (shW (swT H x y) (oopW x)) (oopW y) else swT H x y := by
      unfold swapH
      rw [if_pos hb, shW_oop bx.1 bx.2, shW_oop by'.1 by'.2]
    rw [eS]
    clear ex ey hx hy hpx hpy eS
    have cx := colI_bd (H := H) x
    have cy := colI_bd (H := H) y
    obtain ⟨cc, hcc⟩ : ∃ cc, cc = swN H x y := ⟨_, rfl⟩
    have hcc' : cc = ((colI H x == 3) != (colI H y == 3)) := by
      have e : ∀ z : Int, (z == 3) = decide (z = 3) := fun z => by by_cases h : z = 3 <;> simp [h]
      rw [hcc, e, e]; rfl
    rw [← hcc]
    clear hcc
    generalize colI H x = vx at *
    generalize colI H y = vy at *
    go_enter Tryz.func18, Tryz.ntmps18
    go_wp2_with fail
    refine P1.out.mono ?_
    rintro e w1 ⟨rfl, hb1⟩
    replace hb1 := Lib.hid hb1
    go_wp2_with fail
    refine (P2.out _ hb1.out).mono ?_
    rintro e w2 ⟨rfl, hb2⟩
    replace hb2 := Lib.hid (hb1.out.trans (hb2.mono hb1.out.size))
    go_wp2_with fail
    refine (P3.out _ hb2.out).mono ?_
    rintro e w3 ⟨rfl, d1, d2⟩
    obtain ⟨a1, a2⟩ := (h.out.keep hb2.out).tstep d1 d2 hi.out
    have r1 : RA9 w3 b n (swT H x y) (FH b FM mb R) := ⟨ms, FM, mb, c, M, R, rfl, a1⟩
    have c1 : Ch (FH b FM mb R) w w3 := (below_toCh _ hb2.out).trans a2
    replace r1 := Lib.hid r1
    replace c1 := Lib.hid c1
    clear d1 d2 P1 P2 P3 a1 a2 hb1 hb2 h hi
    have ox := oopW_bd x
    have oy := oopW_bd y
    rcases (show ((vx == 3) = true ∧ (vy == 3) = true) ∨ ((vx == 3) = true ∧ (vy == 3) = false) ∨ ((vx == 3) = false ∧ (vy == 3) = true) ∨ ((vx == 3) = false ∧ (vy == 3) = false) by cases (vx == 3) <;> cases (vy == 3) <;> simp) with ⟨h1, h2⟩ | ⟨h1, h2⟩ | ⟨h1, h2⟩ | ⟨h1, h2⟩
    · rw [h1, h2] at hcc'
      subst hcc'
      go_wp2
      go_ret
      first | exact ⟨_, rfl, r1.out, c1.out, newer_refl9 _ _⟩ | exact ⟨rfl, _, r1.out, c1.out, newer_refl9 _ _⟩
    · rw [h1, h2] at hcc'
      subst hcc'
      go_wp2_with (first | (go_at_call 61; ((with_reducible refine (roop_c _ _).mono ?_); rintro e w4 ⟨rfl, hw4⟩; subst w4)))
      refine (rshadeh_c r1.out _ ox.1 ox.2).mono ?_
      rintro e w4 ⟨F4, rfl, e1, e2, e3⟩
      have r2 := Lib.hid e1
      have c2 := Lib.hid (c1.out.then_ e2 (newer_refl9 _ _))
      have n2 := Lib.hid (Newer.trans (newer_refl9 (FH b FM mb R) w.heap.size) e3 c1.out.size)
      clear e1 e2 e3 r1 c1
      go_wp2_with (first | (go_at_call 61; ((with_reducible refine (roop_c _ _).mono ?_); rintro e w5 ⟨rfl, hw5⟩; subst w5)))
      refine (rshadeh_c r2.out _ oy.1 oy.2).mono ?_
      rintro e w5 ⟨F5, rfl, e1, e2, e3⟩
      have r3 := Lib.hid e1
      have c3 := Lib.hid (c2.out.then_ e2 n2.out)
      have n3 := Lib.hid (Newer.trans n2.out e3 c2.out.size)
      clear e1 e2 e3
      go_wp2
      go_ret
      first | exact ⟨_, rfl, r3.out, c3.out, n3.out⟩ | exact ⟨rfl, _, r3.out, c3.out, n3.out⟩
    · rw [h1, h2] at hcc'
      subst hcc'
      go_wp2_with (first | (go_at_call 61; ((with_reducible refine (roop_c _ _).mono ?_); rintro e w4 ⟨rfl, hw4⟩; subst w4)))
      refine (rshadeh_c r1.out _ ox.1 ox.2).mono ?_
      rintro e w4 ⟨F4, rfl, e1, e2, e3⟩
      have r2 := Lib.hid e1
      have c2 := Lib.hid (c1.out.then_ e2 (newer_refl9 _ _))
      have n2 := Lib.hid (Newer.trans (newer_refl9 (FH b FM mb R) w.heap.size) e3 c1.out.size)
      clear e1 e2 e3 r1 c1
      go_wp2_with (first | (go_at_call 61; ((with_reducible refine (roop_c _ _).mono ?_); rintro e w5 ⟨rfl, hw5⟩; subst w5)))
      refine (rshadeh_c r2.out _ oy.1 oy.2).mono ?_
      rintro e w5 ⟨F5, rfl, e1, e2, e3⟩
      have r3 := Lib.hid e1
      have c3 := Lib.hid (c2.out.then_ e2 n2.out)
      have n3 := Lib.hid (Newer.trans n2.out e3 c2.out.size)
      clear e1 e2 e3
      go_wp2
      go_ret
      first | exact ⟨_, rfl, r3.out, c3.out, n3.out⟩ | exact ⟨rfl, _, r3.out, c3.out, n3.out⟩
    · rw [h1, h2] at hcc'
      subst hcc'
      go_wp2
      go_ret
      first | exact ⟨_, rfl, r1.out, c1.out, newer_refl9 _ _⟩ | exact ⟨rfl, _, r1.out, c1.out, newer_refl9 _ _⟩
end
end Wd
end Go.Proofs.YtdaojohdmidemaaGreat
