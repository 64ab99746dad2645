/- Texts joined: TMath, UBase, UOps, UNew, UPut, UKK, HPure, HLeaf, HPub, FLeaf, CRight, VBase, VLeaf, VCell. -/
import Derived.Test.YtdaojohdmidemaaRows
import Derived.Test.YtdaojohdmidemaaJ1
import Derived.Test.YtdaojohdmidemaaJ3
import Derived.Test.YtdaojohdmidemaaJ4
import Derived.Deep.MidRow
import Derived.Carry
import Derived.Laws.BitsAllLaws
import Derived.Laws.BitsLemmas
import Derived.RowKit
import Derived.WalkKit
import Derived.WalkSpells
import Derived.WalkLawsBesides
import Derived.Handy
import Derived.Lib.Hide
import Derived.BigQuiet
import Derived.LoopN
import Derived.StillTailTactics
import Derived.Deep.RegionHeld3
import Derived.BigRegion
/- A map from places to identities says what the identities' places say. -/
namespace Go.Proofs.Ytdaojohdmidemaa
set_option maxRecDepth 20000
open Go.RowKit Go.Maps
set_option linter.unusedVariables false
namespace Wd
/-- whose a place is, as a map has it -/
def mapOf (T : Tst) : Pl → Option Int := fun q => (ofR T q).map (fun (k : Nat) => (k : Int))
theorem ofR_iff {T : Tst} (hI : Inv T) {q : Pl} {k : Nat} : ofR T q = some k ↔ T k = some q := by
  constructor
  · intro h
    have := (firstIn_some h).2.2.1
    simpa using this
  · exact ofR_at hI
theorem mapOf_some {T : Tst} (hI : Inv T) {q : Pl} {k : Nat} (h : T k = some q) : mapOf T q = some (k : Int) := by unfold mapOf; rw [ofR_at hI h]; rfl
theorem mapOf_none {T : Tst} {q : Pl} (h : ∀ k, T k ≠ some q) : mapOf T q = none := by
  have e : ofR T q = none := by
    cases g : ofR T q with
    | none => rfl
    | some k => exact absurd (by simpa using (firstIn_some g).2.2.1) (h k)
  unfold mapOf; rw [e]; rfl
theorem mapOf_out {T : Tst} (hI : Inv T) {q : Pl} (h : mapOf T q = none) : ∀ k, T k ≠ some q := by
  intro k hk
  rw [mapOf_some hI hk] at h
  cases h
theorem mapOf_getD (T : Tst) (q : Pl) : (mapOf T q).getD 0 = ofI T q ∧ (mapOf T q).isSome = (ofR T q).isSome := by
  unfold mapOf ofI
  cases ofR T q <;> exact ⟨rfl, rfl⟩
/-- two maps of places are one, if each identity's place is found in both, and no other -/
theorem mapOf_ext {T : Tst} (hI : Inv T) {M : Pl → Option Int} (h1 : ∀ k q, T k = some q → M q = some (k : Int)) (h2 : ∀ q, (∀ k, T k ≠ some q) → M q = none) : mapOf T = M := by
  funext q
  by_cases h : ∃ k, T k = some q
  · obtain ⟨k, hk⟩ := h
    rw [mapOf_some hI hk, h1 k q hk]
  · have h' : ∀ k, T k ≠ some q := fun k hk => h ⟨k, hk⟩
    rw [mapOf_none h', h2 q h']
theorem mapOf_take {T : Tst} (hI : Inv T) {p : Pl} {k : Nat} (hp : plOk p) (ho : ofR T p = none) (hf : freeR T = some k) : mapOf (updT T k (some p)) = updM (mapOf T) p (some (k : Int)) := by
  obtain ⟨k1, k2, hk⟩ := freeR_at hf
  have hn := ofR_none hI ho
  have hI' := hI.upd k1 k2 hp (fun j _ => hn j)
  refine mapOf_ext hI' (fun j q hj => ?_) (fun q hq => ?_)
  · unfold updT at hj
    unfold updM
    by_cases c : j = k
    · rw [if_pos c] at hj; cases hj; rw [if_pos rfl, c]
    · rw [if_neg c] at hj
      rw [if_neg (by rintro rfl; exact hn j hj)]
      exact mapOf_some hI hj
  · unfold updM
    by_cases c : q = p
    · subst c; exact absurd (by unfold updT; rw [if_pos rfl]) (hq k)
    · rw [if_neg c]
      exact mapOf_none (fun j hj => by
        by_cases d : j = k
        · subst d; rw [hk] at hj; cases hj
        · exact hq j (by unfold updT; rw [if_neg d]; exact hj))
theorem mapOf_give {T : Tst} (hI : Inv T) {p : Pl} {k : Nat} (hk : T k = some p) : mapOf (updT T k none) = updM (mapOf T) p none := by
  refine mapOf_ext (hI.del k) (fun j q hj => ?_) (fun q hq => ?_)
  · unfold updT at hj
    unfold updM
    by_cases c : j = k
    · rw [if_pos c] at hj; cases hj
    · rw [if_neg c] at hj
      rw [if_neg (by rintro rfl; exact c (hI.inj j k _ hj hk))]
      exact mapOf_some hI hj
  · unfold updM
    by_cases c : q = p
    · rw [if_pos c]
    · rw [if_neg c]
      exact mapOf_none (fun j hj => by
        by_cases d : j = k
        · subst d; rw [hk] at hj; cases hj; exact c rfl
        · exact hq j (by unfold updT; rw [if_neg d]; exact hj))
theorem Inv.swap {T : Tst} (hI : Inv T) {x y : Nat} {p q : Pl} (hx : T x = some p) (hy : T y = some q) : Inv (updT (updT T x (some q)) y (some p)) := by
  obtain ⟨x1, x2, hp⟩ := hI.bd x p hx
  obtain ⟨y1, y2, hq⟩ := hI.bd y q hy
  by_cases c : x = y
  · subst c
    have : q = p := by rw [hx] at hy; cases hy; rfl
    subst this
    have e : updT (updT T x (some q)) x (some q) = T := by
      funext j; unfold updT
      by_cases d : j = x
      · subst d; rw [if_pos rfl, hx]
      · rw [if_neg d, if_neg d]
    rw [e]; exact hI
  · have at' : ∀ j r, updT (updT T x (some q)) y (some p) j = some r → (j = y ∧ r = p) ∨ (j = x ∧ r = q) ∨ (j ≠ y ∧ j ≠ x ∧ T j = some r) := by
      intro j r h
      unfold updT at h
      by_cases d : j = y
      · rw [if_pos d] at h; cases h; exact Or.inl ⟨d, rfl⟩
      · rw [if_neg d] at h
        by_cases e : j = x
        · rw [if_pos e] at h; cases h; exact Or.inr (Or.inl ⟨e, rfl⟩)
        · rw [if_neg e] at h; exact Or.inr (Or.inr ⟨d, e, h⟩)
    have npq : p ≠ q := by rintro rfl; exact c (hI.inj x y _ hx hy)
    refine ⟨fun j r h => ?_, fun i j r hi hj => ?_⟩
    · rcases at' j r h with ⟨rfl, rfl⟩ | ⟨rfl, rfl⟩ | ⟨_, _, h⟩
      · exact ⟨y1, y2, hp⟩
      · exact ⟨x1, x2, hq⟩
      · exact hI.bd j r h
    · rcases at' i r hi with ⟨rfl, rfl⟩ | ⟨rfl, rfl⟩ | ⟨a1, a2, hi'⟩ <;> rcases at' j _ hj with ⟨rfl, e⟩ | ⟨rfl, e⟩ | ⟨b1, b2, hj'⟩
      · rfl
      · exact absurd e npq
      · exact absurd (hI.inj _ _ _ hj' hx) b2
      · exact absurd e.symm npq
      · rfl
      · exact absurd (hI.inj _ _ _ hj' hy) b1
      · rw [e] at hi'; exact absurd (hI.inj _ _ _ hi' hx) a2
      · rw [e] at hi'; exact absurd (hI.inj _ _ _ hi' hy) a1
      · exact hI.inj _ _ _ hi' hj'
theorem mapOf_swap {T : Tst} (hI : Inv T) {x y : Nat} {p q : Pl} (hx : T x = some p) (hy : T y = some q) : mapOf (updT (updT T x (some q)) y (some p)) = updM (updM (mapOf T) q (some (x : Int))) p (some (y : Int)) := by
  have hI' := hI.swap hx hy
  refine mapOf_ext hI' (fun j r h => ?_) (fun r h => ?_)
  · unfold updM
    unfold updT at h
    by_cases d : j = y
    · rw [if_pos d] at h; cases h; rw [if_pos rfl, d]
    · rw [if_neg d] at h
      by_cases e : j = x
      · rw [if_pos e] at h; cases h
        rw [if_neg (by rintro rfl; subst e; exact d (hI.inj _ _ _ hx hy)), if_pos rfl, e]
      · rw [if_neg e] at h
        rw [if_neg (by rintro rfl; exact e (hI.inj _ _ _ h hx)), if_neg (by rintro rfl; exact d (hI.inj _ _ _ h hy))]
        exact mapOf_some hI h
  · unfold updM
    have hp : r ≠ p := by rintro rfl; exact h y (by unfold updT; rw [if_pos rfl])
    have hq : r ≠ q := by
      rintro rfl
      by_cases d : x = y
      · subst d; rw [hx] at hy; cases hy; exact hp rfl
      · exact h x (by unfold updT; rw [if_neg d, if_pos rfl])
    rw [if_neg hp, if_neg hq]
    exact mapOf_none (fun j hj => by
      by_cases d : j = y
      · subst d; rw [hy] at hj; cases hj; exact hq rfl
      · by_cases e : j = x
        · subst e; rw [hx] at hj; cases hj; exact hp rfl
        · exact h j (by unfold updT; rw [if_neg d, if_neg e]; exact hj))
/-- how many identities there are, behind a change of one -/
theorem idsK_upd (T : Tst) (k : Nat) (v : Option Pl) : ∀ j, (idsK (updT T k v) j).length + (if k < j ∧ inR T k = true then 1 else 0) = (idsK T j).length + (if k < j ∧ v.isSome = true then 1 else 0) := by
  intro j
  induction j with
  | zero => rfl
  | succ j ih =>
    have e : ∀ T : Tst, (idsK T (j + 1)).length = (idsK T j).length + (if inR T j = true then 1 else 0) := by
      intro T
      cases h : inR T j
      · rw [idsK_out h]; simp
      · rw [idsK_in h]; simp
    rw [e, e]
    by_cases c : j = k
    · subst c
      have e1 : inR (updT T j v) j = v.isSome := by simp [inR, updT]
      rw [e1]
      rw [if_neg (show ¬ (j < j ∧ inR T j = true) by omega), if_neg (show ¬ (j < j ∧ v.isSome = true) by omega)] at ih
      have l1 : (j < j + 1) := by omega
      simp only [l1, true_and]
      omega
    · have e1 : inR (updT T k v) j = inR T j := by simp [inR, updT, c]
      rw [e1]
      have l1 : (k < j + 1) ↔ (k < j) := by omega
      simp only [l1]
      omega
theorem ids_take {T : Tst} {k : Nat} {p : Pl} (hk : k < 1024) (h : T k = none) : (idsT (updT T k (some p))).length = (idsT T).length + 1 := by
  have g : ∀ n, k < n → (idsK (updT T k (some p)) n).length = (idsK T n).length + 1 := by
    intro n hn
    have := idsK_upd T k (some p) n
    rw [if_neg (by unfold inR; rw [h]; simp), if_pos ⟨hn, rfl⟩] at this
    exact this
  exact g _ hk
theorem ids_give {T : Tst} {k : Nat} {p : Pl} (hk : k < 1024) (h : T k = some p) : (idsT (updT T k none)).length + 1 = (idsT T).length := by
  have g : ∀ n, k < n → (idsK (updT T k none) n).length + 1 = (idsK T n).length := by
    intro n hn
    have := idsK_upd T k none n
    rw [if_pos ⟨hn, by unfold inR; rw [h]; rfl⟩, if_neg (by simp)] at this
    exact this
  exact g _ hk
theorem ids_put {T : Tst} {k : Nat} {p q : Pl} (hk : k < 1024) (h : T k = some p) : (idsT (updT T k (some q))).length = (idsT T).length := by
  have g : ∀ n, k < n → (idsK (updT T k (some q)) n).length = (idsK T n).length := by
    intro n hn
    have := idsK_upd T k (some q) n
    rw [if_pos ⟨hn, by unfold inR; rw [h]; rfl⟩, if_pos ⟨hn, rfl⟩] at this
    omega
  exact g _ hk
end Wd
end Go.Proofs.Ytdaojohdmidemaa

/- The landed table, as it lies; has, leastFree. -/
namespace Go.Proofs.Ytdaojohdmidemaa
open Go.RowKit Go.Maps
set_option linter.unusedVariables false
set_option maxRecDepth 20000
namespace Wd
/-- the landed table at block b, its map at block m: who is there (T tells), the places (P), the map (M, of c entries) -/
structure TP (w : World) (b m : Nat) (T : Tst) (P : Nat → Pl) (c : Nat) (M : Pl → Option Int) : Prop where
  ci : ∀ k, k < 1024 → w.cell? ⟨b, k, none⟩ = some (.bool (inR T k))
  cs : ∀ k, k < 1024 → w.cell? ⟨b, 1024 + k * 2, none⟩ = some (.int .i64 (P k).1)
  cl : ∀ k, k < 1024 → w.cell? ⟨b, 1024 + k * 2 + 1, none⟩ = some (.int .i64 (P k).2)
  cm : w.cell? ⟨b, 3072, none⟩ = some (.map (some m))
  z : ∀ k, w.frozen? ⟨b, k, none⟩ = false
  ne : m ≠ b
  mp : MapP w m c M
def updP (P : Nat → Pl) (k : Nat) (p : Pl) : Nat → Pl := fun j => if j = k then p else P j
def FT (b m : Nat) : Nat → Prop := fun k => k = b ∨ k = m
section
variable {w w1 : World} {b m c c' : Nat} {T : Tst} {P : Nat → Pl} {M M' : Pl → Option Int}
theorem TP.lt (h : TP w b m T P c M) : b < w.heap.size := World.block_lt_of_cell? w _ (h.ci 0 (by decide))
theorem TP.same (h : TP w b m T P c M) (hb : w1.heap[b]? = w.heap[b]?) (hm : w1.heap[m]? = w.heap[m]?) : TP w1 b m T P c M :=
  ⟨fun k hk => (World.cell?_of_block (a := ⟨b, k, none⟩) hb).trans (h.ci k hk), fun k hk => (World.cell?_of_block (a := ⟨b, 1024 + k * 2, none⟩) hb).trans (h.cs k hk), fun k hk => (World.cell?_of_block (a := ⟨b, 1024 + k * 2 + 1, none⟩) hb).trans (h.cl k hk), (World.cell?_of_block (a := ⟨b, 3072, none⟩) hb).trans h.cm, fun k => (World.frozen?_of_block (a := ⟨b, k, none⟩) hb).trans (h.z k), h.ne, h.mp.same hm⟩
theorem TP.keep (h : TP w b m T P c M) (g : Below w.heap.size w w1) : TP w1 b m T P c M := h.same (g.block b h.lt) (g.block m h.mp.lt)
theorem TP.drew (h : TP w b m T P c M) : TP w.drew b m T P c M := h.same rfl rfl
theorem heap_set {o : Nat} {x : Value} (hne : m ≠ b) : (w.setCell ⟨b, o, none⟩ x).heap[m]? = w.heap[m]? := Below.heap_setCell _ _ _ _ hne
/-- it is said whether an identity is there -/
theorem TP.tell (h : TP w b m T P c M) {k : Nat} (hk : k < 1024) (v : Option Pl) : TP (w.setCell ⟨b, k, none⟩ (.bool v.isSome)) b m (updT T k v) P c M := by
  have far : ∀ {o : Nat}, k ≠ o → (w.setCell ⟨b, k, none⟩ (.bool v.isSome)).cell? ⟨b, o, none⟩ = w.cell? ⟨b, o, none⟩ := fun hne => World.cell?_setCell_other _ _ _ _ (by intro e; injection e with _ h2; exact hne h2)
  refine ⟨fun j hj => ?_, fun j hj => (far (by omega)).trans (h.cs j hj), fun j hj => (far (by omega)).trans (h.cl j hj), (far (by omega)).trans h.cm, fun j => (World.frozen?_setCell _ _ _ _).trans (h.z j), h.ne, h.mp.same (heap_set h.ne)⟩
  by_cases e : j = k
  · subst e
    rw [World.cell?_setCell_same _ _ _ (h.ci j hj)]
    simp [inR, updT]
  · rw [far (Ne.symm e), h.ci j hj]
    simp [inR, updT, e]
/-- a place is written -/
theorem TP.place (h : TP w b m T P c M) {k : Nat} (hk : k < 1024) (p : Pl) : TP ((w.setCell ⟨b, 1024 + k * 2, none⟩ (.int .i64 p.1)).setCell ⟨b, 1024 + k * 2 + 1, none⟩ (.int .i64 p.2)) b m T (updP P k p) c M := by
  have far : ∀ {w : World} {o o' : Nat} {x : Value}, o ≠ o' → (w.setCell ⟨b, o, none⟩ x).cell? ⟨b, o', none⟩ = w.cell? ⟨b, o', none⟩ := fun hne => World.cell?_setCell_other _ _ _ _ (by intro e; injection e with _ h2; exact hne h2)
  refine ⟨fun j hj => ?_, fun j hj => ?_, fun j hj => ?_, ?_, fun j => by rw [World.frozen?_setCell, World.frozen?_setCell]; exact h.z j, h.ne, h.mp.same ((heap_set h.ne).trans (heap_set h.ne))⟩
  · rw [far (by omega), far (by omega), h.ci j hj]
  · rw [far (by omega)]
    by_cases e : j = k
    · subst e
      rw [World.cell?_setCell_same _ _ _ (h.cs j hj)]
      simp [updP]
    · rw [far (by omega), h.cs j hj]
      simp [updP, e]
  · by_cases e : j = k
    · subst e
      rw [World.cell?_setCell_same _ _ _ (by rw [far (by omega)]; exact h.cl j hj)]
      simp [updP]
    · rw [far (by omega), far (by omega), h.cl j hj]
      simp [updP, e]
  · rw [far (by omega), far (by omega)]; exact h.cm
/-- the map is turned -/
theorem TP.map (h : TP w b m T P c M) (hm : MapP w1 m c' M') (g : w.grownBy w1 (some m)) : TP w1 b m T P c' M' := by
  have hb : w1.heap[b]? = w.heap[b]? := g.block b h.lt (by intro e; cases e; exact h.ne rfl)
  exact ⟨fun k hk => (World.cell?_of_block (a := ⟨b, k, none⟩) hb).trans (h.ci k hk), fun k hk => (World.cell?_of_block (a := ⟨b, 1024 + k * 2, none⟩) hb).trans (h.cs k hk), fun k hk => (World.cell?_of_block (a := ⟨b, 1024 + k * 2 + 1, none⟩) hb).trans (h.cl k hk), (World.cell?_of_block (a := ⟨b, 3072, none⟩) hb).trans h.cm, fun k => (World.frozen?_of_block (a := ⟨b, k, none⟩) hb).trans (h.z k), h.ne, hm⟩
theorem grown_ch (g : w.grownBy w1 (some m)) : Ch (fun k => k = m) w w1 := ⟨g.os, g.tape, g.output, g.size, fun k hk hne => g.block k hk (by intro e; cases e; exact hne rfl)⟩
theorem uhas_c (i : Int) (h : TP w b m T P c M) :
    Calls Try.prog 58 #[.pointer (some ⟨b, 0, none⟩), .int .i64 i] w fun e w' => e = .returned (.bool (hasT T i)) ∧ w' = w := by
  by_cases h0 : 0 ≤ i
  · by_cases hn : i < 1024
    · obtain ⟨k, rfl⟩ : ∃ k : Nat, i = k := ⟨i.toNat, by omega⟩
      have hk : k < 1024 := by omega
      rw [hasT_in hk]
      have ci := h.ci k hk
      have d1 : decide ((k : Int) ≥ 0) = true := by simp
      have d2 : decide (0 ≤ (k : Int)) = true := by simp
      have d3 : decide ((k : Int) < 1024) = true := by simp; omega
      clear h
      generalize inR T k = x at *
      go_enter Try.func58, Try.ntmps58
      go_wp2
      go_ret
      exact ⟨by cases x <;> rfl, rfl⟩
    · rw [hasT_out (by omega)]
      have d1 : decide (i ≥ 0) = true := by simpa using h0
      have d2 : decide (0 ≤ i) = true := by simpa using h0
      have d3 : decide (i < 1024) = false := by simp; omega
      clear h
      go_enter Try.func58, Try.ntmps58
      go_wp2
      go_ret
      exact ⟨rfl, rfl⟩
  · rw [hasT_out (by omega)]
    have d1 : decide (i ≥ 0) = false := by simp; omega
    have d2 : decide (0 ≤ i) = false := by simp; omega
    clear h
    go_enter Try.func58, Try.ntmps58
    go_wp2
    go_ret
    exact ⟨rfl, rfl⟩
set_option maxHeartbeats 4000000 in
theorem uleast_c (h : TP w b m T P c M) :
    Calls Try.prog 52 #[.pointer (some ⟨b, 0, none⟩)] w fun e w' => e = .returned (.int .i64 (frI (freeR T))) ∧ w' = w := by
  have hci := Lib.hid h.ci
  clear h
  go_enter Try.func52, Try.ntmps52
  go_wp2
  go_loopw [3] (fun i wr => ∃ k : Nat, 4 ≤ k ∧ k ≤ 1024 ∧ i = .int .i64 k ∧ wr = w ∧ ∀ j, 4 ≤ j → j < k → (T j).isNone = false) (fun i _ => 1024 - (intOf i).toNat)
  case atStart => exact ⟨4, by omega, by omega, rfl, rfl, fun j a b => by omega⟩
  case round =>
    obtain ⟨k, hk4, hk, rfl, rfl, hR⟩ := hrel
    by_cases hlt : k < 1024
    · have hlt' : decide ((k : Int) < 1024) = true := by simp; omega
      have hk1 : (k : Int) < 1024 := by omega
      have hw : IntKind.i64.wrap ((k : Int) + 1) = (k : Int) + 1 := by rw [IntKind.wrap_i64]; omega
      have ci := hci.out k hlt
      unfold inR at ci
      rcases hT : T k with _ | s
      · rw [hT] at ci
        simp only [Option.isSome] at ci
        have e1 : Hid (freeR T = some k) := Lib.hid (firstIn_hit hk4 hlt (fun j a b => hR j a b) (by show (T k).isNone = true; rw [hT]; rfl))
        clear hT hR
        go_wp2
        go_ret
        rw [e1.out]
        exact ⟨rfl, rfl⟩
      · rw [hT] at ci
        simp only [Option.isSome] at ci
        have hN : Hid (∀ j, 4 ≤ j → j < k + 1 → (T j).isNone = false) := Lib.hid fun j a b => by
          by_cases e : j = k
          · subst e; rw [hT]; rfl
          · exact hR j a (by omega)
        clear hT hR
        go_wp2
        go_roundw
        case rel => exact ⟨k + 1, by omega, by omega, by go_num, trivial, hN.out⟩
        case measure => simp [intOf]; omega
    · have e : k = 1024 := by omega
      subst e
      have e1 : Hid (freeR T = none) := Lib.hid (firstIn_none (fun j a b => hR j a b))
      clear hR
      go_wp2
      go_ret
      rw [e1.out]
      exact ⟨rfl, rfl⟩
end
end Wd
end Go.Proofs.Ytdaojohdmidemaa

/- The landed table: put, Of, At, New. -/
namespace Go.Proofs.Ytdaojohdmidemaa
open Go.RowKit Go.Maps
set_option linter.unusedVariables false
set_option maxRecDepth 20000
namespace Wd
def cntP (x : Bool) (c : Nat) : Nat := if x then c else c + 1
theorem wf_nat {k : Nat} (hk : k < 1024) : (Lit.int .i64 (k : Int)).wf = true := WalkArith.wf_i64 ⟨by omega, by omega⟩
section
variable {w w1 : World} {b m c c' : Nat} {T : Tst} {P : Nat → Pl} {M M' : Pl → Option Int}
set_option maxHeartbeats 4000000 in
theorem uput_c (h : TP w b m T P c M) {k : Nat} (hk : k < 1024) (pl : Pl) (hp : plOk pl) (hc : c < maxLen) :
    Calls Try.prog 53 #[.pointer (some ⟨b, 0, none⟩), .int .i64 (k : Int), plV pl] w fun e w' => e = .returned (.tuple #[]) ∧ TP w' b m T (updP P k pl) (cntP (M pl).isSome c) (updM M pl (some (k : Int))) ∧ Ch (FT b m) w w' := by
  have hk1 : (k : Int) < 1024 := by omega
  have lb := h.lt
  have h1 := h.place hk pl
  have hB : Below ((w.setCell ⟨b, 1024 + k * 2, none⟩ (.int .i64 pl.1)).setCell ⟨b, 1024 + k * 2 + 1, none⟩ (.int .i64 pl.2)).heap.size ((w.setCell ⟨b, 1024 + k * 2, none⟩ (.int .i64 pl.1)).setCell ⟨b, 1024 + k * 2 + 1, none⟩ (.int .i64 pl.2)) (((w.setCell ⟨b, 1024 + k * 2, none⟩ (.int .i64 pl.1)).setCell ⟨b, 1024 + k * 2 + 1, none⟩ (.int .i64 pl.2)).alloc (.cells #[.int .i64 pl.1, .int .i64 pl.2] 63)) := (Below.refl _ _).alloc (Nat.le_refl _) _
  have h2 := (h1.keep hB).drew.drew
  obtain ⟨w2, hrun, hm2, hg2, hz2⟩ := h2.mp.put hc hp (wf_nat hk)
  have h3 : Hid (TP w2 b m T (updP P k pl) (cntP (M pl).isSome c) (updM M pl (some (k : Int)))) := Lib.hid (h2.map hm2 hg2)
  have hch : Hid (Ch (FT b m) w w2) := Lib.hid ((((((Ch.refl (FT b m) w).set ⟨b, 1024 + k * 2, none⟩ (Or.inl rfl) (.int .i64 pl.1)).set ⟨b, 1024 + k * 2 + 1, none⟩ (Or.inl rfl) (.int .i64 pl.2)).trans (below_toCh (FT b m) hB)).drew.drew).trans ((grown_ch hg2).mono (fun j hj => Or.inr hj)))
  have cs := h.cs k hk
  have cl := h.cl k hk
  have z1 := h.z (1024 + k * 2)
  have z2 := h.z (1024 + k * 2 + 1)
  have cm := h.cm
  have ne : w.heap.size ≠ b := by omega
  have ne' := Ne.symm ne
  have n1 : ¬ (1024 + k * 2 = 3072) := by omega
  have n2 : ¬ (1024 + k * 2 + 1 = 3072) := by omega
  clear h h1 h2 hm2 hg2 hz2 hB hc hp
  obtain ⟨pa, pc⟩ := pl
  unfold plV at *
  simp only at *
  go_enter Try.func53, Try.ntmps53
  go_wp2
  go_region
  go_wp2
  go_region
  go_wp2
  go_end0
  exact ⟨rfl, h3.out, hch.out⟩
set_option maxHeartbeats 4000000 in
theorem uof_c (h : TP w b m T P c M) (pl : Pl) (hp : plOk pl) :
    Calls Try.prog 40 #[.pointer (some ⟨b, 0, none⟩), plV pl] w fun e w' => e = .returned (.tuple #[.int .i64 ((M pl).getD 0), .bool (M pl).isSome]) ∧ Below w.heap.size w w' := by
  have hB : Below w.heap.size w (w.alloc (.cells #[.int .i64 pl.1, .int .i64 pl.2] 63)) := (Below.refl _ _).alloc (Nat.le_refl _) _
  have hrun := (h.keep hB).drew.mp.look_ok hp
  replace hB := Lib.hid hB
  have cm := h.cm
  have lb := h.lt
  clear h hp
  generalize (M pl).getD 0 = x at *
  generalize (M pl).isSome = y at *
  obtain ⟨pa, pc⟩ := pl
  unfold plV at *
  simp only at *
  go_enter Try.func40, Try.ntmps40
  go_wp2
  go_region
  go_wp2
  go_ret2
  exact ⟨rfl, hB.out.drew⟩
set_option maxHeartbeats 4000000 in
theorem uat_c (h : TP w b m T P c M) (i : Int) (hT : ∀ k q, T k = some q → P k = q) :
    Calls Try.prog 55 #[.pointer (some ⟨b, 0, none⟩), .int .i64 i] w fun e w' => e = .returned (.tuple #[plV (atP T i), .bool (hasT T i)]) ∧ Below w.heap.size w w' := by
  have hB : Below w.heap.size w (w.alloc (.cells #[.int .i64 0, .int .i64 0] 63)) := (Below.refl _ _).alloc (Nat.le_refl _) _
  have P0 := uhas_c i (h.keep hB)
  have lb := h.lt
  cases hh : hasT T i
  · rw [atP_no hh]
    rw [hh] at P0
    replace P0 := Lib.hid P0
    replace hB := Lib.hid hB
    clear hh h
    unfold plV
    go_enter Try.func55, Try.ntmps55
    go_wp2_with (first | (go_at_call 58; ((with_reducible refine P0.out.mono ?_); rintro e w' ⟨rfl, hw'⟩; subst w')))
    go_returns
    exact ⟨rfl, (Below.refl _ _).alloc (Nat.le_refl _) _⟩
  · obtain ⟨k, rfl, hk, ⟨pa, pc⟩, hTk, ha⟩ := atP_has hh
    rw [ha]
    rw [hh] at P0
    replace P0 := Lib.hid P0
    replace hB := Lib.hid hB
    have hk1 : (k : Int) < 1024 := by omega
    have cs := h.cs k hk
    have cl := h.cl k hk
    rw [hT k _ hTk] at cs cl
    simp only at cs cl
    have ne : w.heap.size ≠ b := by omega
    have ne' := Ne.symm ne
    clear hh h hTk ha hT
    unfold plV
    go_enter Try.func55, Try.ntmps55
    go_wp2_with (first | (go_at_call 58; ((with_reducible refine P0.out.mono ?_); rintro e w' ⟨rfl, hw'⟩; subst w')))
    go_returns
    exact ⟨rfl, (Below.refl _ _).alloc (Nat.le_refl _) _⟩
end
end Wd
end Go.Proofs.Ytdaojohdmidemaa

/- The landed table: New, IDs. -/
namespace Go.Proofs.Ytdaojohdmidemaa
open Go.RowKit Go.Maps
set_option linter.unusedVariables false
set_option maxRecDepth 20000
namespace Wd
def zeroU (m : Nat) : Array Value := (List.replicate 1024 (Value.bool false) ++ List.replicate 2048 (Value.int .i64 0) ++ [Value.map (some m)]).toArray
def zeroW : Array Value := (List.replicate 1024 (Value.bool false) ++ List.replicate 2048 (Value.int .i64 0) ++ [Value.map none]).toArray
theorem infoU : (Try.prog.info? 81).map (fun i => i.zero) = some (some (.agg zeroW)) := by kernel_rfl
theorem run_zeroU (w : World) : Sem.run Try.prog (zeroValue 81) w = .ok (.agg zeroW) w := by
  have h := infoU
  cases hi : Try.prog.info? 81 with
  | none => rw [hi] at h; cases h
  | some i =>
    rw [hi] at h
    have hz : i.zero = some (.agg zeroW) := by simpa using h
    simp [zeroValue, typeInfo, hi, hz]
theorem zeroW_size : zeroW.size = 3073 := by simp [zeroW]
theorem zeroW_set (m : Nat) : zeroW.setIfInBounds 3072 (.map (some m)) = zeroU m := by
  unfold zeroW zeroU
  rw [List.setIfInBounds_toArray, List.set_append_right _ _ (by simp)]
  simp
theorem zeroU_in {m k : Nat} (hk : k < 1024) : (zeroU m)[k]? = some (.bool false) := by
  unfold zeroU
  rw [List.getElem?_toArray, List.append_assoc, List.getElem?_append_left (by rw [List.length_replicate]; exact hk), List.getElem?_replicate, if_pos hk]
theorem zeroU_at {m k : Nat} (h1 : 1024 ≤ k) (h2 : k < 3072) : (zeroU m)[k]? = some (.int .i64 0) := by
  unfold zeroU
  rw [List.getElem?_toArray, List.append_assoc, List.getElem?_append_right (by rw [List.length_replicate]; exact h1), List.length_replicate, List.getElem?_append_left (by rw [List.length_replicate]; omega), List.getElem?_replicate, if_pos (by omega)]
theorem zeroU_map {m : Nat} : (zeroU m)[3072]? = some (.map (some m)) := by
  unfold zeroU
  rw [List.getElem?_toArray, List.getElem?_append_right (by simp)]
  simp
theorem zero_tp (w : World) : TP ((w.alloc (.map #[] 0)).alloc (.cells (zeroU w.heap.size) 81)) (w.heap.size + 1) w.heap.size noT (fun _ => (0, 0)) 0 (fun _ => none) := by
  have hmp := MapP.made w
  have hs : (w.alloc (.map #[] 0)).heap.size = w.heap.size + 1 := by simp
  have hm2 := hmp.same (w1 := (w.alloc (.map #[] 0)).alloc (.cells (zeroU w.heap.size) 81)) (Below.heap_alloc _ _ _ (by simp))
  have hh : ((w.alloc (.map #[] 0)).alloc (.cells (zeroU w.heap.size) 81)).heap[w.heap.size + 1]? = some (.cells (zeroU w.heap.size) 81 (0, 0)) := by
    rw [← hs]; exact heap_alloc_new _ _
  clear hmp hs
  generalize (w.alloc (.map #[] 0)).alloc (.cells (zeroU w.heap.size) 81) = W at *
  generalize hm : w.heap.size = s at *
  refine ⟨fun k hk => ?_, fun k hk => ?_, fun k hk => ?_, ?_, fun k => by simp [World.frozen?, hh], by omega, hm2⟩
  · simp [World.cell?, hh, zeroU_in hk, inR, noT]
  · simp [World.cell?, hh, zeroU_at (m := s) (k := 1024 + k * 2) (by omega) (by omega)]
  · simp [World.cell?, hh, zeroU_at (m := s) (k := 1024 + k * 2 + 1) (by omega) (by omega)]
  · simp [World.cell?, hh, zeroU_map]
set_option maxHeartbeats 4000000 in
theorem unew_c (w : World) : Calls Try.prog 21 #[] w fun e w' => e = .returned (.pointer (some ⟨w.heap.size + 1, 0, none⟩)) ∧ TP w' (w.heap.size + 1) w.heap.size noT (fun _ => (0, 0)) 0 (fun _ => none) ∧ Below w.heap.size w w' := by
  have hZ := Lib.hid (zero_tp w)
  have hB : Hid (Below w.heap.size w ((w.alloc (.map #[] 0)).alloc (.cells (zeroU w.heap.size) 81))) := Lib.hid (((Below.refl _ _).alloc (Nat.le_refl _) _).alloc (by simp) _)
  have hb := run_zeroU
  have hs := zeroW_set w.heap.size
  have hz : ¬ (zeroW.size < 3073) := by rw [zeroW_size]; omega
  generalize zeroU w.heap.size = ZU at *
  generalize zeroW = ZW at *
  have hmm := @run_makeMap Try.prog
  go_enter Try.func21, Try.ntmps21
  go_wp2
  go_ret
  exact ⟨by simp, hZ.out, hB.out⟩
/-- who is there, as an array by value -/
def bitsU (T : Tst) : List Value := (List.range 1024).map (fun k => Value.bool (inR T k))
theorem bitsU_len (T : Tst) : (bitsU T).length = 1024 := by simp [bitsU]
theorem bitsU_at {T : Tst} {k : Nat} (hk : k < 1024) : (bitsU T).toArray[k]? = some (.bool (inR T k)) := by
  rw [List.getElem?_toArray]
  unfold bitsU
  rw [List.getElem?_map, List.getElem?_range hk]
  rfl
theorem cellsBU : (Try.prog.info? 4).map (fun i => i.size) = some 1 := by kernel_rfl
theorem run_index_b (w : World) {T : Tst} {k : Nat} (hk : k < 1024) : (Instr.index 78 (.agg (bitsU T).toArray) (.int .i64 (k : Int))).run Try.prog w = .ok (.bool (inR T k)) w := by
  have h1 : (0 : Int) ≤ (k : Int) ∧ (k : Int) < ((1024 : Nat) : Int) := by omega
  have hv := bitsU_at (T := T) hk
  obtain ⟨i, hi, hs⟩ := Option.map_eq_some_iff.1 cellsBU
  simp [Instr.index, run_underlying Try.underlying78, asIntOf, sizeOf, typeInfo, hi, hs, part, isAgg, run_underlying Try.underlying4, go_sem]
  rw [if_pos hk]
  rw [List.getElem?_toArray] at hv
  rw [hv]
  rfl
theorem infoBU : (Try.prog.info? 78).map (fun i => i.size) = some 1024 := by kernel_rfl
theorem rowBU : (∃ d, Try.prog.underlying 78 = some d ∧ d.isRow = true) := ⟨_, Try.underlying78, rfl⟩
section
variable {w : World} {b m c : Nat} {T : Tst} {P : Nat → Pl} {M : Pl → Option Int}
theorem TP.range (h : TP w b m T P c M) : w.rangeAt b 0 (bitsU T) := by
  intro j v hj
  have hlt : j < 1024 := by
    have := (List.getElem?_eq_some_iff.1 hj).1
    rw [bitsU_len] at this; exact this
  have e := bitsU_at (T := T) hlt
  rw [List.getElem?_toArray, hj] at e
  cases e
  rw [Nat.zero_add]
  exact h.ci j hlt
/-- those that were told so far -/
structure IUt (w : World) (T : Tst) (k : Nat) (v : Value) (wr : World) : Prop where
  own : wr.ownsRow w.heap.size 3 1 v (idsK T k).length (ints (idsK T k))
  bel : Below w.heap.size w wr
theorem IUt.next {w wr w1 : World} {T : Tst} {k g cap : Nat} {v : Value} (h : IUt w T k v wr) (hk : inR T k = true)
    {c : Array Value} {t : TypeId} (hown : w1.ownsRow w.heap.size 3 1 (.slice (some ⟨g, 0, none⟩) ((idsK T k).length + 1) cap) ((idsK T k).length + 1) (ints (idsK T k) ++ ints [(k : Int)])) (hg : (wr.alloc (.cells c t)).grownBy w1 v.ownBlock) :
    IUt w T (k + 1) (.slice (some ⟨g, 0, none⟩) ((idsK T k).length + 1) cap) w1 := by
  refine ⟨?_, ?_⟩
  · rw [idsK_in hk]
    simpa [ints] using hown
  · exact (h.bel.alloc h.bel.size _).grown hg (by have := h.bel.size; simp; omega) (fun k' hk => (h.own.lt k' hk).1)
set_option maxHeartbeats 4000000 in
theorem uids_c (h : TP w b m T P c M) :
    Calls Try.prog 47 #[.pointer (some ⟨b, 0, none⟩)] w fun e w' => ∃ u, e = .returned u ∧ SL w' 3 u (idsT T) ∧ Below w.heap.size w w' ∧ (∀ g, u.ownBlock = some g → w.heap.size ≤ g) := by
  obtain ⟨i0, hi0, hz0, hz1, hz2⟩ := info_parts info3
  have hmx : 8194 ≤ maxLen := by decide
  have S0 : IUt w T 0 (.slice none 0 0) w := ⟨World.ownsRow_nil _ _ _ _, Below.refl _ _⟩
  replace S0 := Lib.hid S0
  have hL := Lib.hid h.range
  obtain ⟨d, hd, hr⟩ := rowBU
  replace hd := Lib.hid hd
  replace hr := Lib.hid hr
  have hix : Hid (∀ (w : World) (k : Nat), k < 1024 → (Instr.index 78 (.agg (bitsU T).toArray) (.int .i64 (k : Int))).run Try.prog w = .ok (.bool (inR T k)) w) := Lib.hid (fun w k hk => run_index_b w hk)
  clear h
  go_enter Try.func47, Try.ntmps47
  go_wp2
  refine wp_load_mid _ _ rfl b 0 rfl (bitsU T) d hL.out hd.out hr.out (by rw [bitsU_len]; exact infoBU) ?_
  generalize (bitsU T).toArray = BU at *
  go_wp2
  go_loopw [3, 10] (fun v i wr => ∃ k : Nat, k ≤ 1024 ∧ i = .int .i64 k ∧ IUt w T k v wr) (fun _ i _ => 1024 - (intOf i).toNat)
  case atStart => exact ⟨0, by omega, rfl, S0.out⟩
  case round =>
    obtain ⟨k, hk, rfl, hR⟩ := hrel
    by_cases hlt : k < 1024
    · have hlt' : decide ((k : Int) < 1024) = true := by simp; omega
      have hk1 : (k : Int) < 1024 := by omega
      have hw : IntKind.i64.wrap ((k : Int) + 1) = (k : Int) + 1 := by rw [IntKind.wrap_i64]; omega
      have hl := idsK_len T k
      have ci := hix.out wr k hlt
      cases hin : inR T k
      · rw [hin] at ci
        have hN : Hid (IUt w T (k + 1) u3 wr) := Lib.hid ⟨by rw [idsK_out hin]; exact hR.own, hR.bel⟩
        replace hR := Lib.hid hR
        clear hin hl
        go_wp2
        go_roundw
        case rel => exact ⟨k + 1, by omega, by go_num, hN.out⟩
        case measure => simp [intOf]; omega
      · rw [hin] at ci
        replace hin := Lib.hid hin
        replace hR := Lib.hid hR
        go_wp2_with (first | (at_builtin; refine wpList_append_lies _ rfl (.tmp 15) (.tmp 17) 44 rfl w.heap.size 3 i0 (.int .i64 0) 1 8 Try.underlying44 hi0 hz0 hz1 hz2 rfl (by decide) u3 (idsK T k).length _ (by simp [Act.eval]) (hR.out.own.alloc _) ⟨wr.heap.size, 0, none⟩ 1 1 (ints [(k : Int)]) (by simp [Act.eval]) (by simp [ints]) (one_at ((World.cell?_alloc_new _ _ _ 0).trans rfl)) (ints_one _) (by omega) (by omega) (by omega) (by have := hR.out.bel.size; simp; omega) _ rfl ?_; intro g cap w1 hown1 hgrow1 hat1 hlt1; have R3 := Lib.hid (hR.out.next hin.out hown1 hgrow1); clear hown1 hgrow1))
        go_roundw
        case rel => exact ⟨k + 1, by omega, by go_num, R3.out⟩
        case measure => simp [intOf]; omega
    · have e : k = 1024 := by omega
      subst e
      replace hR := Lib.hid hR
      go_wp2
      go_ret
      refine ⟨_, rfl, ?_, hR.out.bel, fun g hg => (hR.out.own.lt g hg).1⟩
      have ho := own_base hR.out.own
      unfold SL
      exact ho
end
end Wd
end Go.Proofs.Ytdaojohdmidemaa

/- The landed table: Take, Give, Swap. -/
namespace Go.Proofs.Ytdaojohdmidemaa
open Go.RowKit Go.Maps
set_option linter.unusedVariables false
set_option maxRecDepth 20000
namespace Wd
section
variable {w w1 : World} {b m c c' : Nat} {T : Tst} {P : Nat → Pl} {M M' : Pl → Option Int}
set_option maxHeartbeats 4000000 in
theorem ugive_no (i : Int) (h : TP w b m T P c M) (hh : hasT T i = false) :
    Calls Try.prog 41 #[.pointer (some ⟨b, 0, none⟩), .int .i64 i] w fun e w' => e = .returned (.bool false) ∧ w' = w := by
  have P0 := uhas_c i h
  rw [hh] at P0
  replace P0 := Lib.hid P0
  clear h hh
  go_enter Try.func41, Try.ntmps41
  go_wp2_with (first | (go_at_call 58; ((with_reducible refine P0.out.mono ?_); rintro e w' ⟨rfl, hw'⟩; subst w')))
  go_ret
  exact ⟨rfl, rfl⟩
set_option maxHeartbeats 4000000 in
theorem ugive_yes {k : Nat} (h : TP w b m T P c M) (hk : k < 1024) (hh : hasT T (k : Int) = true) (hp : plOk (P k)) :
    Calls Try.prog 41 #[.pointer (some ⟨b, 0, none⟩), .int .i64 (k : Int)] w fun e w' => e = .returned (.bool true) ∧ TP w' b m (updT T k none) P (if (M (P k)).isSome then c - 1 else c) (updM M (P k) none) ∧ Ch (FT b m) w w' := by
  have P0 := uhas_c (k : Int) h
  rw [hh] at P0
  replace P0 := Lib.hid P0
  have hk1 : (k : Int) < 1024 := by omega
  obtain ⟨w2, hrun, hm2, hg2, hz2⟩ := h.drew.mp.del hp 0
  have h2 := h.drew.map hm2 hg2
  have ci := h2.ci k hk
  have zk := h2.z k
  have h3 := Lib.hid (h2.tell hk none)
  have hch : Hid (Ch (FT b m) w (w2.setCell ⟨b, k, none⟩ (.bool false))) := Lib.hid (((Ch.refl (FT b m) w).drew.trans ((grown_ch hg2).mono (fun j hj => Or.inr hj))).set ⟨b, k, none⟩ (Or.inl rfl) (.bool false))
  have cs := h.cs k hk
  have cl := h.cl k hk
  have cm := h.cm
  clear h h2 hm2 hg2 hz2 hh hp
  generalize (if (M (P k)).isSome then c - 1 else c) = c2 at *
  generalize updM M (P k) none = M2 at *
  unfold plV at hrun
  generalize (P k).1 = pa at *
  generalize (P k).2 = pc at *
  go_enter Try.func41, Try.ntmps41
  go_wp2_with (first | (go_at_call 58; ((with_reducible refine P0.out.mono ?_); rintro e w' ⟨rfl, hw'⟩; subst w')))
  go_region
  go_wp2
  go_ret
  exact ⟨rfl, h3.out, hch.out⟩
set_option maxHeartbeats 4000000 in
theorem utake_had (pl : Pl) (hp : plOk pl) (h : TP w b m T P c M) (hM : (M pl).isSome = true) :
    Calls Try.prog 29 #[.pointer (some ⟨b, 0, none⟩), plV pl] w fun e w' => e = .returned (.int .i64 (-1)) ∧ Below w.heap.size w w' := by
  have hB : Below w.heap.size w (w.alloc (.cells #[.int .i64 pl.1, .int .i64 pl.2] 63)) := (Below.refl _ _).alloc (Nat.le_refl _) _
  have hrun := (h.keep hB).drew.mp.look_ok hp
  rw [hM] at hrun
  replace hB := Lib.hid hB
  have cm := h.cm
  have lb := h.lt
  clear h hp hM
  generalize (M pl).getD 0 = x at *
  obtain ⟨pa, pc⟩ := pl
  unfold plV at *
  simp only at *
  go_enter Try.func29, Try.ntmps29
  go_wp2
  go_region
  go_wp2
  go_ret
  exact ⟨rfl, hB.out.drew⟩
set_option maxHeartbeats 4000000 in
theorem utake_full (pl : Pl) (hp : plOk pl) (h : TP w b m T P c M) (hM : (M pl).isSome = false) (hf : freeR T = none) :
    Calls Try.prog 29 #[.pointer (some ⟨b, 0, none⟩), plV pl] w fun e w' => e = .returned (.int .i64 (-1)) ∧ Below w.heap.size w w' := by
  have hB : Below w.heap.size w (w.alloc (.cells #[.int .i64 pl.1, .int .i64 pl.2] 63)) := (Below.refl _ _).alloc (Nat.le_refl _) _
  have hrun := (h.keep hB).drew.mp.look_ok hp
  rw [hM] at hrun
  have P0 := uleast_c (h.keep hB).drew
  rw [hf] at P0
  unfold frI at P0
  replace P0 := Lib.hid P0
  replace hB := Lib.hid hB
  have cm := h.cm
  have lb := h.lt
  clear h hp hM hf
  generalize (M pl).getD 0 = x at *
  obtain ⟨pa, pc⟩ := pl
  unfold plV at *
  simp only at *
  go_enter Try.func29, Try.ntmps29
  go_wp2
  go_region
  go_wp2_with (first | (go_at_call 52; ((with_reducible refine P0.out.mono ?_); rintro e w' ⟨rfl, hw'⟩; subst w')))
  go_ret
  exact ⟨rfl, hB.out.drew⟩
set_option maxHeartbeats 4000000 in
theorem utake_yes (pl : Pl) (hp : plOk pl) {k : Nat} (h : TP w b m T P c M) (hM : (M pl).isSome = false) (hf : freeR T = some k) (hk : k < 1024) (hc : c < maxLen) :
    Calls Try.prog 29 #[.pointer (some ⟨b, 0, none⟩), plV pl] w fun e w' => e = .returned (.int .i64 (k : Int)) ∧ TP w' b m (updT T k (some pl)) (updP P k pl) (c + 1) (updM M pl (some (k : Int))) ∧ Ch (FT b m) w w' := by
  have hB : Below w.heap.size w (w.alloc (.cells #[.int .i64 pl.1, .int .i64 pl.2] 63)) := (Below.refl _ _).alloc (Nat.le_refl _) _
  have h1 := (h.keep hB).drew
  have hrun := h1.mp.look_ok hp
  rw [hM] at hrun
  have P0 := uleast_c h1
  rw [hf] at P0
  unfold frI at P0
  replace P0 := Lib.hid P0
  have hA := h.tell hk (some pl)
  have hB2 : Below (w.setCell ⟨b, k, none⟩ (.bool (some pl).isSome)).heap.size (w.setCell ⟨b, k, none⟩ (.bool (some pl).isSome)) ((w.setCell ⟨b, k, none⟩ (.bool (some pl).isSome)).alloc (.cells #[.int .i64 pl.1, .int .i64 pl.2] 63)) := (Below.refl _ _).alloc (Nat.le_refl _) _
  have h2 := (hA.keep hB2).drew
  have P1 := uput_c h2 hk pl hp hc
  rw [hM] at P1
  unfold cntP at P1
  rw [if_neg (by simp)] at P1
  replace P1 := Lib.hid P1
  have hc2 : Hid (Ch (FT b m) w _) := Lib.hid ((((Ch.refl (FT b m) w).set ⟨b, k, none⟩ (Or.inl rfl) (.bool (some pl).isSome)).trans (below_toCh (FT b m) hB2)).drew)
  have cm := h.cm
  have lb := h.lt
  have ci := h.ci k hk
  have zk := h.z k
  have hk1 : (k : Int) < 1024 := by omega
  have hk2 : ((k : Int) == -1) = false := by simp
  have ne : w.heap.size ≠ b := by omega
  have ne' := Ne.symm ne
  clear h hp hM hf h1 h2 hB hA hB2
  generalize (M pl).getD 0 = x at *
  obtain ⟨pa, pc⟩ := pl
  unfold plV at *
  simp only [Option.isSome_some] at *
  go_enter Try.func29, Try.ntmps29
  go_wp2
  go_region
  go_wp2_with (first | (go_at_call 52; ((with_reducible refine P0.out.mono ?_); rintro e w' ⟨rfl, hw'⟩; subst w')) | (go_at_call 53; ((with_reducible refine P1.out.mono ?_); rintro e w' ⟨rfl, h3, c3⟩; replace h3 := Lib.hid h3; replace c3 := Lib.hid (hc2.out.trans c3))))
  go_ret
  exact ⟨rfl, h3.out, c3.out⟩
set_option maxHeartbeats 4000000 in
theorem uswap_no (i j : Int) (h : TP w b m T P c M) (hh : swapB T i j = false) :
    Calls Try.prog 34 #[.pointer (some ⟨b, 0, none⟩), .int .i64 i, .int .i64 j] w fun e w' => e = .returned (.bool false) ∧ w' = w := by
  have Pi := uhas_c i h
  have Pj := uhas_c j h
  unfold swapB at hh
  cases hi : hasT T i
  · rw [hi] at Pi
    replace Pi := Lib.hid Pi
    clear hi Pj hh h
    go_enter Try.func34, Try.ntmps34
    go_wp2_with (first | (go_at_call 58; ((with_reducible refine Pi.out.mono ?_); rintro e w' ⟨rfl, hw'⟩; subst w')))
    go_ret
    exact ⟨rfl, rfl⟩
  · rw [hi] at Pi hh
    rw [Bool.true_and] at hh
    rw [hh] at Pj
    replace Pi := Lib.hid Pi
    replace Pj := Lib.hid Pj
    clear hi hh h
    go_enter Try.func34, Try.ntmps34
    go_wp2_with (first | (go_at_call 58; ((with_reducible first | refine Pi.out.mono ?_ | refine Pj.out.mono ?_); rintro e w' ⟨rfl, hw'⟩; subst w')))
    go_ret
    exact ⟨rfl, rfl⟩
/-- two places of the call's own, whichever was made first -/
structure Two (w0 w : World) (x y : Nat) (p q : Pl) : Prop where
  bel : Below w0.heap.size w0 w
  a0 : w.cell? ⟨x, 0, none⟩ = some (.int .i64 p.1)
  a1 : w.cell? ⟨x, 1, none⟩ = some (.int .i64 p.2)
  b0 : w.cell? ⟨y, 0, none⟩ = some (.int .i64 q.1)
  b1 : w.cell? ⟨y, 1, none⟩ = some (.int .i64 q.2)
set_option maxHeartbeats 8000000 in
theorem uswap_yes {x y : Nat} {p q : Pl} (h : TP w b m T P c M) (hx : x < 1024) (hy : y < 1024) (hi : hasT T (x : Int) = true) (hj : hasT T (y : Int) = true) (px : P x = p) (py : P y = q) (hp : plOk p) (hq : plOk q) (hM : (M q).isSome = true) (hM2 : (updM M q (some (x : Int)) p).isSome = true) (hc : c < maxLen) :
    Calls Try.prog 34 #[.pointer (some ⟨b, 0, none⟩), .int .i64 (x : Int), .int .i64 (y : Int)] w fun e w' => e = .returned (.bool true) ∧ TP w' b m T (updP (updP P x q) y p) c (updM (updM M q (some (x : Int))) p (some (y : Int))) ∧ Ch (FT b m) w w' := by
  have Pi := uhas_c (x : Int) h
  have Pj := uhas_c (y : Int) h
  rw [hi] at Pi
  rw [hj] at Pj
  replace Pi := Lib.hid Pi
  replace Pj := Lib.hid Pj
  have hx1 : (x : Int) < 1024 := by omega
  have hy1 : (y : Int) < 1024 := by omega
  have sx := h.cs x hx
  have cx := h.cl x hx
  have sy := h.cs y hy
  have cy := h.cl y hy
  rw [px] at sx cx
  rw [py] at sy cy
  have kput : Hid (∀ w2, Below w.heap.size w w2 → Calls Try.prog 53 #[.pointer (some ⟨b, 0, none⟩), .int .i64 (x : Int), plV q] w2 fun e w' => e = .returned (.tuple #[]) ∧ TP w' b m T (updP P x q) c (updM M q (some (x : Int))) ∧ Ch (FT b m) w w' ∧ Ch (FT b m) w2 w') := Lib.hid (fun w2 g => by
    have := uput_c (h.keep g) hx q hq hc
    rw [hM] at this
    refine this.mono ?_
    rintro e w' ⟨he, ht, hch⟩
    exact ⟨he, ht, (below_toCh (FT b m) g).trans hch, hch⟩)
  have kput2 : Hid (∀ w2, TP w2 b m T (updP P x q) c (updM M q (some (x : Int))) → Calls Try.prog 53 #[.pointer (some ⟨b, 0, none⟩), .int .i64 (y : Int), plV p] w2 fun e w' => e = .returned (.tuple #[]) ∧ TP w' b m T (updP (updP P x q) y p) c (updM (updM M q (some (x : Int))) p (some (y : Int))) ∧ Ch (FT b m) w2 w') := Lib.hid (fun w2 h2 => by
    have := uput_c h2 hy p hp hc
    rw [hM2] at this
    exact this)
  have lb := h.lt
  have lm := h.mp.lt
  have ne : w.heap.size ≠ b := by omega
  have ne' := Ne.symm ne
  have ne1 : w.heap.size + 1 ≠ b := by omega
  have ne1' := Ne.symm ne1
  clear h hi hj px py hp hq hM hM2 hc
  obtain ⟨pa, pc⟩ := p
  obtain ⟨qa, qc⟩ := q
  unfold plV at *
  simp only at *
  go_enter Try.func34, Try.ntmps34
  go_wp2_with (first | (go_at_call 58; ((with_reducible first | refine Pi.out.mono ?_ | refine Pj.out.mono ?_); rintro e w' ⟨rfl, hw'⟩; subst w')))
  go_region
  · have h2 : Two w (((w.alloc (.cells #[.int .i64 pa, .int .i64 pc] 63)).alloc (.cells #[.int .i64 qa, .int .i64 qc] 63)).drew) (w.heap.size) (w.heap.size + 1) (pa, pc) (qa, qc) :=
      ⟨(((Below.refl _ _).alloc (Nat.le_refl _) _).alloc (by simp) _).drew, by simp, by simp, by simp, by simp⟩
    generalize (((w.alloc (.cells #[.int .i64 pa, .int .i64 pc] 63)).alloc (.cells #[.int .i64 qa, .int .i64 qc] 63)).drew) = w2 at h2 ⊢
    have P1 := Lib.hid (kput.out w2 h2.bel)
    have a0 := h2.a0
    have a1 := h2.a1
    have b0 := h2.b0
    have b1 := h2.b1
    clear sx cx sy cy
    simp only at a0 a1 b0 b1
    go_wp2_with fail
    refine P1.out.mono ?_
    rintro e w3 ⟨rfl, h3, c3, d3⟩
    have hbl := d3.block (w.heap.size) (World.block_lt_of_cell? w2 _ a0) (by unfold FT; omega)
    replace a0 := (World.cell?_of_block (a := ⟨w.heap.size, 0, none⟩) hbl).trans a0
    replace a1 := (World.cell?_of_block (a := ⟨w.heap.size, 1, none⟩) hbl).trans a1
    have P2 := Lib.hid (kput2.out w3 h3)
    replace c3 := Lib.hid c3
    clear b0 b1 P1 kput kput2 h3 d3 hbl h2
    go_wp2_with fail
    refine P2.out.mono ?_
    rintro e w4 ⟨rfl, h4, c4⟩
    replace h4 := Lib.hid h4
    replace c4 := Lib.hid (c3.out.trans c4)
    go_wp2_with fail
    go_ret
    exact ⟨rfl, h4.out, c4.out⟩
  · have h2 : Two w (((w.alloc (.cells #[.int .i64 qa, .int .i64 qc] 63)).alloc (.cells #[.int .i64 pa, .int .i64 pc] 63)).drew) (w.heap.size + 1) (w.heap.size) (pa, pc) (qa, qc) :=
      ⟨(((Below.refl _ _).alloc (Nat.le_refl _) _).alloc (by simp) _).drew, by simp, by simp, by simp, by simp⟩
    generalize (((w.alloc (.cells #[.int .i64 qa, .int .i64 qc] 63)).alloc (.cells #[.int .i64 pa, .int .i64 pc] 63)).drew) = w2 at h2 ⊢
    have P1 := Lib.hid (kput.out w2 h2.bel)
    have a0 := h2.a0
    have a1 := h2.a1
    have b0 := h2.b0
    have b1 := h2.b1
    clear sx cx sy cy
    simp only at a0 a1 b0 b1
    go_wp2_with fail
    refine P1.out.mono ?_
    rintro e w3 ⟨rfl, h3, c3, d3⟩
    have hbl := d3.block (w.heap.size + 1) (World.block_lt_of_cell? w2 _ a0) (by unfold FT; omega)
    replace a0 := (World.cell?_of_block (a := ⟨w.heap.size + 1, 0, none⟩) hbl).trans a0
    replace a1 := (World.cell?_of_block (a := ⟨w.heap.size + 1, 1, none⟩) hbl).trans a1
    have P2 := Lib.hid (kput2.out w3 h3)
    replace c3 := Lib.hid c3
    clear b0 b1 P1 kput kput2 h3 d3 hbl h2
    go_wp2_with fail
    refine P2.out.mono ?_
    rintro e w4 ⟨rfl, h4, c4⟩
    replace h4 := Lib.hid h4
    replace c4 := Lib.hid (c3.out.trans c4)
    go_wp2_with fail
    go_ret
    exact ⟨rfl, h4.out, c4.out⟩
end
end Wd
end Go.Proofs.Ytdaojohdmidemaa

/- The landed table does what the laws ask of it. -/
namespace Go.Proofs.Ytdaojohdmidemaa
open Go.RowKit Go.Maps
set_option linter.unusedVariables false
set_option maxRecDepth 20000
namespace Wd
def TA (w : World) (p : Nat) (T : Tst) (F : Nat → Prop) : Prop :=
  ∃ m P, TP w p m T P (idsT T).length (mapOf T) ∧ Inv T ∧ (∀ k q, T k = some q → P k = q) ∧ F = FT p m
theorem mapOf_no : mapOf noT = fun _ => none := by
  funext q
  exact mapOf_none (fun k h => by cases h)
theorem ids_no : (idsT noT).length = 0 := by
  rw [idsT_def]
  simp [noT]
theorem newer_refl (F : Nat → Prop) (s : Nat) : Newer F F s := fun k h => Or.inl h
theorem ids_lt (T : Tst) : (idsT T).length < maxLen := Nat.lt_of_le_of_lt (idsT_len T) (by decide)
theorem KT : TableK TA := by
  constructor
  case lt =>
    rintro w p T F ⟨m, P, h, hI, hP, rfl⟩ k hk
    rcases hk with rfl | rfl
    · exact h.lt
    · exact h.mp.lt
  case keep =>
    rintro w w' p T F ⟨m, P, h, hI, hP, rfl⟩ hk
    exact ⟨m, P, h.same (hk p (Or.inl rfl)) (hk m (Or.inr rfl)), hI, hP, rfl⟩
  case take =>
    rintro w p T F pl ⟨m, P, h, hI, hP, rfl⟩ hp
    have hM := (mapOf_getD T pl).2
    cases ho : ofR T pl with
    | some j =>
      rw [ho] at hM
      have e1 : takeI T pl = -1 := by unfold takeI; rw [ho]; rfl
      have e2 : takeT T pl = T := by unfold takeT; rw [ho]; rfl
      rw [e1, e2]
      refine (utake_had pl hp h hM).mono ?_
      rintro e w' ⟨rfl, hb⟩
      exact ⟨_, rfl, ⟨m, P, h.keep hb, hI, hP, rfl⟩, below_toCh _ hb, newer_refl _ _⟩
    | none =>
      rw [ho] at hM
      cases hf : freeR T with
      | none =>
        have e1 : takeI T pl = -1 := by unfold takeI; rw [ho, hf]; rfl
        have e2 : takeT T pl = T := by unfold takeT; rw [ho, hf]; rfl
        rw [e1, e2]
        refine (utake_full pl hp h hM hf).mono ?_
        rintro e w' ⟨rfl, hb⟩
        exact ⟨_, rfl, ⟨m, P, h.keep hb, hI, hP, rfl⟩, below_toCh _ hb, newer_refl _ _⟩
      | some k =>
        obtain ⟨k1, k2, hk⟩ := freeR_at hf
        have e1 : takeI T pl = (k : Int) := by unfold takeI; rw [ho, hf]; rfl
        have e2 : takeT T pl = updT T k (some pl) := by unfold takeT; rw [ho, hf]; rfl
        rw [e1, e2]
        refine (utake_yes pl hp h hM hf k2 (ids_lt T)).mono ?_
        rintro e w' ⟨rfl, h', hc⟩
        rw [← ids_take k2 hk (p := pl), ← mapOf_take hI hp ho hf] at h'
        refine ⟨_, rfl, ⟨m, _, h', hI.upd k1 k2 hp (fun j _ => ofR_none hI ho j), fun j q hj => ?_, rfl⟩, hc, newer_refl _ _⟩
        unfold updT at hj
        unfold updP
        by_cases c : j = k
        · rw [if_pos c] at hj ⊢; cases hj; rfl
        · rw [if_neg c] at hj ⊢; exact hP j q hj
  case give =>
    rintro w p T F i ⟨m, P, h, hI, hP, rfl⟩ _ _
    cases hh : hasT T i
    · have e2 : giveT T i = T := by unfold giveT; rw [hh]; rfl
      rw [e2]
      refine (ugive_no i h hh).mono ?_
      rintro e w' ⟨rfl, rfl⟩
      exact ⟨_, rfl, ⟨m, P, h, hI, hP, rfl⟩, Ch.refl _ _, newer_refl _ _⟩
    · obtain ⟨k, rfl, hk, _, q, hq⟩ := hasT_some hh
      have e2 : giveT T (k : Int) = updT T k none := by unfold giveT; rw [hh, if_pos rfl]; simp
      rw [e2]
      have hPk := hP k q hq
      refine (ugive_yes h hk hh (by rw [hPk]; exact (hI.bd k q hq).2.2)).mono ?_
      rintro e w' ⟨rfl, h', hc⟩
      rw [hPk, if_pos (by rw [mapOf_some hI hq]; rfl), ← mapOf_give hI hq] at h'
      have hl := ids_give hk hq
      have e3 : (idsT T).length - 1 = (idsT (updT T k none)).length := by omega
      rw [e3] at h'
      refine ⟨_, rfl, ⟨m, P, h', hI.del k, fun j r hj => ?_, rfl⟩, hc, newer_refl _ _⟩
      unfold updT at hj
      by_cases c : j = k
      · rw [if_pos c] at hj; cases hj
      · rw [if_neg c] at hj; exact hP j r hj
  case swap =>
    rintro w p T F i j ⟨m, P, h, hI, hP, rfl⟩ _ _ _ _
    cases hh : swapB T i j
    · have e2 : swapT T i j = T := by unfold swapT; rw [hh]; rfl
      rw [e2]
      refine (uswap_no i j h hh).mono ?_
      rintro e w' ⟨rfl, rfl⟩
      exact ⟨_, rfl, ⟨m, P, h, hI, hP, rfl⟩, Ch.refl _ _, newer_refl _ _⟩
    · have hb := hh
      unfold swapB at hb
      obtain ⟨hi, hj⟩ := Bool.and_eq_true_iff.1 hb
      obtain ⟨x, rfl, hx, _, a, ha⟩ := hasT_some hi
      obtain ⟨y, rfl, hy, _, b, hb'⟩ := hasT_some hj
      rw [(swapT_at ha hb' hx hy).2]
      refine (uswap_yes h hx hy hi hj (hP x a ha) (hP y b hb') (hI.bd x a ha).2.2 (hI.bd y b hb').2.2 (by rw [mapOf_some hI hb']; rfl) ?_ (ids_lt T)).mono ?_
      · unfold updM
        by_cases c : a = b
        · rw [if_pos c]; rfl
        · rw [if_neg c, mapOf_some hI ha]; rfl
      · rintro e w' ⟨rfl, h', hc⟩
        rw [← mapOf_swap hI ha hb'] at h'
        have e1 : (idsT (updT (updT T x (some b)) y (some a))).length = (idsT T).length := by
          have e3 : ∃ r, updT T x (some b) y = some r := by
            unfold updT
            by_cases c : y = x
            · rw [if_pos c]; exact ⟨_, rfl⟩
            · rw [if_neg c]; exact ⟨_, hb'⟩
          obtain ⟨r, hr⟩ := e3
          rw [ids_put hy hr, ids_put hx ha]
        have h2 : TP w' p m (updT (updT T x (some b)) y (some a)) (updP (updP P x b) y a) (idsT (updT (updT T x (some b)) y (some a))).length (mapOf (updT (updT T x (some b)) y (some a))) := by
          rw [e1]
          refine ⟨fun k hk => ?_, h'.cs, h'.cl, h'.cm, h'.z, h'.ne, h'.mp⟩
          rw [h'.ci k hk]
          congr 2
          unfold inR updT
          by_cases c : k = y
          · rw [if_pos c, c, hb']; rfl
          · rw [if_neg c]
            by_cases d : k = x
            · rw [if_pos d, d, ha]; rfl
            · rw [if_neg d]
        refine ⟨_, rfl, ⟨m, _, h2, hI.swap ha hb', fun k r hk => ?_, rfl⟩, hc, newer_refl _ _⟩
        unfold updT at hk
        unfold updP
        by_cases c : k = y
        · rw [if_pos c] at hk ⊢; cases hk; rfl
        · rw [if_neg c] at hk ⊢
          by_cases d : k = x
          · rw [if_pos d] at hk ⊢; cases hk; rfl
          · rw [if_neg d] at hk ⊢; exact hP k r hk
  case at' =>
    rintro w p T F i ⟨m, P, h, hI, hP, rfl⟩ _ _
    exact uat_c h i hP
  case of =>
    rintro w p T F pl ⟨m, P, h, hI, hP, rfl⟩ hp
    have := uof_c h pl hp
    rw [(mapOf_getD T pl).1, (mapOf_getD T pl).2] at this
    exact this
  case ids =>
    rintro w p T F ⟨m, P, h, hI, hP, rfl⟩
    exact uids_c h
  case new =>
    intro w
    refine (unew_c w).mono ?_
    rintro e w' ⟨rfl, h, hb⟩
    refine ⟨_, _, rfl, ⟨w.heap.size, fun _ => (0, 0), ?_, Inv.no, fun k q hk => (by cases hk), rfl⟩, fun k hk => ?_, hb⟩
    · rw [ids_no, mapOf_no]; exact h
    · rcases hk with rfl | rfl <;> omega
end Wd
end Go.Proofs.Ytdaojohdmidemaa

/- Plain facts on heads, chapter 2: no program is named here. -/
namespace Go.Proofs.Ytdaojohdmidemaa
set_option maxRecDepth 20000
open Go.RowKit
namespace Wd

/-- do the parts go into their bits -/
def hok (a b c : Int) : Bool := decide (0 ≤ a) && decide (a ≤ 4095) && decide (0 ≤ b) && decide (b ≤ 255) && decide (0 ≤ c) && decide (c ≤ 15)
/-- the word of a head -/
def pk (a b c : Int) : Int := if hok a b c then a * 1048576 + b * 4096 + c * 256 + 1 else 0
/-- is it a head -/
def isH (w : Int) : Bool := w % 256 == 1
def hc (w : Int) : Int := w / 1048576
def hs (w : Int) : Int := w / 4096 % 256
def hk (w : Int) : Int := w / 256 % 16
def oc (w : Int) : Int := if isH w then hc w else 0
def os (w : Int) : Int := if isH w then hs w else 0
def ok (w : Int) : Int := if isH w then hk w else 0

theorem or_add (x y : Int) (i : Nat) (hx : 0 ≤ x) (hx' : x ≤ 4294967295) (hy : 0 ≤ y) (hy' : y < 2 ^ i) (hd : x % 2 ^ i = 0) (hy2 : y ≤ 4294967295) : bits .or .u32 x y = x + y := by
  rw [u32_or x y hx (by omega) hy (by omega)]
  obtain ⟨k, hk⟩ : ∃ k : Nat, x = 2 ^ i * k := by
    refine ⟨(x / 2 ^ i).toNat, ?_⟩
    have h1 := Int.mul_ediv_add_emod x (2 ^ i)
    have h2 : 0 ≤ x / 2 ^ i := Int.ediv_nonneg hx (Int.pow_nonneg (by omega))
    rw [Int.toNat_of_nonneg h2]; omega
  have hxn : x.toNat = 2 ^ i * k := by
    have : ((2 : Int) ^ i * k) = ((2 ^ i * k : Nat) : Int) := by simp
    rw [hk, this]; omega
  have hyn : y.toNat < 2 ^ i := by
    have : ((2 ^ i : Nat) : Int) = (2 : Int) ^ i := by simp
    omega
  have := Nat.two_pow_add_eq_or_of_lt hyn k
  rw [hxn, ← this, ← hxn]; omega
theorem and_mod (x : Int) (i : Nat) (m : Int) (hm : m = 2 ^ i - 1) (hx : 0 ≤ x) (hx' : x ≤ 4294967295) (hm' : m ≤ 4294967295) : bits .and .u32 x m = x % 2 ^ i := by
  have hp : ((2 ^ i : Nat) : Int) = (2 : Int) ^ i := by simp
  have h1 : 1 ≤ 2 ^ i := Nat.one_le_two_pow
  rw [u32_and x m hx (by omega) (by omega) (by omega)]
  have : m.toNat = 2 ^ i - 1 := by omega
  rw [this, Nat.and_two_pow_sub_one_eq_mod, ← hp]
  have e : ((x.toNat : Nat) : Int) = x := Int.toNat_of_nonneg hx
  rw [Int.natCast_emod, e]
theorem bits_bd (op : BinOp) (a b : Int) : 0 ≤ bits op .u32 a b ∧ bits op .u32 a b ≤ 4294967295 := by
  unfold bits
  have := IntKind.wrap_u32' 
  split <;> simp only [IntKind.wrap_u32'] <;> omega
theorem and255 (x : Int) (hx : 0 ≤ x) (hx' : x ≤ 4294967295) : bits .and .u32 x 255 = x % 256 := and_mod x 8 255 rfl hx hx' (by omega)
theorem and15 (x : Int) (hx : 0 ≤ x) (hx' : x ≤ 4294967295) : bits .and .u32 x 15 = x % 16 := and_mod x 4 15 rfl hx hx' (by omega)
theorem and4095 (x : Int) (hx : 0 ≤ x) (hx' : x ≤ 4294967295) : bits .and .u32 x 4095 = x % 4096 := and_mod x 12 4095 rfl hx hx' (by omega)
theorem hok_iff (a b c : Int) : hok a b c = true ↔ (0 ≤ a ∧ a ≤ 4095) ∧ (0 ≤ b ∧ b ≤ 255) ∧ (0 ≤ c ∧ c ≤ 15) := by simp [hok]; omega
theorem pk_bd (a b c : Int) : 0 ≤ pk a b c ∧ pk a b c ≤ 4294967295 := by
  unfold pk; split
  · rename_i h; rw [hok_iff] at h; omega
  · omega
/-- what Pack makes of shifts -/
theorem pack_eq (a b c : Int) (ha : 0 ≤ a) (ha' : a ≤ 4095) (hb : 0 ≤ b) (hb' : b ≤ 255) (hc : 0 ≤ c) (hc' : c ≤ 15) :
    bits .or .u32 (bits .or .u32 (bits .or .u32 (a % 4294967296 * 1048576 % 4294967296) (b % 4294967296 * 4096 % 4294967296)) (c % 4294967296 * 256 % 4294967296)) 1 = a * 1048576 + b * 4096 + c * 256 + 1 := by
  rw [show a % 4294967296 * 1048576 % 4294967296 = a * 1048576 by omega, show b % 4294967296 * 4096 % 4294967296 = b * 4096 by omega, show c % 4294967296 * 256 % 4294967296 = c * 256 by omega]
  rw [or_add (a * 1048576) (b * 4096) 20 (by omega) (by omega) (by omega) (by omega) (by omega) (by omega)]
  rw [or_add (a * 1048576 + b * 4096) (c * 256) 12 (by omega) (by omega) (by omega) (by omega) (by omega) (by omega)]
  rw [or_add (a * 1048576 + b * 4096 + c * 256) 1 8 (by omega) (by omega) (by omega) (by omega) (by omega) (by omega)]
theorem pack_eq2 (a b c : Int) (ha : 0 ≤ a) (ha' : a ≤ 4095) (hb : 0 ≤ b) (hb' : b ≤ 255) (hc : 0 ≤ c) (hc' : c ≤ 15) :
    bits .or .u32 (bits .or .u32 (bits .or .u32 (a * 1048576) (b * 4096)) (c * 256)) 1 = a * 1048576 + b * 4096 + c * 256 + 1 := by
  have := pack_eq a b c ha ha' hb hb' hc hc'
  rwa [show a % 4294967296 * 1048576 % 4294967296 = a * 1048576 by omega, show b % 4294967296 * 4096 % 4294967296 = b * 4096 by omega, show c % 4294967296 * 256 % 4294967296 = c * 256 by omega] at this
theorem hok_cases (a b c : Int) : ((a < 0 ∨ 4095 < a ∨ b < 0 ∨ 255 < b ∨ c < 0 ∨ 15 < c) ∧ hok a b c = false) ∨ ((0 ≤ a ∧ a ≤ 4095 ∧ 0 ≤ b ∧ b ≤ 255 ∧ 0 ≤ c ∧ c ≤ 15) ∧ hok a b c = true) := by
  by_cases h : (0 ≤ a ∧ a ≤ 4095) ∧ (0 ≤ b ∧ b ≤ 255) ∧ (0 ≤ c ∧ c ≤ 15)
  · exact Or.inr ⟨by omega, (hok_iff a b c).2 h⟩
  · refine Or.inl ⟨by omega, ?_⟩
    cases e : hok a b c
    · rfl
    · exact absurd ((hok_iff a b c).1 e) h
theorem i64_and7 (n : Int) : bits .and .i64 n 7 = n % 8 := by
  have h127 : (BitVec.ofInt 64 7).toNat = 2 ^ 3 - 1 := by decide
  have key : (BitVec.ofInt 64 n &&& BitVec.ofInt 64 7).toNat = (n % ((2 ^ 64 : Nat) : Int)).toNat % 2 ^ 3 := by
    rw [BitVec.toNat_and, BitVec.toNat_ofInt, h127, Nat.and_two_pow_sub_one_eq_mod]
  show IntKind.i64.wrap ((BitVec.ofInt 64 n &&& BitVec.ofInt 64 7).toNat : Nat) = n % 8
  rw [key, IntKind.wrap_i64]
  omega
theorem i64_and4095 (n : Int) : bits .and .i64 n 4095 = n % 4096 := by
  have h127 : (BitVec.ofInt 64 4095).toNat = 2 ^ 12 - 1 := by decide
  have key : (BitVec.ofInt 64 n &&& BitVec.ofInt 64 4095).toNat = (n % ((2 ^ 64 : Nat) : Int)).toNat % 2 ^ 12 := by
    rw [BitVec.toNat_and, BitVec.toNat_ofInt, h127, Nat.and_two_pow_sub_one_eq_mod]
  show IntKind.i64.wrap ((BitVec.ofInt 64 n &&& BitVec.ofInt 64 4095).toNat : Nat) = n % 4096
  rw [key, IntKind.wrap_i64]
  omega
theorem i64_and8191 (n : Int) : bits .and .i64 n 8191 = n % 8192 := by
  have h127 : (BitVec.ofInt 64 8191).toNat = 2 ^ 13 - 1 := by decide
  have key : (BitVec.ofInt 64 n &&& BitVec.ofInt 64 8191).toNat = (n % ((2 ^ 64 : Nat) : Int)).toNat % 2 ^ 13 := by
    rw [BitVec.toNat_and, BitVec.toNat_ofInt, h127, Nat.and_two_pow_sub_one_eq_mod]
  show IntKind.i64.wrap ((BitVec.ofInt 64 n &&& BitVec.ofInt 64 8191).toNat : Nat) = n % 8192
  rw [key, IntKind.wrap_i64]
  omega
theorem wrap_fit (n m : Int) (h1 : -9223372036854775808 ≤ n) (h2 : n ≤ 9223372036854775807) (hm : 1 ≤ m) (hm' : m ≤ 4294967296) : (n % 18446744073709551616 / m = 0) ↔ (0 ≤ n ∧ n < m) := by
  rw [Int.ediv_eq_iff_of_pos (by omega)]
  omega
/-- what is packed is opened -/
theorem pk_open (a b c : Int) (h : hok a b c = true) : isH (pk a b c) = true ∧ hc (pk a b c) = a ∧ hs (pk a b c) = b ∧ hk (pk a b c) = c := by
  have h' := (hok_iff a b c).1 h
  simp only [pk, h, if_true, isH, hc, hs, hk, beq_iff_eq]
  refine ⟨?_, ?_, ?_, ?_⟩ <;> omega
/-- what is opened is packed -/
theorem open_pk (w : Int) (h0 : 0 ≤ w) (h1 : w ≤ 4294967295) (h : isH w = true) : hok (hc w) (hs w) (hk w) = true ∧ pk (hc w) (hs w) (hk w) = w := by
  simp only [isH, beq_iff_eq] at h
  have e : hok (hc w) (hs w) (hk w) = true := by
    rw [hok_iff]; unfold hc hs hk; omega
  refine ⟨e, ?_⟩
  simp only [pk, e, if_true]; unfold hc hs hk; omega
/-- a word that one bit of the lowest eight is turned in -/
theorem xor_bit (w m : Int) (i : Nat) (hm : m = 2 ^ i) (hi : i < 8) (h0 : 0 ≤ w) (h1 : w ≤ 4294967295) (h : isH w = true) : isH (bits .xor .u32 w m) = false := by
  have hp : ((2 ^ i : Nat) : Int) = (2 : Int) ^ i := by simp
  have h2 : 2 ^ i < 2 ^ 8 := Nat.pow_lt_pow_right (by omega) hi
  have h3 : 0 < 2 ^ i := Nat.two_pow_pos i
  rw [u32_xor w m h0 (by omega) (by omega) (by omega)]
  simp only [isH, beq_iff_eq] at h
  simp only [isH, beq_eq_false_iff_ne, ne_eq]
  have e : m.toNat = 2 ^ i := by omega
  intro hh
  have e2 : (w.toNat ^^^ 2 ^ i) % 2 ^ 8 = 1 := by rw [e] at hh; omega
  have e3 : w.toNat % 2 ^ 8 = 1 := by omega
  have e4 : ((w.toNat ^^^ 2 ^ i) % 2 ^ 8).testBit i = (w.toNat % 2 ^ 8).testBit i := by rw [e2, e3]
  rw [Nat.testBit_mod_two_pow, Nat.testBit_mod_two_pow, Nat.testBit_xor, Nat.testBit_two_pow_self] at e4
  cases hb : w.toNat.testBit i <;> rw [hb] at e4 <;> simp [hi] at e4
end Wd
end Go.Proofs.Ytdaojohdmidemaa

/- What each function of the package head, and of the document's own answer, returns. -/
namespace Go.Proofs.Ytdaojohdmidemaa
set_option maxRecDepth 20000
open Go.RowKit
namespace Wd

theorem fits_c (n b m : Int) (hb : (b = 12 ∧ m = 4096) ∨ (b = 8 ∧ m = 256) ∨ (b = 4 ∧ m = 16)) (h1 : -9223372036854775808 ≤ n) (h2 : n ≤ 9223372036854775807) (w : World) :
    Calls Try.prog 49 #[.int .i64 n, .int .i64 b] w fun e w' => e = .returned (.bool (decide (0 ≤ n ∧ n < m))) ∧ w = w' := by
  have hw : (n % 18446744073709551616 / m == 0) = decide (0 ≤ n ∧ n < m) := by
    rw [Bool.eq_iff_iff, beq_iff_eq, decide_eq_true_iff]
    exact wrap_fit n m h1 h2 (by omega) (by omega)
  rcases hb with ⟨rfl, rfl⟩ | ⟨rfl, rfl⟩ | ⟨rfl, rfl⟩ <;>
  · rw [← hw]; clear hw
    go_enter Try.func49, Try.ntmps49
    go_wp2
    go_ret
    exact ⟨rfl, rfl⟩
def Dr (w w' : World) : Prop := ∃ n, w' = w.drewN n
theorem part_c (a t b m l : Int) (h0 : 0 ≤ a) (h1 : a ≤ 4294967295) (hb : (t = 0 ∧ b = 8 ∧ l = 1 ∧ m = 256) ∨ (t = 8 ∧ b = 4 ∧ l = 256 ∧ m = 16) ∨ (t = 12 ∧ b = 8 ∧ l = 4096 ∧ m = 256) ∨ (t = 20 ∧ b = 12 ∧ l = 1048576 ∧ m = 4096)) (w : World) :
    Calls Try.prog 62 #[.int .u32 a, .int .i64 t, .int .i64 b] w fun e w' => e = .returned (.int .i64 (a / l % m)) ∧ w' = w.drew := by
  have k8 := fun x h h' => and255 x h h'
  have k4 := fun x h h' => and15 x h h'
  have k12 := fun x h h' => and4095 x h h'
  rcases hb with ⟨rfl, rfl, rfl, rfl⟩ | ⟨rfl, rfl, rfl, rfl⟩ | ⟨rfl, rfl, rfl, rfl⟩ | ⟨rfl, rfl, rfl, rfl⟩ <;>
  · go_enter Try.func62, Try.ntmps62
    go_wp2
    go_region
    all_goals go_wp2
    all_goals go_ret
    exact ⟨by
      first
      | (refine congrArg Ending.returned (congrArg (Value.int .i64) ?_); show a % 256 = a / 1 % 256; omega)
      | (refine congrArg Ending.returned (congrArg (Value.int .i64) ?_); show wrap64 (bits _ _ _ _) = _; (first | rw [k8 _ (by omega) (by omega)] | rw [k4 _ (by omega) (by omega)] | rw [k12 _ (by omega) (by omega)]); rw [IntWalk.wrap64_in _ (by omega)]), rfl⟩
end Wd
end Go.Proofs.Ytdaojohdmidemaa

/- What Pack, Open, Class, Size return. -/
namespace Go.Proofs.Ytdaojohdmidemaa
set_option maxRecDepth 20000
open Go.RowKit
namespace Wd
theorem Class_c (a : Int) (h0 : 0 ≤ a) (h1 : a ≤ 4294967295) (w : World) :
    Calls Try.prog 43 #[.int .u32 a] w fun e w' => e = .returned (.int .i64 (hc a)) ∧ w' = w.drew := by
  go_enter Try.func43, Try.ntmps43
  go_wp2_with (first | (go_at_call 62; ((with_reducible refine (part_c _ _ _ _ _ ?_ ?_ (by first | exact Or.inl ⟨rfl, rfl, rfl, rfl⟩ | exact Or.inr (Or.inl ⟨rfl, rfl, rfl, rfl⟩) | exact Or.inr (Or.inr (Or.inl ⟨rfl, rfl, rfl, rfl⟩)) | exact Or.inr (Or.inr (Or.inr ⟨rfl, rfl, rfl, rfl⟩))) _).mono ?_); (first | with_reducible assumption | omega); (first | with_reducible assumption | omega); rintro e w' ⟨rfl, rfl⟩)))
  go_ret
  refine ⟨congrArg Ending.returned (congrArg (Value.int .i64) ?_), rfl⟩
  unfold hc; omega
theorem Size_c (a : Int) (h0 : 0 ≤ a) (h1 : a ≤ 4294967295) (w : World) :
    Calls Try.prog 44 #[.int .u32 a] w fun e w' => e = .returned (.int .i64 (hs a)) ∧ w' = w.drew := by
  go_enter Try.func44, Try.ntmps44
  go_wp2_with (first | (go_at_call 62; ((with_reducible refine (part_c _ _ _ _ _ ?_ ?_ (by first | exact Or.inl ⟨rfl, rfl, rfl, rfl⟩ | exact Or.inr (Or.inl ⟨rfl, rfl, rfl, rfl⟩) | exact Or.inr (Or.inr (Or.inl ⟨rfl, rfl, rfl, rfl⟩)) | exact Or.inr (Or.inr (Or.inr ⟨rfl, rfl, rfl, rfl⟩))) _).mono ?_); (first | with_reducible assumption | omega); (first | with_reducible assumption | omega); rintro e w' ⟨rfl, rfl⟩)))
  go_ret
  refine ⟨congrArg Ending.returned (congrArg (Value.int .i64) ?_), rfl⟩
  rfl
theorem Pack_c (a b c : Int) (ha : -9223372036854775808 ≤ a) (ha' : a ≤ 9223372036854775807) (hb : -9223372036854775808 ≤ b) (hb' : b ≤ 9223372036854775807) (hc : -9223372036854775808 ≤ c) (hc' : c ≤ 9223372036854775807) (w : World) :
    Calls Try.prog 26 #[.agg #[.int .i64 a, .int .i64 b, .int .i64 c]] w fun e w' => e = .returned (.tuple #[.int .u32 (pk a b c), .bool (hok a b c)]) ∧ w' = w.alloc (.cells #[.int .i64 a, .int .i64 b, .int .i64 c] 61) := by
  rcases hok_cases a b c with ⟨h, e⟩ | ⟨⟨h1, h2, h3, h4, h5, h6⟩, e⟩
  · have ev : pk a b c = 0 := by simp [pk, e]
    have key : decide (0 ≤ a ∧ a < 4096) = false ∨ decide (0 ≤ a ∧ a < 4096) = true ∧ decide (0 ≤ b ∧ b < 256) = false ∨ decide (0 ≤ a ∧ a < 4096) = true ∧ decide (0 ≤ b ∧ b < 256) = true ∧ decide (0 ≤ c ∧ c < 16) = false := by
      simp only [decide_eq_true_eq, decide_eq_false_iff_not]; omega
    rw [e, ev]; clear e ev h
    rcases key with k1 | ⟨k1, k2⟩ | ⟨k1, k2, k3⟩ <;>
    · go_enter Try.func26, Try.ntmps26
      go_wp2_with (first | (go_at_call 49; ((with_reducible refine (fits_c _ _ _ (by first | exact Or.inl ⟨rfl, rfl⟩ | exact Or.inr (Or.inl ⟨rfl, rfl⟩) | exact Or.inr (Or.inr ⟨rfl, rfl⟩)) ?_ ?_ _).mono ?_); (first | with_reducible assumption | omega); (first | with_reducible assumption | omega); rintro e w' ⟨rfl, rfl⟩)))
      go_ret2
      exact ⟨rfl, rfl⟩
  · have ev : pk a b c = a * 1048576 + b * 4096 + c * 256 + 1 := by simp [pk, e]
    have k1 : decide (0 ≤ a ∧ a < 4096) = true := by simp; omega
    have k2 : decide (0 ≤ b ∧ b < 256) = true := by simp; omega
    have k3 : decide (0 ≤ c ∧ c < 16) = true := by simp; omega
    have k := Lib.hid (pack_eq a b c h1 h2 h3 h4 h5 h6)
    rw [e, ev]; clear e ev h1 h2 h3 h4 h5 h6
    go_enter Try.func26, Try.ntmps26
    go_wp2_with (first | (go_at_call 49; ((with_reducible refine (fits_c _ _ _ (by first | exact Or.inl ⟨rfl, rfl⟩ | exact Or.inr (Or.inl ⟨rfl, rfl⟩) | exact Or.inr (Or.inr ⟨rfl, rfl⟩)) ?_ ?_ _).mono ?_); (first | with_reducible assumption | omega); (first | with_reducible assumption | omega); rintro e w' ⟨rfl, rfl⟩)))
    go_ret2
    rw [← k.out]
    exact ⟨rfl, rfl⟩
end Wd
end Go.Proofs.Ytdaojohdmidemaa

/- What each function of the package fit, and of the document's own answer, returns. -/
namespace Go.Proofs.Ytdaojohdmidemaa
set_option maxRecDepth 20000
open Go.RowKit
namespace Wd
set_option maxHeartbeats 4000000 in
theorem words_c (n : Int) (h1 : -9223372036854775808 ≤ n) (h2 : n ≤ 9223372036854775807) (w : World) :
    Calls Try.prog 24 #[.int .i64 n] w fun e w' => e = .returned (.int .i64 (wd n)) ∧ w' = w := by
  rcases wd_cases n with ⟨h | h, e⟩ | ⟨rfl, e⟩ | ⟨rfl, e⟩ | ⟨rfl, e⟩ | ⟨rfl, e⟩ | ⟨rfl, e⟩
  all_goals
    rw [e]; clear e
    go_enter Try.func24, Try.ntmps24
    go_wp2
    go_ret
    exact ⟨rfl, rfl⟩
set_option maxHeartbeats 16000000 in
theorem of_c (n : Int) (h1 : -9223372036854775808 ≤ n) (h2 : n ≤ 9223372036854775807) (w : World) :
    Calls Try.prog 25 #[.int .i64 n] w fun e w' => e = .returned (.int .i64 (fo n)) ∧ w' = w := by
  have f0 : wd 0 = 4 := rfl
  have f1 : wd 1 = 8 := rfl
  have f2 : wd 2 = 16 := rfl
  have f3 : wd 3 = 32 := rfl
  have f4 : wd 4 = 64 := rfl
  rcases fo_cases n with ⟨h | h, e⟩ | ⟨l0, l1, e⟩ | ⟨l0, l1, e⟩ | ⟨l0, l1, e⟩ | ⟨l0, l1, e⟩ | ⟨l0, l1, e⟩
  · rw [e]; clear e
    go_enter Try.func25, Try.ntmps25
    go_wp2_with (first | (go_at_call 24; ((with_reducible refine (words_c _ ?_ ?_ _).mono ?_); (first | with_reducible assumption | omega); (first | with_reducible assumption | omega); rintro e w' ⟨rfl, rfl⟩)))
    go_ret
    exact ⟨rfl, rfl⟩
  · rw [e]; clear e
    go_enter Try.func25, Try.ntmps25
    go_wp2_with (first | (go_at_call 24; ((with_reducible refine (words_c _ ?_ ?_ _).mono ?_); (first | with_reducible assumption | omega); (first | with_reducible assumption | omega); rintro e w' ⟨rfl, rfl⟩)))
    go_ret
    exact ⟨rfl, rfl⟩
  · rw [e]; clear e
    go_enter Try.func25, Try.ntmps25
    go_wp2_with (first | (go_at_call 24; ((with_reducible refine (words_c _ ?_ ?_ _).mono ?_); (first | with_reducible assumption | omega); (first | with_reducible assumption | omega); rintro e w' ⟨rfl, rfl⟩)))
    refine wp_loop_rounds 1 ?_
    rw [rounds_succ]
    go_wp2_with (first | (go_at_call 24; ((with_reducible refine (words_c _ ?_ ?_ _).mono ?_); (first | with_reducible assumption | omega); (first | with_reducible assumption | omega); rintro e w' ⟨rfl, rfl⟩)))
    go_ret
    exact ⟨rfl, rfl⟩
  · rw [e]; clear e
    go_enter Try.func25, Try.ntmps25
    go_wp2_with (first | (go_at_call 24; ((with_reducible refine (words_c _ ?_ ?_ _).mono ?_); (first | with_reducible assumption | omega); (first | with_reducible assumption | omega); rintro e w' ⟨rfl, rfl⟩)))
    refine wp_loop_rounds 2 ?_
    rw [rounds_succ]
    go_wp2_with (first | (go_at_call 24; ((with_reducible refine (words_c _ ?_ ?_ _).mono ?_); (first | with_reducible assumption | omega); (first | with_reducible assumption | omega); rintro e w' ⟨rfl, rfl⟩)))
    rw [rounds_succ]
    go_wp2_with (first | (go_at_call 24; ((with_reducible refine (words_c _ ?_ ?_ _).mono ?_); (first | with_reducible assumption | omega); (first | with_reducible assumption | omega); rintro e w' ⟨rfl, rfl⟩)))
    go_ret
    exact ⟨rfl, rfl⟩
  · rw [e]; clear e
    go_enter Try.func25, Try.ntmps25
    go_wp2_with (first | (go_at_call 24; ((with_reducible refine (words_c _ ?_ ?_ _).mono ?_); (first | with_reducible assumption | omega); (first | with_reducible assumption | omega); rintro e w' ⟨rfl, rfl⟩)))
    refine wp_loop_rounds 3 ?_
    rw [rounds_succ]
    go_wp2_with (first | (go_at_call 24; ((with_reducible refine (words_c _ ?_ ?_ _).mono ?_); (first | with_reducible assumption | omega); (first | with_reducible assumption | omega); rintro e w' ⟨rfl, rfl⟩)))
    rw [rounds_succ]
    go_wp2_with (first | (go_at_call 24; ((with_reducible refine (words_c _ ?_ ?_ _).mono ?_); (first | with_reducible assumption | omega); (first | with_reducible assumption | omega); rintro e w' ⟨rfl, rfl⟩)))
    rw [rounds_succ]
    go_wp2_with (first | (go_at_call 24; ((with_reducible refine (words_c _ ?_ ?_ _).mono ?_); (first | with_reducible assumption | omega); (first | with_reducible assumption | omega); rintro e w' ⟨rfl, rfl⟩)))
    go_ret
    exact ⟨rfl, rfl⟩
  · rw [e]; clear e
    go_enter Try.func25, Try.ntmps25
    go_wp2_with (first | (go_at_call 24; ((with_reducible refine (words_c _ ?_ ?_ _).mono ?_); (first | with_reducible assumption | omega); (first | with_reducible assumption | omega); rintro e w' ⟨rfl, rfl⟩)))
    refine wp_loop_rounds 4 ?_
    rw [rounds_succ]
    go_wp2_with (first | (go_at_call 24; ((with_reducible refine (words_c _ ?_ ?_ _).mono ?_); (first | with_reducible assumption | omega); (first | with_reducible assumption | omega); rintro e w' ⟨rfl, rfl⟩)))
    rw [rounds_succ]
    go_wp2_with (first | (go_at_call 24; ((with_reducible refine (words_c _ ?_ ?_ _).mono ?_); (first | with_reducible assumption | omega); (first | with_reducible assumption | omega); rintro e w' ⟨rfl, rfl⟩)))
    rw [rounds_succ]
    go_wp2_with (first | (go_at_call 24; ((with_reducible refine (words_c _ ?_ ?_ _).mono ?_); (first | with_reducible assumption | omega); (first | with_reducible assumption | omega); rintro e w' ⟨rfl, rfl⟩)))
    rw [rounds_succ]
    go_wp2_with (first | (go_at_call 24; ((with_reducible refine (words_c _ ?_ ?_ _).mono ?_); (first | with_reducible assumption | omega); (first | with_reducible assumption | omega); rintro e w' ⟨rfl, rfl⟩)))
    go_ret
    exact ⟨rfl, rfl⟩
  · rw [e]; clear e
    go_enter Try.func25, Try.ntmps25
    go_wp2_with (first | (go_at_call 24; ((with_reducible refine (words_c _ ?_ ?_ _).mono ?_); (first | with_reducible assumption | omega); (first | with_reducible assumption | omega); rintro e w' ⟨rfl, rfl⟩)))
    refine wp_loop_rounds 5 ?_
    rw [rounds_succ]
    go_wp2_with (first | (go_at_call 24; ((with_reducible refine (words_c _ ?_ ?_ _).mono ?_); (first | with_reducible assumption | omega); (first | with_reducible assumption | omega); rintro e w' ⟨rfl, rfl⟩)))
    rw [rounds_succ]
    go_wp2_with (first | (go_at_call 24; ((with_reducible refine (words_c _ ?_ ?_ _).mono ?_); (first | with_reducible assumption | omega); (first | with_reducible assumption | omega); rintro e w' ⟨rfl, rfl⟩)))
    rw [rounds_succ]
    go_wp2_with (first | (go_at_call 24; ((with_reducible refine (words_c _ ?_ ?_ _).mono ?_); (first | with_reducible assumption | omega); (first | with_reducible assumption | omega); rintro e w' ⟨rfl, rfl⟩)))
    rw [rounds_succ]
    go_wp2_with (first | (go_at_call 24; ((with_reducible refine (words_c _ ?_ ?_ _).mono ?_); (first | with_reducible assumption | omega); (first | with_reducible assumption | omega); rintro e w' ⟨rfl, rfl⟩)))
    rw [rounds_succ]
    go_wp2_with (first | (go_at_call 24; ((with_reducible refine (words_c _ ?_ ?_ _).mono ?_); (first | with_reducible assumption | omega); (first | with_reducible assumption | omega); rintro e w' ⟨rfl, rfl⟩)))
    go_ret
    exact ⟨rfl, rfl⟩
end Wd
end Go.Proofs.Ytdaojohdmidemaa

/- What each function of the package fit, and of the document's own answer, returns. -/
namespace Go.Proofs.Ytdaojohdmidemaa
open Go.RowKit
set_option linter.unusedVariables false
namespace Wd
set_option maxHeartbeats 16000000 in
set_option maxRecDepth 100000 in
theorem right_c (a b c d e p : Int) (ha : -9223372036854775808 ≤ a) (ha' : a ≤ 9223372036854775807) (hb : -9223372036854775808 ≤ b) (hb' : b ≤ 9223372036854775807) (hc : -9223372036854775808 ≤ c) (hc' : c ≤ 9223372036854775807) (hd : -9223372036854775808 ≤ d) (hd' : d ≤ 9223372036854775807) (he : -9223372036854775808 ≤ e) (he' : e ≤ 9223372036854775807) (hp : -9223372036854775808 ≤ p) (hp' : p ≤ 9223372036854775807) (w : World) :
    Calls Try.prog 20 #[.agg #[.int .i64 a, .int .i64 b, .int .i64 c, .int .i64 d, .int .i64 e, .int .i64 p]] w fun r w' => r = .returned (.int .i64 (rt a b c d e p)) ∧ w' = w.alloc (.cells #[.int .i64 a, .int .i64 b, .int .i64 c, .int .i64 d, .int .i64 e, .int .i64 p] 27) := by
  have i0 : ∀ w : World, (Instr.index 25 (.agg #[.int .i64 a, .int .i64 b, .int .i64 c, .int .i64 d, .int .i64 e]) (.int .i64 0)).run Try.prog w = .ok (.int .i64 a) w := fun _ => by kernel_rfl
  have i1 : ∀ w : World, (Instr.index 25 (.agg #[.int .i64 a, .int .i64 b, .int .i64 c, .int .i64 d, .int .i64 e]) (.int .i64 1)).run Try.prog w = .ok (.int .i64 b) w := fun _ => by kernel_rfl
  have i2 : ∀ w : World, (Instr.index 25 (.agg #[.int .i64 a, .int .i64 b, .int .i64 c, .int .i64 d, .int .i64 e]) (.int .i64 2)).run Try.prog w = .ok (.int .i64 c) w := fun _ => by kernel_rfl
  have i3 : ∀ w : World, (Instr.index 25 (.agg #[.int .i64 a, .int .i64 b, .int .i64 c, .int .i64 d, .int .i64 e]) (.int .i64 3)).run Try.prog w = .ok (.int .i64 d) w := fun _ => by kernel_rfl
  have i4 : ∀ w : World, (Instr.index 25 (.agg #[.int .i64 a, .int .i64 b, .int .i64 c, .int .i64 d, .int .i64 e]) (.int .i64 4)).run Try.prog w = .ok (.int .i64 e) w := fun _ => by kernel_rfl
  rcases rt_cases a b c d e p with ⟨h, q⟩ | ⟨⟨a0, a1, b0, b1, c0, c1, d0, d1, e0, e1, s0, s1⟩, ⟨h, q⟩ | ⟨p0, p1, q⟩⟩
  · rw [q]; clear q
    rcases h with (h | h) | (⟨a0, a1, h | h⟩) | (⟨a0, a1, b0, b1, h | h⟩) | (⟨a0, a1, b0, b1, c0, c1, h | h⟩) | (⟨a0, a1, b0, b1, c0, c1, d0, d1, h | h⟩) | (⟨a0, a1, b0, b1, c0, c1, d0, d1, e0, e1, h | h⟩)
    · go_enter Try.func20, Try.ntmps20
      go_wp2
      refine wp_loop_rounds 1 ?_
      rw [rounds_succ]
      go_wp2
      go_ret
      exact ⟨rfl, rfl⟩
    · go_enter Try.func20, Try.ntmps20
      go_wp2
      refine wp_loop_rounds 1 ?_
      rw [rounds_succ]
      go_wp2
      go_ret
      exact ⟨rfl, rfl⟩
    · go_enter Try.func20, Try.ntmps20
      go_wp2
      refine wp_loop_rounds 2 ?_
      rw [rounds_succ]
      go_wp2
      rw [rounds_succ]
      go_wp2
      go_ret
      exact ⟨rfl, rfl⟩
    · go_enter Try.func20, Try.ntmps20
      go_wp2
      refine wp_loop_rounds 2 ?_
      rw [rounds_succ]
      go_wp2
      rw [rounds_succ]
      go_wp2
      go_ret
      exact ⟨rfl, rfl⟩
    · go_enter Try.func20, Try.ntmps20
      go_wp2
      refine wp_loop_rounds 3 ?_
      rw [rounds_succ]
      go_wp2
      rw [rounds_succ]
      go_wp2
      rw [rounds_succ]
      go_wp2
      go_ret
      exact ⟨rfl, rfl⟩
    · go_enter Try.func20, Try.ntmps20
      go_wp2
      refine wp_loop_rounds 3 ?_
      rw [rounds_succ]
      go_wp2
      rw [rounds_succ]
      go_wp2
      rw [rounds_succ]
      go_wp2
      go_ret
      exact ⟨rfl, rfl⟩
    · go_enter Try.func20, Try.ntmps20
      go_wp2
      refine wp_loop_rounds 4 ?_
      rw [rounds_succ]
      go_wp2
      rw [rounds_succ]
      go_wp2
      rw [rounds_succ]
      go_wp2
      rw [rounds_succ]
      go_wp2
      go_ret
      exact ⟨rfl, rfl⟩
    · go_enter Try.func20, Try.ntmps20
      go_wp2
      refine wp_loop_rounds 4 ?_
      rw [rounds_succ]
      go_wp2
      rw [rounds_succ]
      go_wp2
      rw [rounds_succ]
      go_wp2
      rw [rounds_succ]
      go_wp2
      go_ret
      exact ⟨rfl, rfl⟩
    · go_enter Try.func20, Try.ntmps20
      go_wp2
      refine wp_loop_rounds 5 ?_
      rw [rounds_succ]
      go_wp2
      rw [rounds_succ]
      go_wp2
      rw [rounds_succ]
      go_wp2
      rw [rounds_succ]
      go_wp2
      rw [rounds_succ]
      go_wp2
      go_ret
      exact ⟨rfl, rfl⟩
    · go_enter Try.func20, Try.ntmps20
      go_wp2
      refine wp_loop_rounds 5 ?_
      rw [rounds_succ]
      go_wp2
      rw [rounds_succ]
      go_wp2
      rw [rounds_succ]
      go_wp2
      rw [rounds_succ]
      go_wp2
      rw [rounds_succ]
      go_wp2
      go_ret
      exact ⟨rfl, rfl⟩
    · go_enter Try.func20, Try.ntmps20
      go_wp2
      refine wp_loop_rounds 6 ?_
      rw [rounds_succ]
      go_wp2
      rw [rounds_succ]
      go_wp2
      rw [rounds_succ]
      go_wp2
      rw [rounds_succ]
      go_wp2
      rw [rounds_succ]
      go_wp2
      rw [rounds_succ]
      go_wp2
      go_ret
      exact ⟨rfl, rfl⟩
    · go_enter Try.func20, Try.ntmps20
      go_wp2
      refine wp_loop_rounds 6 ?_
      rw [rounds_succ]
      go_wp2
      rw [rounds_succ]
      go_wp2
      rw [rounds_succ]
      go_wp2
      rw [rounds_succ]
      go_wp2
      rw [rounds_succ]
      go_wp2
      rw [rounds_succ]
      go_wp2
      go_ret
      exact ⟨rfl, rfl⟩
  · rw [q]; clear q
    rcases h with h | h
    · go_enter Try.func20, Try.ntmps20
      go_wp2
      refine wp_loop_rounds 6 ?_
      rw [rounds_succ]
      go_wp2
      rw [rounds_succ]
      go_wp2
      rw [rounds_succ]
      go_wp2
      rw [rounds_succ]
      go_wp2
      rw [rounds_succ]
      go_wp2
      rw [rounds_succ]
      go_wp2
      go_ret
      exact ⟨rfl, rfl⟩
    · go_enter Try.func20, Try.ntmps20
      go_wp2
      refine wp_loop_rounds 6 ?_
      rw [rounds_succ]
      go_wp2
      rw [rounds_succ]
      go_wp2
      rw [rounds_succ]
      go_wp2
      rw [rounds_succ]
      go_wp2
      rw [rounds_succ]
      go_wp2
      rw [rounds_succ]
      go_wp2
      go_ret
      exact ⟨rfl, rfl⟩
  · rw [q]; clear q
    go_enter Try.func20, Try.ntmps20
    go_wp2
    refine wp_loop_rounds 6 ?_
    rw [rounds_succ]
    go_wp2
    rw [rounds_succ]
    go_wp2
    rw [rounds_succ]
    go_wp2
    rw [rounds_succ]
    go_wp2
    rw [rounds_succ]
    go_wp2
    rw [rounds_succ]
    go_wp2
    go_ret
    exact ⟨rfl, rfl⟩
end Wd
end Go.Proofs.Ytdaojohdmidemaa

/- The landed memory, as it lies; what a call of one of its parts leaves. -/
namespace Go.Proofs.Ytdaojohdmidemaa
open Go.RowKit Go.Maps
set_option linter.unusedVariables false
set_option maxRecDepth 20000
namespace Wd
/-- words of a cell -/
def wN (s : Nat) : Nat := 4 * 2 ^ s
theorem wd_wN {s : Nat} (hs : s < 5) : wd (s : Int) = (wN s : Nat) := by
  rcases (show s = 0 ∨ s = 1 ∨ s = 2 ∨ s = 3 ∨ s = 4 by omega) with rfl | rfl | rfl | rfl | rfl <;> rfl
theorem wN_bd {s : Nat} (hs : s < 5) : 4 ≤ wN s ∧ wN s ≤ 64 := by
  rcases (show s = 0 ∨ s = 1 ∨ s = 2 ∨ s = 3 ∨ s = 4 by omega) with rfl | rfl | rfl | rfl | rfl <;> decide
/-- a meter -/
structure Mt (w : World) (m : Nat) : Prop where
  ex : ∃ a b : Int, w.cell? ⟨m, 0, none⟩ = some (.int .i64 a) ∧ w.cell? ⟨m, 1, none⟩ = some (.int .i64 b) ∧ (0 ≤ a ∧ a ≤ 1152921504606846976) ∧ (0 ≤ b ∧ b ≤ 1152921504606846976)
  z : ∀ k, w.frozen? ⟨m, k, none⟩ = false
theorem Mt.same {w w' : World} {m : Nat} (h : Mt w m) (hb : w'.heap[m]? = w.heap[m]?) : Mt w' m := by
  obtain ⟨⟨a, b, h1, h2, h3⟩, z⟩ := h
  exact ⟨⟨a, b, (World.cell?_of_block (a := ⟨m, 0, none⟩) hb).trans h1, (World.cell?_of_block (a := ⟨m, 1, none⟩) hb).trans h2, h3⟩, fun k => (World.frozen?_of_block (a := ⟨m, k, none⟩) hb).trans (z k)⟩
/-- the blocks of a part are others from now on -/
def upB (B : Nat → Nat → Prop) (i : Nat) (F : Nat → Prop) : Nat → Nat → Prop := fun j => if j = i then F else B j
/-- all blocks -/
def un (B : Nat → Nat → Prop) : Nat → Prop := fun k => ∃ i, B i k
def upX (X : Nat → Nat → Int) (s k : Nat) (v : Int) : Nat → Nat → Int := fun t j => if t = s ∧ j = k then v else X t j
theorem upX_same {X : Nat → Nat → Int} {s k : Nat} {v : Int} : upX X s k v s k = v := by unfold upX; rw [if_pos ⟨rfl, rfl⟩]
theorem upX_ne {X : Nat → Nat → Int} {s k t j : Nat} {v : Int} (h : ¬ (t = s ∧ j = k)) : upX X s k v t j = X t j := by unfold upX; rw [if_neg h]
theorem upB_ap {B : Nat → Nat → Prop} {N i0 : Nat} {F' : Nat → Prop} (ap : ∀ i j k, B i k → B j k → i = j) (lt : ∀ i k, B i k → k < N) (hn : Newer (B i0) F' N) : ∀ i j k, upB B i0 F' i k → upB B i0 F' j k → i = j := by
  intro i j k h1 h2
  unfold upB at h1 h2
  split at h1
  · rename_i e
    split at h2
    · rename_i e2; omega
    · rcases hn k h1 with h3 | h3
      · rw [e]; exact ap _ _ k h3 h2
      · have := lt _ _ h2; omega
  · split at h2
    · rename_i e2
      rcases hn k h2 with h3 | h3
      · rw [e2]; exact ap _ _ k h1 h3
      · have := lt _ _ h1; omega
    · exact ap _ _ k h1 h2
theorem upB_lt {B : Nat → Nat → Prop} {N N' i0 : Nat} {F' : Nat → Prop} (lt : ∀ i k, B i k → k < N) (hN : N ≤ N') (hF : ∀ k, F' k → k < N') : ∀ i k, upB B i0 F' i k → k < N' := by
  intro i k h
  unfold upB at h
  split at h
  · exact hF k h
  · exact Nat.lt_of_lt_of_le (lt i k h) hN
theorem upB_newer {B : Nat → Nat → Prop} {N i0 : Nat} {F' : Nat → Prop} (hn : Newer (B i0) F' N) : Newer (un B) (un (upB B i0 F')) N := by
  rintro k ⟨i, h⟩
  unfold upB at h
  split at h
  · rcases hn k h with h3 | h3
    · exact Or.inl ⟨_, h3⟩
    · exact Or.inr h3
  · exact Or.inl ⟨_, h⟩
/-- the landed memory at block p: its parts lie in the blocks B i (0 itself, 1 its meter, 2 its table, 3 and on its mills, 8 and on its rows of words); the words are X -/
structure HP (w : World) (p : Nat) (n : Nat → Nat) (B : Nat → Nat → Prop) (mp gw : Nat → Nat) (tb mt : Nat) (T : Tst) (M : Nat → Mst) (X : Nat → Nat → Int) : Prop where
  cm : ∀ s, s < 5 → w.cell? ⟨p, s, none⟩ = some (.pointer (if n s = 0 then none else some ⟨mp s, 0, none⟩))
  cw : ∀ s, s < 5 → 1 ≤ n s → w.cell? ⟨p, 5 + s, none⟩ = some (.slice (some ⟨gw s, 0, none⟩) (n s * wN s) (n s * wN s))
  ct : w.cell? ⟨p, 10, none⟩ = some (.pointer (some ⟨tb, 0, none⟩))
  cc : w.cell? ⟨p, 11, none⟩ = some (.pointer (some ⟨mt, 0, none⟩))
  bp : B 0 p
  bm : B 1 mt
  bg : ∀ s, s < 5 → 1 ≤ n s → B (8 + s) (gw s)
  mill : ∀ s, s < 5 → 1 ≤ n s → MA w (mp s) (n s) (M s) (B (3 + s))
  tbl : TA w tb T (B 2)
  met : Mt w mt
  row : ∀ s, s < 5 → ∀ k, k < n s * wN s → w.cell? ⟨gw s, k, none⟩ = some (.int .u32 (X s k))
  zg : ∀ s, s < 5 → 1 ≤ n s → ∀ k, w.frozen? ⟨gw s, k, none⟩ = false
  xb : ∀ s k, 0 ≤ X s k ∧ X s k ≤ 4294967295
  ap : ∀ i j k, B i k → B j k → i = j
  lt : ∀ i k, B i k → k < w.heap.size
section
variable {w w' : World} {p : Nat} {n : Nat → Nat} {B : Nat → Nat → Prop} {mp gw : Nat → Nat} {tb mt : Nat} {T : Tst} {M : Nat → Mst} {X : Nat → Nat → Int}
theorem n_pos {a k b : Nat} (h : k < a * b) : 1 ≤ a := by
  rcases Nat.eq_zero_or_pos a with h0 | h0
  · subst h0; simp at h
  · exact h0
theorem HP.same (h : HP w p n B mp gw tb mt T M X) (hs : w.heap.size ≤ w'.heap.size) (hk : ∀ k, un B k → w'.heap[k]? = w.heap[k]?) : HP w' p n B mp gw tb mt T M X := by
  have e0 := hk p ⟨_, h.bp⟩
  refine ⟨fun s h1 => (World.cell?_of_block (a := ⟨p, s, none⟩) e0).trans (h.cm s h1), fun s h1 h2 => (World.cell?_of_block (a := ⟨p, 5 + s, none⟩) e0).trans (h.cw s h1 h2), (World.cell?_of_block (a := ⟨p, 10, none⟩) e0).trans h.ct, (World.cell?_of_block (a := ⟨p, 11, none⟩) e0).trans h.cc, h.bp, h.bm, h.bg,
    fun s h1 h2 => KM.keep (h.mill s h1 h2) (fun k hb => hk k ⟨_, hb⟩), KT.keep h.tbl (fun k hb => hk k ⟨_, hb⟩), h.met.same (hk mt ⟨_, h.bm⟩), fun s h1 k h2 => ?_, fun s h1 h2 k => ?_, h.xb, h.ap, fun i k hb => Nat.lt_of_lt_of_le (h.lt i k hb) hs⟩
  · exact (World.cell?_of_block (a := ⟨gw s, k, none⟩) (hk (gw s) ⟨_, h.bg s h1 (n_pos h2)⟩)).trans (h.row s h1 k h2)
  · exact (World.frozen?_of_block (a := ⟨gw s, k, none⟩) (hk (gw s) ⟨_, h.bg s h1 h2⟩)).trans (h.zg s h1 h2 k)
theorem HP.ltu (h : HP w p n B mp gw tb mt T M X) : ∀ k, un B k → k < w.heap.size := fun k ⟨i, hb⟩ => h.lt i k hb
theorem HP.keep (h : HP w p n B mp gw tb mt T M X) (g : Below w.heap.size w w') : HP w' p n B mp gw tb mt T M X := h.same g.size (fun k hk => g.block k (h.ltu k hk))
/-- the others lie as they lay -/
theorem HP.oth (h : HP w p n B mp gw tb mt T M X) {i : Nat} {G : Nat → Prop} (hc : Ch G w w') (hG : ∀ k, G k → B i k) {j k : Nat} (hb : B j k) (hne : j ≠ i) : w'.heap[k]? = w.heap[k]? :=
  hc.block k (h.lt _ _ hb) (fun hg => hne (h.ap _ _ k hb (hG k hg)))
theorem HP.mstep (h : HP w p n B mp gw tb mt T M X) {s : Nat} (hs : s < 5) (hn : 1 ≤ n s) {A' : Mst} {F' : Nat → Prop} (hm : MA w' (mp s) (n s) A' F') (hc : Ch (B (3 + s)) w w') (hN : Newer (B (3 + s)) F' w.heap.size) :
    HP w' p n (upB B (3 + s) F') mp gw tb mt T (upM M s A') X ∧ Ch (un B) w w' ∧ Newer (un B) (un (upB B (3 + s) F')) w.heap.size := by
  have o := fun {j k : Nat} (hb : B j k) (hne : j ≠ 3 + s) => h.oth hc (i := 3 + s) (fun k hk => hk) hb hne
  have e0 := o h.bp (by omega)
  have ne : ∀ {j : Nat}, j ≠ 3 + s → upB B (3 + s) F' j = B j := fun hne => by unfold upB; rw [if_neg hne]
  refine ⟨⟨fun s h1 => (World.cell?_of_block (a := ⟨p, s, none⟩) e0).trans (h.cm s h1), fun s h1 h2 => (World.cell?_of_block (a := ⟨p, 5 + s, none⟩) e0).trans (h.cw s h1 h2), (World.cell?_of_block (a := ⟨p, 10, none⟩) e0).trans h.ct, (World.cell?_of_block (a := ⟨p, 11, none⟩) e0).trans h.cc, ?_, ?_, fun t h1 h2 => ?_,
    fun t h1 h2 => ?_, ?_, h.met.same (o h.bm (by omega)), fun t h1 k h2 => ?_, fun t h1 h2 k => ?_, h.xb, upB_ap h.ap h.lt hN, upB_lt h.lt hc.size (KM.lt hm)⟩, hc.mono (fun k hk => ⟨_, hk⟩), upB_newer hN⟩
  · rw [ne (by omega)]; exact h.bp
  · rw [ne (by omega)]; exact h.bm
  · rw [ne (by omega)]; exact h.bg t h1 h2
  · unfold upM
    by_cases e : t = s
    · subst e; rw [if_pos rfl]; unfold upB; rw [if_pos rfl]; exact hm
    · rw [if_neg e, ne (by omega)]
      exact KM.keep (h.mill t h1 h2) (fun k hb => o hb (by omega))
  · rw [ne (by omega)]
    exact KT.keep h.tbl (fun k hb => o hb (by omega))
  · exact (World.cell?_of_block (a := ⟨gw t, k, none⟩) (o (h.bg t h1 (n_pos h2)) (by omega))).trans (h.row t h1 k h2)
  · exact (World.frozen?_of_block (a := ⟨gw t, k, none⟩) (o (h.bg t h1 h2) (by omega))).trans (h.zg t h1 h2 k)
theorem HP.tstep (h : HP w p n B mp gw tb mt T M X) {T' : Tst} {F' : Nat → Prop} (hm : TA w' tb T' F') (hc : Ch (B 2) w w') (hN : Newer (B 2) F' w.heap.size) :
    HP w' p n (upB B 2 F') mp gw tb mt T' M X ∧ Ch (un B) w w' ∧ Newer (un B) (un (upB B 2 F')) w.heap.size := by
  have o := fun {j k : Nat} (hb : B j k) (hne : j ≠ 2) => h.oth hc (i := 2) (fun k hk => hk) hb hne
  have e0 := o h.bp (by omega)
  have ne : ∀ {j : Nat}, j ≠ 2 → upB B 2 F' j = B j := fun hne => by unfold upB; rw [if_neg hne]
  refine ⟨⟨fun s h1 => (World.cell?_of_block (a := ⟨p, s, none⟩) e0).trans (h.cm s h1), fun s h1 h2 => (World.cell?_of_block (a := ⟨p, 5 + s, none⟩) e0).trans (h.cw s h1 h2), (World.cell?_of_block (a := ⟨p, 10, none⟩) e0).trans h.ct, (World.cell?_of_block (a := ⟨p, 11, none⟩) e0).trans h.cc, ?_, ?_, fun t h1 h2 => ?_,
    fun t h1 h2 => ?_, ?_, h.met.same (o h.bm (by omega)), fun t h1 k h2 => ?_, fun t h1 h2 k => ?_, h.xb, upB_ap h.ap h.lt hN, upB_lt h.lt hc.size (KT.lt hm)⟩, hc.mono (fun k hk => ⟨_, hk⟩), upB_newer hN⟩
  · rw [ne (by omega)]; exact h.bp
  · rw [ne (by omega)]; exact h.bm
  · rw [ne (by omega)]; exact h.bg t h1 h2
  · rw [ne (by omega)]
    exact KM.keep (h.mill t h1 h2) (fun k hb => o hb (by omega))
  · unfold upB; rw [if_pos rfl]; exact hm
  · exact (World.cell?_of_block (a := ⟨gw t, k, none⟩) (o (h.bg t h1 (n_pos h2)) (by omega))).trans (h.row t h1 k h2)
  · exact (World.frozen?_of_block (a := ⟨gw t, k, none⟩) (o (h.bg t h1 h2) (by omega))).trans (h.zg t h1 h2 k)
/-- the meter counts -/
theorem HP.cstep (h : HP w p n B mp gw tb mt T M X) (hm : Mt w' mt) (hc : Ch (fun k => k = mt) w w') : HP w' p n B mp gw tb mt T M X ∧ Ch (un B) w w' := by
  have o := fun {j k : Nat} (hb : B j k) (hne : j ≠ 1) => h.oth hc (i := 1) (fun k hk => by subst hk; exact h.bm) hb hne
  have e0 := o h.bp (by omega)
  exact ⟨⟨fun s h1 => (World.cell?_of_block (a := ⟨p, s, none⟩) e0).trans (h.cm s h1), fun s h1 h2 => (World.cell?_of_block (a := ⟨p, 5 + s, none⟩) e0).trans (h.cw s h1 h2), (World.cell?_of_block (a := ⟨p, 10, none⟩) e0).trans h.ct, (World.cell?_of_block (a := ⟨p, 11, none⟩) e0).trans h.cc, h.bp, h.bm, h.bg,
    fun t h1 h2 => KM.keep (h.mill t h1 h2) (fun k hb => o hb (by omega)), KT.keep h.tbl (fun k hb => o hb (by omega)), hm,
    fun t h1 k h2 => (World.cell?_of_block (a := ⟨gw t, k, none⟩) (o (h.bg t h1 (n_pos h2)) (by omega))).trans (h.row t h1 k h2),
    fun t h1 h2 k => (World.frozen?_of_block (a := ⟨gw t, k, none⟩) (o (h.bg t h1 h2) (by omega))).trans (h.zg t h1 h2 k), h.xb, h.ap, fun i k hb => Nat.lt_of_lt_of_le (h.lt i k hb) hc.size⟩, hc.mono (fun k hk => ⟨1, by subst hk; exact h.bm⟩)⟩
/-- a word is written -/
theorem HP.wstep (h : HP w p n B mp gw tb mt T M X) {s k : Nat} (hs : s < 5) (hk : k < n s * wN s) {v : Int} (v0 : 0 ≤ v) (v1 : v ≤ 4294967295) :
    HP (w.setCell ⟨gw s, k, none⟩ (.int .u32 v)) p n B mp gw tb mt T M (upX X s k v) ∧ Ch (un B) w (w.setCell ⟨gw s, k, none⟩ (.int .u32 v)) := by
  have hB := h.bg s hs (n_pos hk)
  have hc : Ch (fun k => k = gw s) w (w.setCell ⟨gw s, k, none⟩ (.int .u32 v)) := (Ch.refl (fun b => b = gw s) w).set ⟨gw s, k, none⟩ rfl _
  have o := fun {j k : Nat} (hb : B j k) (hne : j ≠ 8 + s) => h.oth hc (i := 8 + s) (fun k hk => by subst hk; exact hB) hb hne
  have e0 := o h.bp (by omega)
  refine ⟨⟨fun s h1 => (World.cell?_of_block (a := ⟨p, s, none⟩) e0).trans (h.cm s h1), fun s h1 h2 => (World.cell?_of_block (a := ⟨p, 5 + s, none⟩) e0).trans (h.cw s h1 h2), (World.cell?_of_block (a := ⟨p, 10, none⟩) e0).trans h.ct, (World.cell?_of_block (a := ⟨p, 11, none⟩) e0).trans h.cc, h.bp, h.bm, h.bg,
    fun t h1 h2 => KM.keep (h.mill t h1 h2) (fun k hb => o hb (by omega)), KT.keep h.tbl (fun k hb => o hb (by omega)), h.met.same (o h.bm (by omega)), fun t h1 j h2 => ?_, fun t h1 h2 j => ?_, fun t j => ?_, h.ap, fun i k hb => Nat.lt_of_lt_of_le (h.lt i k hb) hc.size⟩, hc.mono (fun k hk => ⟨_, by subst hk; exact hB⟩)⟩
  · by_cases e : t = s
    · subst e
      by_cases e2 : j = k
      · subst e2
        rw [upX_same]
        exact World.cell?_setCell_same _ _ _ (h.row t h1 j h2)
      · rw [upX_ne (fun c => e2 c.2), World.cell?_setCell_other _ _ _ _ (by intro e; injection e with _ h3; exact e2 h3.symm)]
        exact h.row t h1 j h2
    · rw [upX_ne (fun c => e c.1)]
      exact (World.cell?_of_block (a := ⟨gw t, j, none⟩) (o (h.bg t h1 (n_pos h2)) (by omega))).trans (h.row t h1 j h2)
  · rw [World.frozen?_setCell]; exact h.zg t h1 h2 j
  · unfold upX
    split
    · exact ⟨v0, v1⟩
    · exact h.xb t j
end
/-- what the words of the cells tell -/
def WR (n : Nat → Nat) (T : Tst) (C : Pl → Int × List Int) (X : Nat → Nat → Int) : Prop :=
  ∀ k (s c : Nat), T k = some ((s : Int), (c : Int)) → s < 5 → c < n s → hc (X s (c * wN s)) = (C ((s : Int), (c : Int))).1 ∧ hs (X s (c * wN s)) = (C ((s : Int), (c : Int))).2.length ∧ ∀ j v, (C ((s : Int), (c : Int))).2[j]? = some v → X s (c * wN s + 2 + j) = v
/-- the memory at block p, its parts in B, and what holds at any time -/
structure HQ (w : World) (p : Nat) (n : Nat → Nat) (H : Hst) (B : Nat → Nat → Prop) (mp gw : Nat → Nat) (tb mt : Nat) (X : Nat → Nat → Int) : Prop where
  hp : HP w p n B mp gw tb mt H.T H.M X
  wr : WR n H.T H.C X
  inv : HInv n H
/-- the landed memory -/
def HA (w : World) (p : Nat) (n : Nat → Nat) (H : Hst) (F : Nat → Prop) : Prop := ∃ B mp gw tb mt X, F = un B ∧ HQ w p n H B mp gw tb mt X
section
variable {w w' : World} {p : Nat} {n : Nat → Nat} {H : Hst} {F : Nat → Prop} {B : Nat → Nat → Prop} {mp gw : Nat → Nat} {tb mt : Nat} {X : Nat → Nat → Int}
theorem HQ.keep (h : HQ w p n H B mp gw tb mt X) (g : Below w.heap.size w w') : HQ w' p n H B mp gw tb mt X := ⟨h.hp.keep g, h.wr, h.inv⟩
theorem HA.lt (h : HA w p n H F) : ∀ k, F k → k < w.heap.size := by
  obtain ⟨B, mp, gw, tb, mt, X, rfl, h⟩ := h
  exact h.hp.ltu
theorem HA.same (h : HA w p n H F) (hs : w.heap.size ≤ w'.heap.size) (hk : ∀ k, F k → w'.heap[k]? = w.heap[k]?) : HA w' p n H F := by
  obtain ⟨B, mp, gw, tb, mt, X, rfl, h⟩ := h
  exact ⟨B, mp, gw, tb, mt, X, rfl, h.hp.same hs hk, h.wr, h.inv⟩
theorem HA.keep (h : HA w p n H F) (g : Below w.heap.size w w') : HA w' p n H F := h.same g.size (fun k hk => g.block k (h.lt k hk))
theorem HA.inv (h : HA w p n H F) : HInv n H := by
  obtain ⟨B, mp, gw, tb, mt, X, rfl, h⟩ := h
  exact h.inv
end
end Wd
end Go.Proofs.Ytdaojohdmidemaa

/- The landed memory: what its small ones answer: the meter, a word's identity. -/
namespace Go.Proofs.Ytdaojohdmidemaa
open Go.RowKit Go.Maps
set_option linter.unusedVariables false
set_option maxRecDepth 20000
namespace Wd
/-- n, or the end of 0 to m that it lies beyond -/
def hld (n m : Int) : Int := if n < 0 then 0 else if m < n then m else n
theorem hld_c (n m : Int) (w : World) :
    Calls Try.prog 54 #[.int .i64 n, .int .i64 m] w fun e w' => e = .returned (.int .i64 (hld n m)) ∧ w' = w := by
  by_cases h1 : n < 0
  · have e : hld n m = 0 := by unfold hld; rw [if_pos h1]
    rw [e]
    have d1 : decide (n < 0) = true := by simpa using h1
    go_enter Try.func54, Try.ntmps54
    go_wp2
    go_ret
    exact ⟨rfl, rfl⟩
  · have d1 : decide (n < 0) = false := by simpa using h1
    by_cases h2 : m < n
    · have e : hld n m = m := by unfold hld; rw [if_neg h1, if_pos h2]
      rw [e]
      have d2 : decide (m < n) = true := by simpa using h2
      have d3 : decide (n > m) = true := by simpa using h2
      go_enter Try.func54, Try.ntmps54
      go_wp2
      go_ret
      exact ⟨rfl, rfl⟩
    · have e : hld n m = n := by unfold hld; rw [if_neg h1, if_neg h2]
      rw [e]
      have d2 : decide (m < n) = false := by simpa using h2
      have d3 : decide (n > m) = false := by simpa using h2
      go_enter Try.func54, Try.ntmps54
      go_wp2
      go_ret
      exact ⟨rfl, rfl⟩
theorem Mt.set2 {w : World} {m : Nat} {a b x y : Int} (c0 : w.cell? ⟨m, 0, none⟩ = some (.int .i64 a)) (c1 : w.cell? ⟨m, 1, none⟩ = some (.int .i64 b)) (z : ∀ k, w.frozen? ⟨m, k, none⟩ = false)
    (hx : 0 ≤ x ∧ x ≤ 1152921504606846976) (hy : 0 ≤ y ∧ y ≤ 1152921504606846976) : Mt ((w.setCell ⟨m, 0, none⟩ (.int .i64 x)).setCell ⟨m, 1, none⟩ (.int .i64 y)) m :=
  ⟨⟨x, y, (World.cell?_setCell_other _ _ _ _ (by intro e; injection e with _ h2; cases h2)).trans (World.cell?_setCell_same _ _ _ c0), World.cell?_setCell_same _ _ _ ((World.cell?_setCell_other _ _ _ _ (by intro e; injection e with _ h2; cases h2)).trans c1), hx, hy⟩, fun k => by rw [World.frozen?_setCell, World.frozen?_setCell]; exact z k⟩
set_option maxHeartbeats 4000000 in
theorem add_c {w : World} {m : Nat} (h : Mt w m) (x : Int) (x0 : 0 ≤ x) (x1 : x ≤ 1048576) :
    Calls Try.prog 31 #[.pointer (some ⟨m, 0, none⟩), .int .i64 x] w fun e w' => e = .returned (.tuple #[]) ∧ Mt w' m ∧ Ch (fun k => k = m) w w' := by
  obtain ⟨⟨t, s, c0, c1, ⟨t0, t1⟩, ⟨s0, s1⟩⟩, z⟩ := h
  have e : hld x 1048576 = x := by unfold hld; split <;> (try split) <;> omega
  have P := Lib.hid (hld_c x 1048576)
  rw [e] at P
  obtain ⟨y, hy⟩ : ∃ y, y = hld (t + x) 1152921504606846976 := ⟨_, rfl⟩
  obtain ⟨u, hu⟩ : ∃ u, u = hld (s + x) 1152921504606846976 := ⟨_, rfl⟩
  have yb : 0 ≤ y ∧ y ≤ 1152921504606846976 := by rw [hy]; unfold hld; split <;> (try split) <;> omega
  have ub : 0 ≤ u ∧ u ≤ 1152921504606846976 := by rw [hu]; unfold hld; split <;> (try split) <;> omega
  have P2 := Lib.hid (hld_c (t + x) 1152921504606846976)
  have P3 := Lib.hid (hld_c (s + x) 1152921504606846976)
  rw [← hy] at P2
  rw [← hu] at P3
  have hw2 : IntKind.i64.wrap (t + x) = t + x := by rw [IntKind.wrap_i64]; omega
  have hw3 : IntKind.i64.wrap (s + x) = s + x := by rw [IntKind.wrap_i64]; omega
  have z0 := z 0
  have z1 := z 1
  have fin := Lib.hid (Mt.set2 c0 c1 z yb ub)
  have cc : (w.setCell ⟨m, 0, none⟩ (.int .i64 y)).cell? ⟨m, 1, none⟩ = some (.int .i64 s) := (World.cell?_setCell_other _ _ _ _ (by intro e; injection e with _ h2; cases h2)).trans c1
  have zz : (w.setCell ⟨m, 0, none⟩ (.int .i64 y)).frozen? ⟨m, 1, none⟩ = false := by rw [World.frozen?_setCell]; exact z1
  clear e z hy hu yb ub
  go_enter Try.func31, Try.ntmps31
  go_wp2_with (first | (go_at_call 54; ((with_reducible refine (P.out _).mono ?_); rintro e w' ⟨rfl, hw'⟩; subst w')) | (go_at_call 54; ((with_reducible refine (P2.out _).mono ?_); rintro e w' ⟨rfl, hw'⟩; subst w')) | (go_at_call 54; ((with_reducible refine (P3.out _).mono ?_); rintro e w' ⟨rfl, hw'⟩; subst w')))
  go_end0
  exact ⟨rfl, fin.out, ((Ch.refl (fun b => b = m) w).set ⟨m, 0, none⟩ rfl _).set ⟨m, 1, none⟩ rfl _⟩
theorem isnum_c (a : Int) (h0 : 0 ≤ a) (h1 : a ≤ 4294967295) (w : World) :
    Calls Try.prog 65 #[.int .u32 a] w fun e w' => e = .returned (.bool (decide (a % 2 = 1))) ∧ w' = w := by
  have k : bits .and .u32 a 1 = a % 2 := and_mod a 1 1 rfl h0 h1 (by omega)
  have e : (bits .and .u32 a 1 == 1) = decide (a % 2 = 1) := by rw [k]; rfl
  rw [← e]
  clear e k
  go_enter Try.func65, Try.ntmps65
  go_wp2
  go_ret
  exact ⟨rfl, rfl⟩
theorem id9_c (a : Int) (h0 : 0 ≤ a) (h1 : a ≤ 4294967295) (w : World) :
    Calls Try.prog 57 #[.int .u32 a] w fun e w' => e = .returned (.tuple #[.int .i64 (idW a), .bool (isOp a)]) ∧ w' = w := by
  have P := Lib.hid (isnum_c a h0 h1)
  by_cases ha : a % 2 = 1
  · have e1 : isOp a = false := by unfold isOp; simp; omega
    have e2 : idW a = 0 := by unfold idW; rw [e1]; rfl
    have d : decide (a % 2 = 1) = true := by simpa using ha
    rw [d] at P
    rw [e1, e2]
    clear e1 e2 ha d
    go_enter Try.func57, Try.ntmps57
    go_wp2_with (first | (go_at_call 65; ((with_reducible refine (P.out _).mono ?_); rintro e w' ⟨rfl, hw'⟩; subst w')))
    go_returns
    exact ⟨rfl, rfl⟩
  · have d : decide (a % 2 = 1) = false := by simpa using ha
    rw [d] at P
    by_cases hz : a = 0
    · subst hz
      clear d ha
      go_enter Try.func57, Try.ntmps57
      go_wp2_with (first | (go_at_call 65; ((with_reducible refine (P.out _).mono ?_); rintro e w' ⟨rfl, hw'⟩; subst w')))
      go_returns
      exact ⟨rfl, rfl⟩
    · have e1 : isOp a = true := by unfold isOp; simp; omega
      have e2 : idW a = a / 2 := by unfold idW; rw [e1]; rfl
      have dz : (a == 0) = false := by simpa using hz
      rw [e1, e2]
      clear e1 e2 d ha hz
      go_enter Try.func57, Try.ntmps57
      go_wp2_with (first | (go_at_call 65; ((with_reducible refine (P.out _).mono ?_); rintro e w' ⟨rfl, hw'⟩; subst w')))
      go_returns
      exact ⟨by first | rfl | (rw [IntWalk.wrap64_in _ (by omega)]), rfl⟩
theorem builtMt : Try.prog.built 83 [] = some #[.int .i64 0, .int .i64 0, .int .i64 0] := by kernel_rfl
set_option maxHeartbeats 4000000 in
theorem cnew_c (w : World) : Calls Try.prog 22 #[] w fun e w' => ∃ m, e = .returned (.pointer (some ⟨m, 0, none⟩)) ∧ Mt w' m ∧ m = w.heap.size ∧ Below w.heap.size w w' := by
  go_enter Try.func22, Try.ntmps22
  go_wp2
  go_ret
  refine ⟨_, rfl, ⟨⟨0, 0, by simp, by simp, by omega, by omega⟩, fun k => by simp⟩, rfl, ?_⟩
  exact (Below.refl _ _).alloc (Nat.le_refl _) _
end Wd
end Go.Proofs.Ytdaojohdmidemaa

/- The landed memory: a cell's words, an object's, a field. -/
namespace Go.Proofs.Ytdaojohdmidemaa
open Go.RowKit Go.Maps
set_option linter.unusedVariables false
set_option maxRecDepth 20000
namespace Wd
section
variable {w w' : World} {p : Nat} {n : Nat → Nat} {B : Nat → Nat → Prop} {mp gw : Nat → Nat} {tb mt : Nat} {T : Tst} {M : Nat → Mst} {X : Nat → Nat → Int} {H : Hst}
/-- a cell lies within its row -/
theorem cell_in {s c : Nat} (hs : s < 5) (hc : c < n s) (few : n s ≤ 512) : c * wN s + wN s ≤ n s * wN s ∧ n s * wN s ≤ 32768 := by
  have h1 := Nat.mul_le_mul_right (wN s) (show c + 1 ≤ n s by omega)
  rw [Nat.add_mul, Nat.one_mul] at h1
  have h2 := Nat.mul_le_mul few (wN_bd hs).2
  omega
/-- the value of a cell's words -/
def cellV (n gw : Nat → Nat) (s c : Nat) : Value := .slice (some ⟨gw s, c * wN s, none⟩) (wN s) (n s * wN s - c * wN s)
set_option maxHeartbeats 4000000 in
theorem cell_c (h : HP w p n B mp gw tb mt T M X) {s c : Nat} (hs : s < 5) (hc : c < n s) (few : n s ≤ 512) :
    Calls Try.prog 51 #[.pointer (some ⟨p, 0, none⟩), plV ((s : Int), (c : Int))] w fun e w' => e = .returned (cellV n gw s c) ∧ Below w.heap.size w w' := by
  have cw := h.cw s hs (by omega)
  have PW := Lib.hid (words_c (s : Int) (by omega) (by omega))
  rw [wd_wN hs] at PW
  have hps : p < w.heap.size := h.lt _ _ h.bp
  obtain ⟨l1, l2⟩ := cell_in hs hc few
  have hWb := wN_bd hs
  have ns : n s ≤ 512 := few
  obtain ⟨a, ha⟩ : ∃ a, a = c * wN s := ⟨_, rfl⟩
  have m1 : IntKind.i64.wrap ((c : Int) * (wN s : Int)) = (a : Int) := by
    rw [show ((c : Int) * (wN s : Int)) = (a : Int) by rw [ha, Int.natCast_mul], IntKind.wrap_i64]; omega
  have m2 : IntKind.i64.wrap ((c : Int) + 1) = (c : Int) + 1 := by rw [IntKind.wrap_i64]; omega
  have m3 : IntKind.i64.wrap (((c : Int) + 1) * (wN s : Int)) = ((a + wN s : Nat) : Int) := by
    rw [show (((c : Int) + 1) * (wN s : Int)) = ((a + wN s : Nat) : Int) by rw [Int.natCast_add, ha, Int.natCast_mul, Int.add_mul, Int.one_mul], IntKind.wrap_i64]; omega
  unfold cellV plV
  simp only
  rw [← ha] at l1 ⊢
  clear h ha
  have hs' : (s : Int) < 5 := by omega
  generalize n s * wN s = N at *
  generalize wN s = W at *
  generalize gw s = g at *
  have hB : Below w.heap.size w (w.alloc (.cells #[.int .i64 s, .int .i64 c] 63)) := (Below.refl _ _).alloc (Nat.le_refl _) _
  obtain ⟨w2, hw2⟩ : ∃ w2, w2 = w.alloc (.cells #[.int .i64 s, .int .i64 c] 63) := ⟨_, rfl⟩
  rw [← hw2] at hB
  have q0 : w2.cell? ⟨w.heap.size, 0, none⟩ = some (.int .i64 s) := by rw [hw2]; simp
  have q1 : w2.cell? ⟨w.heap.size, 1, none⟩ = some (.int .i64 c) := by rw [hw2]; simp
  have cw2 : w2.cell? ⟨p, 5 + s, none⟩ = some (.slice (some ⟨g, 0, none⟩) N N) := (hB.cell hps).trans cw
  have e1 : ((a + W : Nat) : Int) ≤ (N : Int) := by omega
  have e2 : (a : Int) ≤ ((a + W : Nat) : Int) := by omega
  clear cw
  go_enter Try.func51, Try.ntmps51
  go_wp2_with fail
  rw [← hw2]
  clear hw2
  go_wp2_with (first | (go_at_call 24; ((with_reducible refine (PW.out _).mono ?_); rintro e w' ⟨rfl, hw'⟩; subst w')))
  go_big_quiet (fail)
  go_wp2
  go_ret
  refine ⟨?_, hB.trans ((drewN_bel w2 nq).mono hB.size)⟩
  show Ending.returned (Value.slice (some ⟨g, a, none⟩) (a + W - a) (N - a)) = _
  rw [Nat.add_sub_cancel_left]
/-- where an identity lies -/
theorem HInv.lies (h : HInv n H) {i : Int} (hh : hasT H.T i = true) : ∃ (k s c : Nat), i = k ∧ 4 ≤ k ∧ k < 1024 ∧ H.T k = some ((s : Int), (c : Int)) ∧ atP H.T i = ((s : Int), (c : Int)) ∧ s < 5 ∧ c < n s ∧ n s ≤ 512 := by
  obtain ⟨k, p, rfl, h4, hk, hp, e⟩ := h.has hh
  obtain ⟨s, h1, h2, h3, h5, _⟩ := h.pl k p hp
  have hf := h.few s h1
  obtain ⟨pa, pc⟩ := p
  simp only at h2 h3 h5
  subst h2
  obtain ⟨c, rfl⟩ : ∃ c : Nat, pc = c := ⟨pc.toNat, by omega⟩
  exact ⟨k, s, c, rfl, h4, hk, hp, e, h1, by omega, hf⟩
set_option maxHeartbeats 4000000 in
theorem object_no (h : HQ w p n H B mp gw tb mt X) (i : Int) (i0 : -9223372036854775808 ≤ i) (i1 : i ≤ 9223372036854775807) (hh : hasT H.T i = false) :
    Calls Try.prog 42 #[.pointer (some ⟨p, 0, none⟩), .int .i64 i] w fun e w' => e = .returned (.slice none 0 0) ∧ Below w.heap.size w w' := by
  have ct := h.hp.ct
  have P := Lib.hid (KT.at' i h.hp.tbl i0 i1)
  rw [hh, atP_no hh] at P
  unfold plV at P
  simp only at P
  clear h hh
  go_enter Try.func42, Try.ntmps42
  go_wp2_with (first | (go_at_call 55; ((with_reducible refine (P.out).mono ?_); rintro e w1 ⟨rfl, hb⟩; replace hb := Lib.hid hb)))
  go_ret
  exact ⟨rfl, hb.out.trans (((Below.refl _ _).alloc (Nat.le_refl _) _).mono hb.out.size)⟩
set_option maxHeartbeats 4000000 in
theorem object_yes (h : HQ w p n H B mp gw tb mt X) {i : Int} {s c : Nat} (i0 : -9223372036854775808 ≤ i) (i1 : i ≤ 9223372036854775807) (hh : hasT H.T i = true) (ha : atP H.T i = ((s : Int), (c : Int))) (hs : s < 5) (hc : c < n s) :
    Calls Try.prog 42 #[.pointer (some ⟨p, 0, none⟩), .int .i64 i] w fun e w' => e = .returned (cellV n gw s c) ∧ Below w.heap.size w w' := by
  have ct := h.hp.ct
  have P := Lib.hid (KT.at' i h.hp.tbl i0 i1)
  rw [hh, ha] at P
  have PC := Lib.hid (fun (w1 : World) (hb : Below w.heap.size w w1) => cell_c (h.hp.keep hb) hs hc (h.inv.few s hs))
  unfold plV at P PC
  simp only at P PC
  clear h hh
  unfold cellV at *
  go_enter Try.func42, Try.ntmps42
  go_wp2_with (first | (go_at_call 55; ((with_reducible refine (P.out).mono ?_); rintro e w1 ⟨rfl, hb⟩; replace hb := Lib.hid hb)) | (go_at_call 51; ((with_reducible refine (PC.out _ (hb.out.trans (((Below.refl _ _).alloc (Nat.le_refl _) _).mono hb.out.size))).mono ?_); rintro e w2 ⟨rfl, hb2⟩; replace hb2 := Lib.hid hb2)))
  go_ret
  have hb3 := hb.out.trans (((Below.refl _ _).alloc (Nat.le_refl _) (.cells #[.int .i64 s, .int .i64 c] 63)).mono hb.out.size)
  exact ⟨rfl, hb3.trans (hb2.out.mono hb3.size)⟩
end
end Wd
end Go.Proofs.Ytdaojohdmidemaa
