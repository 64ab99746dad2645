/- What the laws ask of a table of names, whoever keeps it. -/
import Derived.Test.YtbefmkkmkjogcaaIText
import Derived.OwnWalk
import Derived.Below
namespace Go.Proofs.Ytbefmkkmkjogcaa
open Go.RowKit
set_option linter.unusedVariables false
set_option maxRecDepth 20000
namespace Wd
/-- but for the blocks F, and new ones, the world is as it was -/
structure Ch (F : Nat → Prop) (w w' : World) : Prop where
  os : w'.os = w.os
  tape : w'.tape = w.tape
  output : w'.output = w.output
  size : w.heap.size ≤ w'.heap.size
  block : ∀ k, k < w.heap.size → ¬ F k → w'.heap[k]? = w.heap[k]?
/-- F' has no block but those of F and new ones -/
def Newer (F F' : Nat → Prop) (s : Nat) : Prop := ∀ k, F' k → F k ∨ s ≤ k
theorem below_ch {w wr w1 : World} {F : Nat → Prop} (h : Below w.heap.size w wr) (c : Ch F wr w1) (hF : ∀ k, F k → w.heap.size ≤ k) : Below w.heap.size w w1 :=
  ⟨c.os.trans h.os, c.tape.trans h.tape, c.output.trans h.output, Nat.le_trans h.size c.size, fun k hk => (c.block k (Nat.lt_of_lt_of_le hk h.size) (fun hf => by have := hF k hf; omega)).trans (h.block k hk)⟩
theorem cell_up {w w' : World} (g : Below w.heap.size w w') {p : Addr} {v : Value} (h : w.cell? p = some v) : w'.cell? p = some v :=
  (World.cell?_of_block (g.block p.block (World.block_lt_of_cell? w _ h))).trans h
def posR (l : List ByteArray) (b : ByteArray) : Option Nat := l.findIdx? (fun x => decide (x = b))
def findR (l : List ByteArray) (b : ByteArray) : Int := match posR l b with | some k => (k : Nat) | none => -1
def mayAdd (l : List ByteArray) (b : ByteArray) : Bool := decide (0 ≤ argsR b) && decide (l.length < 48)
def interL (l : List ByteArray) (b : ByteArray) : List ByteArray := match posR l b with | some _ => l | none => if mayAdd l b = true then l ++ [b] else l
def interI (l : List ByteArray) (b : ByteArray) : Int := match posR l b with | some k => (k : Nat) | none => if mayAdd l b = true then (l.length : Nat) else -1
theorem pos_none {l : List ByteArray} {b : ByteArray} (h : posR l b = none) : b ∉ l := by
  unfold posR at h
  rw [List.findIdx?_eq_none_iff] at h
  intro hb
  have := h b hb
  simp at this
theorem pos_not {l : List ByteArray} {b : ByteArray} (h : b ∉ l) : posR l b = none := by
  unfold posR
  rw [List.findIdx?_eq_none_iff]
  intro x hx
  have : ¬ x = b := fun e => h (e ▸ hx)
  simp [this]
theorem pos_some {l : List ByteArray} {b : ByteArray} {k : Nat} (h : posR l b = some k) : l[k]? = some b := by
  unfold posR at h
  rw [List.findIdx?_eq_some_iff_getElem] at h
  obtain ⟨hk, e, _⟩ := h
  have e' : l[k] = b := by simpa using e
  rw [← e']; simp
theorem pos_at {l : List ByteArray} (hn : l.Nodup) {b : ByteArray} {k : Nat} (h : l[k]? = some b) : posR l b = some k := by
  obtain ⟨hk, e⟩ := List.getElem?_eq_some_iff.1 h
  unfold posR
  rw [List.findIdx?_eq_some_iff_getElem]
  refine ⟨hk, by simpa using e, fun j hj => ?_⟩
  have := List.pairwise_iff_getElem.1 hn j k (by omega) hk hj
  rw [e] at this
  simpa using this
theorem pos_lt {l : List ByteArray} {b : ByteArray} {k : Nat} (h : posR l b = some k) : k < l.length := (List.getElem?_eq_some_iff.1 (pos_some h)).1
def nameAt (l : List ByteArray) (i : Int) : ByteArray := if 0 ≤ i then l[i.toNat]?.getD ⟨#[]⟩ else ⟨#[]⟩
abbrev NAt := World → Nat → List ByteArray → (Nat → Prop) → Prop
/-- 'NA w p l F': at block p lies a table of the names l; it lies in the blocks F -/
structure TabK (NA : NAt) : Prop where
  lt : ∀ {w p l F}, NA w p l F → ∀ k, F k → k < w.heap.size
  keep : ∀ {w w' p l F}, NA w p l F → (∀ k, F k → w'.heap[k]? = w.heap[k]?) → NA w' p l F
  find : ∀ {w p l F} (b : ByteArray), NA w p l F → Calls Try.prog 17 #[.pointer (some ⟨p, 0, none⟩), .string b] w fun e w' => e = .returned (.int .i64 (findR l b)) ∧ Below w.heap.size w w'
  intern : ∀ {w p l F} (b : ByteArray), NA w p l F → Calls Try.prog 12 #[.pointer (some ⟨p, 0, none⟩), .string b] w fun e w' => ∃ F', e = .returned (.int .i64 (interI l b)) ∧ NA w' p (interL l b) F' ∧ Ch F w w' ∧ Newer F F' w.heap.size
  at' : ∀ {w p l F} (i : Int), NA w p l F → (-9223372036854775808 ≤ i) → (i ≤ 9223372036854775807) → Calls Try.prog 15 #[.pointer (some ⟨p, 0, none⟩), .int .i64 i] w fun e w' => e = .returned (.string (nameAt l i)) ∧ Below w.heap.size w w'
  len : ∀ {w p l F}, NA w p l F → Calls Try.prog 18 #[.pointer (some ⟨p, 0, none⟩)] w fun e w' => e = .returned (.int .i64 (l.length : Nat)) ∧ Below w.heap.size w w'
  new : ∀ {w}, Calls Try.prog 11 #[] w fun e w' => ∃ p F, e = .returned (.pointer (some ⟨p, 0, none⟩)) ∧ NA w' p [] F ∧ (∀ k, F k → w.heap.size ≤ k) ∧ Below w.heap.size w w'
/-- all that the laws ask of the package -/
structure NameK (NA : NAt) : Prop where
  nam : NamK
  tex : TexK
  tab : TabK NA
/-- a table of the call's own -/
structure PT (NA : NAt) (w0 wr : World) (p : Nat) (l : List ByteArray) (F : Nat → Prop) : Prop where
  ta : NA wr p l F
  bel : Below w0.heap.size w0 wr
  fF : ∀ k, F k → w0.heap.size ≤ k
  nd : l.Nodup
  le : l.length ≤ 48
theorem inter_nd {l : List ByteArray} (h : l.Nodup) (b : ByteArray) : (interL l b).Nodup := by
  unfold interL
  cases hp : posR l b with
  | some k => exact h
  | none =>
    simp only
    by_cases hm : mayAdd l b = true
    · rw [if_pos hm, List.nodup_append]
      exact ⟨h, by simp, fun x hx y hy e => pos_none hp (by have : y = b := by simpa using hy
                                                            rw [← this, ← e]; exact hx)⟩
    · rw [if_neg hm]; exact h
theorem inter_le {l : List ByteArray} (h : l.length ≤ 48) (b : ByteArray) : (interL l b).length ≤ 48 := by
  unfold interL
  cases hp : posR l b with
  | some k => exact h
  | none =>
    simp only
    by_cases hm : mayAdd l b = true
    · rw [if_pos hm]
      unfold mayAdd at hm
      simp at hm
      simp; omega
    · rw [if_neg hm]; exact h
theorem find_inter (l : List ByteArray) (b : ByteArray) : findR (interL l b) b = interI l b := by
  unfold interL interI
  cases hp : posR l b with
  | some k => simp only [findR, hp]
  | none =>
    simp only
    by_cases hm : mayAdd l b = true
    · rw [if_pos hm, if_pos hm]
      have : posR (l ++ [b]) b = some l.length := by
        unfold posR at hp ⊢
        rw [List.findIdx?_append, hp]
        simp
      simp only [findR, this]
    · rw [if_neg hm, if_neg hm]
      simp only [findR, hp]
section
variable {NA : NAt} {w0 wr wA w1 : World} {p : Nat} {l l' : List ByteArray} {F F' : Nat → Prop}
theorem PT.keep (K : TabK NA) (h : PT NA w0 wr p l F) (g : Below wr.heap.size wr wA) : PT NA w0 wA p l F :=
  ⟨K.keep h.ta (fun k hk => g.block k (K.lt h.ta k hk)), h.bel.trans (g.mono h.bel.size), h.fF, h.nd, h.le⟩
theorem PT.step (h : PT NA w0 wr p l F) {b : ByteArray} (hm : NA w1 p (interL l b) F') (c : Ch F wr w1) (hn : Newer F F' wr.heap.size) : PT NA w0 w1 p (interL l b) F' := by
  refine ⟨hm, below_ch h.bel c h.fF, fun k hk => ?_, inter_nd h.nd b, inter_le h.le b⟩
  rcases hn k hk with h' | h'
  · exact h.fF k h'
  · exact Nat.le_trans h.bel.size h'
end
section
variable {NA : NAt} {w0 wr : World} {p : Nat} {l l' : List ByteArray} {F : Nat → Prop}
theorem intern_s (K : TabK NA) (h : PT NA w0 wr p l F) {b : ByteArray} {r : Int} (hr : interI l b = r) (hl : interL l b = l') :
    Calls Try.prog 12 #[.pointer (some ⟨p, 0, none⟩), .string b] wr fun e w' => ∃ F', e = .returned (.int .i64 r) ∧ PT NA w0 w' p l' F' ∧ Ch F wr w' ∧ Newer F F' wr.heap.size := by
  refine (K.intern b h.ta).mono ?_
  rintro e w' ⟨F', rfl, hm, hc, hn⟩
  subst hr; subst hl
  exact ⟨F', rfl, h.step hm hc hn, hc, hn⟩
theorem find_s (K : TabK NA) (h : PT NA w0 wr p l F) {b : ByteArray} {r : Int} (hr : findR l b = r) :
    Calls Try.prog 17 #[.pointer (some ⟨p, 0, none⟩), .string b] wr fun e w' => e = .returned (.int .i64 r) ∧ PT NA w0 w' p l F ∧ Below wr.heap.size wr w' := by
  refine (K.find b h.ta).mono ?_
  rintro e w' ⟨rfl, hb⟩
  subst hr
  exact ⟨rfl, h.keep K hb, hb⟩
theorem at_s (K : TabK NA) (h : PT NA w0 wr p l F) {i : Int} (h0 : -9223372036854775808 ≤ i) (h1 : i ≤ 9223372036854775807) {b : ByteArray} (hr : nameAt l i = b) :
    Calls Try.prog 15 #[.pointer (some ⟨p, 0, none⟩), .int .i64 i] wr fun e w' => e = .returned (.string b) ∧ PT NA w0 w' p l F ∧ Below wr.heap.size wr w' := by
  refine (K.at' i h.ta h0 h1).mono ?_
  rintro e w' ⟨rfl, hb⟩
  subst hr
  exact ⟨rfl, h.keep K hb, hb⟩
theorem len_s (K : TabK NA) (h : PT NA w0 wr p l F) {n : Nat} (hr : l.length = n) :
    Calls Try.prog 18 #[.pointer (some ⟨p, 0, none⟩)] wr fun e w' => e = .returned (.int .i64 n) ∧ PT NA w0 w' p l F ∧ Below wr.heap.size wr w' := by
  refine (K.len h.ta).mono ?_
  rintro e w' ⟨rfl, hb⟩
  subst hr
  exact ⟨rfl, h.keep K hb, hb⟩
theorem new_s (K : TabK NA) (w : World) : Calls Try.prog 11 #[] w fun e w' => ∃ p F, e = .returned (.pointer (some ⟨p, 0, none⟩)) ∧ PT NA w w' p [] F := by
  refine K.new.mono ?_
  rintro e w' ⟨p, F, rfl, hm, hF, hb⟩
  exact ⟨p, F, rfl, hm, hb, hF, by simp, by simp⟩
theorem PT.keepB (K : TabK NA) (h : PT NA w0 wr p l F) {w' : World} (g : Below wr.heap.size wr w') : Hid (PT NA w0 w' p l F) := Lib.hid (h.keep K g)
end
/-- texts that came in -/
def StrV (w : World) (ad : Option Addr) (n : Nat) (S : Nat → ByteArray) : Prop := ∀ k, k < n → ∃ g off, ad = some ⟨g, off, none⟩ ∧ w.cell? ⟨g, off + k, none⟩ = some (.string (S k))
theorem StrV.up {w w' : World} {ad : Option Addr} {n : Nat} {S : Nat → ByteArray} (h : StrV w ad n S) (b : Below w.heap.size w w') : StrV w' ad n S := by
  intro k hk
  obtain ⟨g, off, e, c⟩ := h k hk
  exact ⟨g, off, e, cell_up b c⟩
end Wd
end Go.Proofs.Ytbefmkkmkjogcaa
