/- Binds that came in; the document's own Of; what the laws ask of a dict, whoever keeps it. -/
import Derived.Test.YtdpckckfkpefnaaJNew
namespace Go.Proofs.Ytdpckckfkpefnaa
open Go.RowKit
set_option linter.unusedVariables false
set_option maxRecDepth 20000
namespace Wd
/-- pairs of numbers that came in -/
structure PrV (w : World) (v : Value) (L : List (Int × Int)) : Prop where
  mk ::
  ex : ∃ ad cap, v = .slice ad L.length cap ∧ L.length ≤ cap ∧ cap ≤ maxLen ∧ ∀ (k : Nat) x, L[k]? = some x → I64 x.1 ∧ I64 x.2 ∧ ∃ g off, ad = some ⟨g, off, none⟩ ∧ w.cell? ⟨g, off + k * 2, none⟩ = some (.int .i64 x.1) ∧ w.cell? ⟨g, off + k * 2 + 1, none⟩ = some (.int .i64 x.2)
section
variable {w w1 : World} {v : Value}
theorem PrV.up {L : List (Int × Int)} (h : PrV w v L) (b : Below w.heap.size w w1) : PrV w1 v L := by
  obtain ⟨ad, cap, rfl, h1, h2, h3⟩ := h.ex
  refine ⟨ad, cap, rfl, h1, h2, fun k x hx => ?_⟩
  obtain ⟨i1, i2, g, off, e, c0, c1⟩ := h3 k x hx
  exact ⟨i1, i2, g, off, e, cell_up b c0, cell_up b c1⟩
theorem PrV.take {ad : Option Addr} {n cap : Nat} {L : List (Int × Int)} (h : PrV w (.slice ad n cap) L) (k : Nat) (hk : k ≤ L.length) : PrV w (.slice ad k cap) (L.take k) := by
  obtain ⟨ad', cap', e, h1, h2, h3⟩ := h.ex
  cases e
  have hl : (L.take k).length = k := by rw [List.length_take]; omega
  refine ⟨ad, cap, by rw [hl], by omega, h2, fun j x hx => h3 j x ?_⟩
  rw [List.getElem?_take] at hx
  split at hx
  · exact hx
  · cases hx
theorem PrV.form {L : List (Int × Int)} (h : PrV w v L) : ∃ ad cap, v = .slice ad L.length cap ∧ L.length ≤ cap ∧ cap ≤ maxLen := by
  obtain ⟨ad, cap, e, h1, h2, h3⟩ := h.ex
  exact ⟨ad, cap, e, h1, h2⟩
theorem PrV.at {ad : Option Addr} {n cap : Nat} {L : List (Int × Int)} (h : PrV w (.slice ad n cap) L) {k : Nat} {x : Int × Int} (hk : L[k]? = some x) : I64 x.1 ∧ I64 x.2 ∧ ∃ g off, ad = some ⟨g, off, none⟩ ∧ w.cell? ⟨g, off + k * 2, none⟩ = some (.int .i64 x.1) ∧ w.cell? ⟨g, off + k * 2 + 1, none⟩ = some (.int .i64 x.2) := by
  obtain ⟨ad', cap', e, h1, h2, h3⟩ := h.ex
  cases e
  exact h3 k x hk
theorem PrV.nil (w : World) : PrV w (.slice none 0 0) [] := ⟨none, 0, rfl, Nat.le_refl _, Nat.zero_le _, fun k x h => by simp at h⟩
end
theorem drop_next {α : Type} {L : List α} {k : Nat} {x : α} (h : L[k]? = some x) : L.drop k = x :: L.drop (k + 1) := by
  obtain ⟨hk, e⟩ := List.getElem?_eq_some_iff.1 h
  rw [← e]
  exact List.drop_eq_getElem_cons hk
theorem of_step {B : List (Int × Int)} {D : Dst} {k : Nat} {x : Int × Int} (h : B[k]? = some x) (hb : putB D x.1 = true) : ofD (B.drop k) D = ofD (B.drop (k + 1)) (putD D x.1 x.2) := by
  rw [drop_next h, ofD, if_pos hb]
theorem of_stop {B : List (Int × Int)} {D : Dst} {k : Nat} {x : Int × Int} (h : B[k]? = some x) (hb : putB D x.1 = false) : ofD (B.drop k) D = none := by
  rw [drop_next h, ofD, if_neg (by rw [hb]; decide)]
theorem rel_below {w0 wr w1 : World} {b : Nat} (h : Below w0.heap.size w0 wr) (c : Ch (fun k => k = b) wr w1) (hb : w0.heap.size ≤ b) : Below w0.heap.size w0 w1 := below_ch h c (fun k hk => by subst hk; exact hb)
set_option maxHeartbeats 8000000 in
theorem rof_c {w : World} {v : Value} {B : List (Int × Int)} (h : PrV w v B) :
    Calls Try.prog 20 #[v] w fun e w' => ((∃ D b, ofD B D0 = some D ∧ e = .returned (.tuple #[.pointer (some ⟨b, 0, none⟩), .bool true]) ∧ RefD w' b D ∧ w.heap.size ≤ b) ∨ (ofD B D0 = none ∧ e = .returned (.tuple #[.pointer none, .bool false]))) ∧ Below w.heap.size w w' := by
  obtain ⟨ad, cap, rfl, hcap, hmx⟩ := h.form
  obtain ⟨n, hn⟩ : ∃ n, n = B.length := ⟨_, rfl⟩
  rw [← hn] at h hcap ⊢
  replace h := Lib.hid h
  have hn' := Lib.hid hn
  have hnm : n ≤ 9223372036854775807 := by have : maxLen ≤ 9223372036854775807 := by decide
                                           omega
  clear hmx hn
  go_enter Try.func20, Try.ntmps20
  go_upto_region 2 with (first | (go_at_call 16; ((with_reducible refine (new_c _).mono ?_); rintro e1 w1 ⟨b, rfl, hR, hb, hB⟩)))
  replace hR := Lib.hid hR
  replace hB := Lib.hid hB
  have hst : Hid (ofD B D0 = ofD (B.drop 0) D0) := Lib.hid (by simp)
  go_wp2
  go_loopw [10] (fun i10 wr => ∃ (k : Nat) (D : Dst), k ≤ n ∧ i10 = .int .i64 k ∧ Hid (RefD wr b D) ∧ Hid (ofD B D0 = ofD (B.drop k) D) ∧ Hid (Below w.heap.size w wr)) (fun i10 _ => n - (intOf i10).toNat)
  case atStart => exact ⟨0, D0, by omega, rfl, hR, hst, hB⟩
  case round =>
    clear hR hst hB
    obtain ⟨k, D, hk, rfl, hR, hO, hB⟩ := hrel
    by_cases hlt : k < n
    · have d1 : decide ((k : Int) < (n : Int)) = true := by simp; omega
      have p0 : (0 : Int) ≤ (k : Int) := by omega
      have p1 : (k : Int) < (n : Int) := by omega
      obtain ⟨⟨bs, bm⟩, hx⟩ : ∃ x, B[k]? = some x := ⟨B[k]'(by have := hn'.out; omega), by simp⟩
      obtain ⟨s64, m64, g, off, rfl, c0, c1⟩ := (h.out.up hB.out).at hx
      simp only at s64 m64 c0 c1
      have hB1 := Lib.hid (hB.out.alloc hB.out.size (.cells #[.int .i64 bs, .int .i64 bm] 27))
      have hR1 := hR.out.keep ((Below.refl wr.heap.size wr).alloc (Nat.le_refl _) (.cells #[.int .i64 bs, .int .i64 bm] 27))
      have PP := put_c hR1 bs bm s64 m64
      have hs := fun h => of_step (D := D) hx h
      have ht := fun h => of_stop (D := D) hx h
      clear hx
      cases hpb : putB D bs with
      | true =>
        rw [hpb] at PP
        replace PP := Lib.hid PP
        have hO' := Lib.hid (hO.out.trans (hs hpb))
        clear hpb hs ht hR1
        go_wp2_with (first | (go_at_call 17; ((with_reducible refine PP.out.mono ?_); rintro e1 w2 ⟨rfl, hR2, hc2⟩)))
        go_roundw
        case rel => exact ⟨k + 1, _, by omega, by go_num, Lib.hid hR2, hO', Lib.hid (rel_below hB1.out hc2 hb)⟩
        case measure => simp [intOf]; omega
      | false =>
        rw [hpb] at PP
        replace PP := Lib.hid PP
        have hO' := Lib.hid (hO.out.trans (ht hpb))
        clear hpb hs ht hR1
        go_wp2_with (first | (go_at_call 17; ((with_reducible refine PP.out.mono ?_); rintro e1 w2 ⟨rfl, hR2, hc2⟩)))
        go_ret2
        exact ⟨Or.inr ⟨hO'.out, rfl⟩, rel_below hB1.out hc2 hb⟩
    · have d1 : decide ((k : Int) < (n : Int)) = false := by simp; omega
      have e := hO.out
      rw [show k = B.length by have := hn'.out; omega, List.drop_length, ofD] at e
      replace e := Lib.hid e
      go_wp2
      go_ret2
      exact ⟨Or.inl ⟨D, b, e.out, rfl, hR.out, hb⟩, hB.out⟩
abbrev DAt := World → Nat → Dst → (Nat → Prop) → Prop
/-- what the laws ask of the package; 'DA w p D F': at block p lies a dict of D; it lies in the blocks F -/
structure DicK (DA : DAt) : Prop where
  lt : ∀ {w p D F}, DA w p D F → ∀ k, F k → k < w.heap.size
  keep : ∀ {w w' p D F}, DA w p D F → (∀ k, F k → w'.heap[k]? = w.heap[k]?) → DA w' p D F
  put : ∀ {w p D F} (sel met : Int), DA w p D F → I64 sel → I64 met → Calls Try.prog 12 #[.pointer (some ⟨p, 0, none⟩), .int .i64 sel, .int .i64 met] w fun e w' => ∃ F', e = .returned (.bool (putB D sel)) ∧ DA w' p (putD D sel met) F' ∧ Ch F w w' ∧ Newer F F' w.heap.size
  find : ∀ {w p D F} (sel : Int), DA w p D F → I64 sel → Calls Try.prog 13 #[.pointer (some ⟨p, 0, none⟩), .int .i64 sel] w fun e w' => e = .returned (.tuple #[.int .i64 (findD D sel).1, .int .i64 (findD D sel).2]) ∧ Below w.heap.size w w'
  len : ∀ {w p D F}, DA w p D F → Calls Try.prog 14 #[.pointer (some ⟨p, 0, none⟩)] w fun e w' => e = .returned (.int .i64 (cnt D : Nat)) ∧ Below w.heap.size w w'
  of : ∀ {w v B}, PrV w v B → Calls Try.prog 15 #[v] w fun e w' => ((∃ D p F, ofD B D0 = some D ∧ e = .returned (.tuple #[.pointer (some ⟨p, 0, none⟩), .bool true]) ∧ DA w' p D F ∧ (∀ k, F k → w.heap.size ≤ k)) ∨ (ofD B D0 = none ∧ e = .returned (.tuple #[.pointer none, .bool false]))) ∧ Below w.heap.size w w'
  new : ∀ {w}, Calls Try.prog 11 #[] w fun e w' => ∃ p F, e = .returned (.pointer (some ⟨p, 0, none⟩)) ∧ DA w' p D0 F ∧ (∀ k, F k → w.heap.size ≤ k) ∧ Below w.heap.size w w'
/-- a dict of the call's own -/
structure PD (DA : DAt) (w0 wr : World) (p : Nat) (D : Dst) (F : Nat → Prop) : Prop where
  da : DA wr p D F
  bel : Below w0.heap.size w0 wr
  fF : ∀ k, F k → w0.heap.size ≤ k
section
variable {DA : DAt} {w0 wr wA w1 : World} {p : Nat} {D D' : Dst} {F F' : Nat → Prop}
theorem PD.keep (K : DicK DA) (h : PD DA w0 wr p D F) (g : Below wr.heap.size wr wA) : PD DA w0 wA p D F :=
  ⟨K.keep h.da (fun k hk => g.block k (K.lt h.da k hk)), h.bel.trans (g.mono h.bel.size), h.fF⟩
theorem PD.step (h : PD DA w0 wr p D F) (hm : DA w1 p D' F') (c : Ch F wr w1) (hn : Newer F F' wr.heap.size) : PD DA w0 w1 p D' F' := by
  refine ⟨hm, below_ch h.bel c h.fF, fun k hk => ?_⟩
  rcases hn k hk with h' | h'
  · exact h.fF k h'
  · exact Nat.le_trans h.bel.size h'
theorem put_s (K : DicK DA) (h : PD DA w0 wr p D F) {sel met : Int} (hs : I64 sel) (hm : I64 met) {b : Bool} (hb : putB D sel = b) (hd : putD D sel met = D') :
    Calls Try.prog 12 #[.pointer (some ⟨p, 0, none⟩), .int .i64 sel, .int .i64 met] wr fun e w' => ∃ F', e = .returned (.bool b) ∧ PD DA w0 w' p D' F' ∧ Ch F wr w' ∧ Newer F F' wr.heap.size := by
  refine (K.put sel met h.da hs hm).mono ?_
  rintro e w' ⟨F', rfl, hm, hc, hn⟩
  subst hb; subst hd
  exact ⟨F', rfl, h.step hm hc hn, hc, hn⟩
theorem find_s (K : DicK DA) (h : PD DA w0 wr p D F) {sel x y : Int} (hs : I64 sel) (hf : findD D sel = (x, y)) :
    Calls Try.prog 13 #[.pointer (some ⟨p, 0, none⟩), .int .i64 sel] wr fun e w' => e = .returned (.tuple #[.int .i64 x, .int .i64 y]) ∧ PD DA w0 w' p D F ∧ Below wr.heap.size wr w' := by
  refine (K.find sel h.da hs).mono ?_
  rintro e w' ⟨rfl, hb⟩
  rw [hf]
  exact ⟨rfl, h.keep K hb, hb⟩
theorem len_s (K : DicK DA) (h : PD DA w0 wr p D F) {n : Nat} (hn : cnt D = n) :
    Calls Try.prog 14 #[.pointer (some ⟨p, 0, none⟩)] wr fun e w' => e = .returned (.int .i64 n) ∧ PD DA w0 w' p D F ∧ Below wr.heap.size wr w' := by
  refine (K.len h.da).mono ?_
  rintro e w' ⟨rfl, hb⟩
  subst hn
  exact ⟨rfl, h.keep K hb, hb⟩
theorem new_s (K : DicK DA) (w : World) : Calls Try.prog 11 #[] w fun e w' => ∃ p F, e = .returned (.pointer (some ⟨p, 0, none⟩)) ∧ PD DA w w' p D0 F := by
  refine K.new.mono ?_
  rintro e w' ⟨p, F, rfl, hm, hF, hb⟩
  exact ⟨p, F, rfl, hm, hb, hF⟩
end
end Wd
end Go.Proofs.Ytdpckckfkpefnaa
