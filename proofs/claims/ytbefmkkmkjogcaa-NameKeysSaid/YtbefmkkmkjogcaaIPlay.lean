/- What the laws ask of a table of names: play. -/
import Derived.Test.YtbefmkkmkjogcaaITab
import Derived.Deep.DeepCutAuto
import Derived.Deep.AppendLies
import Derived.Deep.RegionWith
namespace Go.Proofs.Ytbefmkkmkjogcaa
open Go.RowKit
set_option linter.unusedVariables false
set_option maxRecDepth 20000
namespace Wd
def strs (L : List ByteArray) : List Value := L.map Value.string
theorem strs_len (L : List ByteArray) : (strs L).length = L.length * 1 := by simp [strs]
theorem strs_one (L : List ByteArray) : ∀ u ∈ strs L, u.oneCell' = true := by
  intro u hu
  obtain ⟨b, _, rfl⟩ := List.mem_map.1 hu
  rfl
theorem infoStr : (Try.prog.info? 9).map (fun i => (i.zero, i.size, i.bytes)) = some (some (.string ⟨#[]⟩), 1, 16) := by kernel_rfl
theorem one_at {w : World} {g : Nat} {b : ByteArray} (h : w.cell? ⟨g, 0, none⟩ = some (.string b)) : ∀ j u, (strs [b])[j]? = some u → w.cell? ((⟨g, 0, none⟩ : Addr).add j) = some u := by
  intro j u hu
  have hj : j = 0 := by have := (List.getElem?_eq_some_iff.1 hu).1; simpa [strs] using this
  subst hj
  have : u = .string b := by simpa [strs] using hu.symm
  rw [this]; exact h
/-- a table of l, and a row of R, of the call's own -/
structure PlS (NA : NAt) (w0 wr : World) (p : Nat) (l R : List ByteArray) (F : Nat → Prop) (v : Value) : Prop where
  pt : PT NA w0 wr p l F
  own : wr.ownsRow w0.heap.size 9 1 v R.length (strs R)
  fv : ∀ g, v.ownBlock = some g → ¬ F g
section
variable {NA : NAt} {w0 wr wA w1 : World} {p : Nat} {l l' R : List ByteArray} {F F' : Nat → Prop} {v v' : Value}
theorem own_ch {w w' : World} {base n : Nat} {xs : List Value} (h : w.ownsRow base 9 1 v n xs) (c : Ch F w w') (hF : ∀ g, v.ownBlock = some g → ¬ F g) : w'.ownsRow base 9 1 v n xs := by
  refine ⟨h.1, ?_⟩
  rcases h.2 with hh | ⟨g, cap, cur, rfl, h0, h2, h3⟩
  · exact Or.inl hh
  · exact Or.inr ⟨g, cap, cur, rfl, h0, (c.block g (Array.getElem?_eq_some_iff.1 h2).1 (hF g rfl)).trans h2, h3⟩
theorem PlS.keep (K : TabK NA) (h : PlS NA w0 wr p l R F v) (g : Below wr.heap.size wr wA) : PlS NA w0 wA p l R F v :=
  ⟨h.pt.keep K g, h.own.kept (row := none) ⟨g.os, g.tape, g.output, g.size, fun k hk _ => g.block k hk⟩ (by cases v.ownBlock <;> simp), h.fv⟩
theorem PlS.step (h : PlS NA w0 wr p l R F v) (hm : PT NA w0 w1 p l' F') (c : Ch F wr w1) (hn : Newer F F' wr.heap.size) : PlS NA w0 w1 p l' R F' v := by
  refine ⟨hm, own_ch h.own c h.fv, fun g hg hF => ?_⟩
  rcases hn g hF with h' | h'
  · exact h.fv g hg h'
  · have := (h.own.lt g hg).2; omega
theorem PlS.app (K : TabK NA) (h : PlS NA w0 wr p l R F v) {b : ByteArray} {o : Obj} {H : Nat} (hH : (wr.alloc o).heap.size = H) {g cap : Nat} (hv : v' = .slice (some ⟨g, 0, none⟩) (R.length + 1) cap) (hown : w1.ownsRow w0.heap.size 9 1 v' (R.length + 1) (strs R ++ strs [b])) (hg : (wr.alloc o).grownBy w1 v.ownBlock) (hat : v.ownBlock = some g ∨ g = H) :
    PlS NA w0 w1 p l (R ++ [b]) F v' := by
  have hF : ∀ k, F k → k < wr.heap.size := K.lt h.pt.ta
  subst hv
  refine ⟨⟨K.keep h.pt.ta (fun k hk => ?_), (h.pt.bel.alloc h.pt.bel.size _).grown hg (by have := h.pt.bel.size; simp; omega) (fun k' hk => (h.own.lt k' hk).1), h.pt.fF, h.pt.nd, h.pt.le⟩, by simpa [strs] using hown, fun g' hg' hFg => ?_⟩
  · exact (hg.block k (by have := hF k hk; simp; omega) (fun e => h.fv k e.symm hk)).trans (Below.heap_alloc _ _ _ (hF k hk))
  · have e : g' = g := by simpa [Value.ownBlock] using hg'.symm
    rcases hat with e2 | e2
    · exact h.fv g (e2) (e ▸ hFg)
    · have := hF g' hFg
      rw [e, e2, ← hH] at this
      simp at this
      omega
theorem row_at {w : World} {base n c : Nat} {a : Option Addr} {R : List ByteArray} (h : w.ownsRow base 9 1 (.slice a n c) R.length (strs R)) {k : Nat} {b : ByteArray} (hk : R[k]? = some b) : ∃ g, a = some ⟨g, 0, none⟩ ∧ w.cell? ⟨g, k, none⟩ = some (.string b) := by
  rcases h.2 with ⟨e, e0⟩ | ⟨g, cap, cur, e, _, hg, hn, hcap, hs, ht⟩
  · have := List.length_eq_zero_iff.1 e0
    subst this; simp at hk
  · cases e
    refine ⟨g, rfl, ?_⟩
    have hkl := (List.getElem?_eq_some_iff.1 hk).1
    have hc : cur[k]? = some (.string b) := by
      have h1 : (strs R)[k]? = some (.string b) := by unfold strs; rw [List.getElem?_map, hk]; rfl
      rw [← ht, List.getElem?_take, if_pos (by omega)] at h1
      simpa using h1
    simp [World.cell?, hg, hc]
theorem row_form {w : World} {base n : Nat} {xs : List Value} (h : w.ownsRow base 9 1 v n xs) : ∃ a c, v = .slice a n c := by
  rcases h.2 with ⟨rfl, h0⟩ | ⟨g, cap, cur, rfl, _⟩
  · exact ⟨_, _, by rw [h0]⟩
  · exact ⟨_, _, rfl⟩
end
theorem find_eq {W : List ByteArray} (hn : W.Nodup) {j : Nat} {b : ByteArray} (h : W[j]? = some b) : findR (W.take (j + 1)) b = (j : Nat) := by
  have hp := pos_at (hn.sublist (List.take_sublist _ _)) (b := b) (k := j) (by rw [List.getElem?_take, if_pos (by omega)]; exact h : (W.take (j + 1))[j]? = some b)
  simp only [findR, hp]
theorem find_ne {W : List ByteArray} {j : Nat} {x b : ByteArray} (h : W[j]? = some x) (e : ¬ x = b) : findR (W.take (j + 1)) b = findR (W.take j) b := by
  unfold findR posR
  rw [List.take_add_one, h, List.findIdx?_append]
  cases (W.take j).findIdx? (fun x => decide (x = b)) with
  | some k => rfl
  | none => simp [e]
theorem ba_beq' (a b : ByteArray) : (a == b) = decide (a = b) := by
  obtain ⟨⟨x⟩⟩ := a
  obtain ⟨⟨y⟩⟩ := b
  show ((⟨x⟩ : Array UInt8) == ⟨y⟩) = _
  simp only [ByteArray.mk.injEq, Array.mk.injEq]
  by_cases h : x = y
  · simp [h]
  · simp [h]
theorem bl_ne {a b : ByteArray} (h : ¬ a = b) : (a.toList == b.toList) = false := by
  rw [← beq_toListBytes a b, ba_beq']
  simp [h]
theorem bl_eq {a b : ByteArray} (h : a = b) : (a.toList == b.toList) = true := by
  rw [← beq_toListBytes a b, ba_beq']
  simp [h]
theorem find_bd (W : List ByteArray) (b : ByteArray) : -1 ≤ findR W b ∧ findR W b < (W.length : Nat) + 1 := by
  unfold findR
  cases hp : posR W b with
  | none => simp only; omega
  | some k => have := pos_lt hp; simp only; omega
theorem nameAt_in {W : List ByteArray} {j : Nat} {b : ByteArray} (h : W[j]? = some b) : nameAt W (j : Int) = b := by
  unfold nameAt
  rw [if_pos (by omega), Int.toNat_natCast, h]; rfl
theorem nameAt_end (W : List ByteArray) : nameAt W (W.length : Nat) = ⟨#[]⟩ := by
  unfold nameAt
  rw [if_pos (by omega), Int.toNat_natCast, List.getElem?_eq_none (by omega)]; rfl
theorem nameAt_neg (W : List ByteArray) : nameAt W (-1) = ⟨#[]⟩ := by
  unfold nameAt
  rw [if_neg (by omega)]
set_option maxHeartbeats 16000000 in
theorem play_any {NA : NAt} (K : TabK NA) {w : World} {ad : Option Addr} {n cap : Nat} {S : Nat → ByteArray} (HA : StrV w ad n S) (hn : n ≤ 9223372036854775807) :
    Calls Try.prog 9 #[.slice ad n cap] w fun e w' => e = .returned (.bool true) ∧ Below w.heap.size w w' := by
  obtain ⟨i0, hi0, hz0, hz1, hz2⟩ := info_parts infoStr
  have hmx : 100000 ≤ maxLen := by decide
  replace HA := Lib.hid HA
  go_enter Try.func9, Try.ntmps9
  go_upto_region 2 with (first | (go_at_call 11; ((with_reducible refine (new_s K _).mono ?_); rintro e1 w1 ⟨p, F, rfl, h0⟩)))
  have st0 : Hid (PlS NA w w1 p [] [] F (.slice none 0 0)) := Lib.hid ⟨h0, World.ownsRow_nil _ _ _ _, by simp [Value.ownBlock]⟩
  clear h0
  go_wp2
  go_loopw [4, 5] (fun i4 i5 wr => ∃ (k : Nat) (W : List ByteArray) (F : Nat → Prop) (a : Option Addr) (m c : Nat), k ≤ n ∧ k ≤ 120 ∧ i5 = .int .i64 k ∧ i4 = .slice a m c ∧ Hid (PlS NA w wr p W W F (.slice a m c)) ∧ Hid (m = W.length)) (fun _ i5 _ => 120 - (intOf i5).toNat)
  case atStart => exact ⟨0, [], F, none, 0, 0, by omega, by omega, rfl, rfl, st0, Lib.hid rfl⟩
  case round =>
    clear st0
    obtain ⟨k, W, F, a, m, c, hk, hk2, rfl, rfl, hS, hm⟩ := hrel
    have hm48 : m ≤ 48 := by have := hS.out.pt.le; have := hm.out; omega
    by_cases hlt : k < n ∧ k < 120
    · have d1 : decide ((k : Int) < (n : Int)) = true := by simp; omega
      have d2 : decide ((k : Int) < 120) = true := by simp; omega
      have q0 : (0 : Int) ≤ (k : Int) := by omega
      have q1 : (k : Int) < (n : Int) := by omega
      obtain ⟨g, off, rfl, sb0⟩ := HA.out k hlt.1
      obtain ⟨b, hb0⟩ : ∃ b, b = S k := ⟨_, rfl⟩
      rw [← hb0] at sb0
      clear hb0
      have sb := cell_up hS.out.pt.bel sb0
      replace sb0 := Lib.hid sb0
      go_upto_region 9 with fail
      have hst : Hid (findR (W.take 0) b = -1) := Lib.hid rfl
      go_wp2
      go_loopw [6, 25] (fun i6 i25 wi => ∃ (j : Nat), j ≤ m ∧ i25 = .int .i64 j ∧ i6 = .int .i64 (findR (W.take j) b) ∧ wi = wr) (fun _ i25 _ => m - (intOf i25).toNat)
      case atStart => exact ⟨0, by omega, rfl, by rw [hst.out], rfl⟩
      case round =>
        obtain ⟨j, hj, rfl, rfl, rfl⟩ := hrel
        by_cases hjt : j < m
        · have e1 : decide ((j : Int) < (m : Int)) = true := by simp; omega
          have r0 : (0 : Int) ≤ (j : Int) := by omega
          have r1 : (j : Int) < (m : Int) := by omega
          obtain ⟨x, hx⟩ : ∃ x, W[j]? = some x := ⟨W[j]'(by have := hm.out; omega), by simp⟩
          obtain ⟨g2, rfl, sx⟩ := row_at (by have := hS.out.own; exact this) hx
          by_cases he : x = b
          · have he' : (x.toList == b.toList) = true := bl_eq he
            have hf := Lib.hid (find_eq hS.out.pt.nd (he ▸ hx))
            clear he hx
            go_wp2
            go_roundw
            case rel => exact ⟨j + 1, by omega, by go_num, by rw [hf.out], trivial⟩
            case measure => simp [intOf]; omega
          · have he' : (x.toList == b.toList) = false := bl_ne he
            have hf := Lib.hid (find_ne hx he)
            clear he hx
            go_wp2
            go_roundw
            case rel => exact ⟨j + 1, by omega, by go_num, by rw [hf.out], trivial⟩
            case measure => simp [intOf]; omega
        · have e1 : decide ((j : Int) < (m : Int)) = false := by simp; omega
          have hj' : W.take j = W := by rw [show j = W.length by have := hm.out; omega]; exact List.take_length
          rw [hj']
          clear hj' hst
          have hfd : Hid (findR W b = findR W b) := Lib.hid rfl
          have PF := Lib.hid (fun wx (h : PT NA w wx p W F) => find_s K h (b := b) rfl)
          have hw1 : Hid ((interL W b).length = (interL W b).length) := Lib.hid rfl
          have hf := Lib.hid (find_inter W b)
          have PA := Lib.hid (args_c b)
          cases hp : posR W b with
          | some q =>
            have hfr : findR W b = (q : Nat) := by simp only [findR, hp]
            have hi : Hid (interI W b = (q : Nat)) := Lib.hid (by simp only [interI, hp])
            have hl : Hid (interL W b = W) := Lib.hid (by simp only [interL, hp])
            have hqb : q ≤ 100 := by have := pos_lt hp; have := hm.out; omega
            rw [hfr] at PF ⊢
            rw [hi.out, hl.out] at hf
            replace hw1 : Hid (W.length = m) := Lib.hid hm.out.symm
            have z1 : decide ((q : Int) < 0) = false := by simp
            clear hp hfr
            go_upto_region 20 with (first | (go_at_call 17; ((with_reducible refine (PF.out _ hS.out.pt).mono ?_); rintro e wf ⟨rfl, _, hb⟩; replace hS := Lib.hid (hS.out.keep K hb); clear hb; have sb7 := cell_up hS.out.pt.bel sb0.out)))
            go_wp2_with (first | (go_at_call 12; ((with_reducible refine (intern_s K hS.out.pt hi.out hl.out).mono ?_); rintro e wa ⟨F', rfl, h0, hc, hnw⟩; have hS1 := Lib.hid (hS.out.step h0 hc hnw); clear h0 hc hnw; have sb9 := cell_up hS1.out.pt.bel sb0.out)) | (go_at_call 18; ((with_reducible refine (len_s K hS1.out.pt hw1.out).mono ?_); rintro e wb ⟨rfl, _, hb⟩; have hS2 := Lib.hid (hS1.out.keep K hb); clear hb; have sb8 := cell_up hS2.out.pt.bel sb0.out)) | (go_at_call 17; ((with_reducible refine (find_s K hS2.out.pt hf.out).mono ?_); rintro e wc ⟨rfl, _, hb⟩; have hS3 := Lib.hid (hS2.out.keep K hb); clear hb)))
            go_roundw
            case rel => exact ⟨k + 1, W, F', a, m, c, by omega, by omega, by go_num, rfl, hS3, hm⟩
            case measure => simp [intOf]; omega
          | none =>
            have hfr : findR W b = -1 := by simp only [findR, hp]
            rw [hfr] at PF ⊢
            by_cases ha : 0 ≤ argsR b
            · have y1 : decide (argsR b ≥ 0) = true := by simpa using ha
              by_cases hm2 : m < 48
              · have y2 : decide ((m : Int) < 48) = true := by simp; omega
                have hmay : mayAdd W b = true := by unfold mayAdd; rw [decide_eq_true ha, decide_eq_true (p := W.length < 48) (by have := hm.out; omega)]; rfl
                have hi : Hid (interI W b = (m : Nat)) := Lib.hid (by simp only [interI, hp]; rw [if_pos hmay, hm.out])
                have hl : Hid (interL W b = W ++ [b]) := Lib.hid (by simp only [interL, hp]; rw [if_pos hmay])
                rw [hi.out, hl.out] at hf
                replace hw1 : Hid ((W ++ [b]).length = m + 1) := Lib.hid (by have := hm.out; simp; omega)
                clear hp hfr ha hmay
                generalize argsR b = ar at *
                go_upto_region 20 with (first | (go_at_call 17; ((with_reducible refine (PF.out _ hS.out.pt).mono ?_); rintro e wf ⟨rfl, _, hb⟩; replace hS := Lib.hid (hS.out.keep K hb); clear hb; have sb7 := cell_up hS.out.pt.bel sb0.out)) | (go_at_call 20; ((with_reducible refine (PA.out _).mono ?_); rintro e wg ⟨rfl, hwg⟩; subst wg)) | (at_builtin; refine wpList_append_lies _ rfl (.tmp 63) (.tmp 68) 23 rfl w.heap.size 9 i0 (.string ⟨#[]⟩) 1 16 Try.underlying23 hi0 hz0 hz1 hz2 rfl (by decide) _ m _ (by simp [Act.eval]) ((by have := hS.out.own; rw [← hm.out] at this; exact this : wf.ownsRow w.heap.size 9 1 (.slice a m c) m (strs W)).alloc _) ⟨wf.heap.size, 0, none⟩ 1 1 (strs [b]) (by simp [Act.eval]) (by simp [strs]) (one_at ((World.cell?_alloc_new _ _ _ 0).trans rfl)) (strs_one _) (by omega) (by omega) (by omega) (by have := hS.out.pt.bel.size; simp; omega) _ rfl ?_; intro g1 cap1 wh hown1 hgrow1 hat1 hlt1; have hS0 : Hid (PlS NA w wh p W (W ++ [b]) F (.slice (some ⟨g1, 0, none⟩) (m + 1) cap1)) := Lib.hid (PlS.app K hS.out (o := .cells #[.string b] 9) rfl (by rw [hm.out]) (by rw [← hm.out]; exact hown1) hgrow1 hat1); replace hS := hS0; clear hS0 hown1 hgrow1 hat1 hlt1; have sb6 := cell_up hS.out.pt.bel sb0.out))
                go_wp2_with (first | (go_at_call 12; ((with_reducible refine (intern_s K hS.out.pt hi.out hl.out).mono ?_); rintro e wa ⟨F', rfl, h0, hc, hnw⟩; have hS1 := Lib.hid (hS.out.step h0 hc hnw); clear h0 hc hnw; have sb9 := cell_up hS1.out.pt.bel sb0.out)) | (go_at_call 18; ((with_reducible refine (len_s K hS1.out.pt hw1.out).mono ?_); rintro e wb ⟨rfl, _, hb⟩; have hS2 := Lib.hid (hS1.out.keep K hb); clear hb; have sb8 := cell_up hS2.out.pt.bel sb0.out)) | (go_at_call 17; ((with_reducible refine (find_s K hS2.out.pt hf.out).mono ?_); rintro e wc ⟨rfl, _, hb⟩; have hS3 := Lib.hid (hS2.out.keep K hb); clear hb)))
                go_roundw
                case rel => exact ⟨k + 1, W ++ [b], F', _, m + 1, _, by omega, by omega, by go_num, rfl, hS3, Lib.hid hw1.out.symm⟩
                case measure => simp [intOf]; omega
              · have y2 : decide ((m : Int) < 48) = false := by simp; omega
                have hmay : ¬ mayAdd W b = true := by unfold mayAdd; rw [decide_eq_false (p := W.length < 48) (by have := hm.out; omega)]; simp
                have hi : Hid (interI W b = -1) := Lib.hid (by simp only [interI, hp]; rw [if_neg hmay])
                have hl : Hid (interL W b = W) := Lib.hid (by simp only [interL, hp]; rw [if_neg hmay])
                rw [hi.out, hl.out] at hf
                replace hw1 : Hid (W.length = m) := Lib.hid hm.out.symm
                clear hp hfr ha hmay
                generalize argsR b = ar at *
                go_upto_region 20 with (first | (go_at_call 17; ((with_reducible refine (PF.out _ hS.out.pt).mono ?_); rintro e wf ⟨rfl, _, hb⟩; replace hS := Lib.hid (hS.out.keep K hb); clear hb; have sb7 := cell_up hS.out.pt.bel sb0.out)) | (go_at_call 20; ((with_reducible refine (PA.out _).mono ?_); rintro e wg ⟨rfl, hwg⟩; subst wg)))
                go_wp2_with (first | (go_at_call 12; ((with_reducible refine (intern_s K hS.out.pt hi.out hl.out).mono ?_); rintro e wa ⟨F', rfl, h0, hc, hnw⟩; have hS1 := Lib.hid (hS.out.step h0 hc hnw); clear h0 hc hnw; have sb9 := cell_up hS1.out.pt.bel sb0.out)) | (go_at_call 18; ((with_reducible refine (len_s K hS1.out.pt hw1.out).mono ?_); rintro e wb ⟨rfl, _, hb⟩; have hS2 := Lib.hid (hS1.out.keep K hb); clear hb; have sb8 := cell_up hS2.out.pt.bel sb0.out)) | (go_at_call 17; ((with_reducible refine (find_s K hS2.out.pt hf.out).mono ?_); rintro e wc ⟨rfl, _, hb⟩; have hS3 := Lib.hid (hS2.out.keep K hb); clear hb)))
                go_roundw
                case rel => exact ⟨k + 1, W, F', a, m, c, by omega, by omega, by go_num, rfl, hS3, hm⟩
                case measure => simp [intOf]; omega
            · have y1 : decide (argsR b ≥ 0) = false := by simpa using ha
              have hmay : ¬ mayAdd W b = true := by unfold mayAdd; rw [decide_eq_false ha]; simp
              have hi : Hid (interI W b = -1) := Lib.hid (by simp only [interI, hp]; rw [if_neg hmay])
              have hl : Hid (interL W b = W) := Lib.hid (by simp only [interL, hp]; rw [if_neg hmay])
              rw [hi.out, hl.out] at hf
              replace hw1 : Hid (W.length = m) := Lib.hid hm.out.symm
              clear hp hfr ha hmay
              generalize argsR b = ar at *
              go_upto_region 20 with (first | (go_at_call 17; ((with_reducible refine (PF.out _ hS.out.pt).mono ?_); rintro e wf ⟨rfl, _, hb⟩; replace hS := Lib.hid (hS.out.keep K hb); clear hb; have sb7 := cell_up hS.out.pt.bel sb0.out)) | (go_at_call 20; ((with_reducible refine (PA.out _).mono ?_); rintro e wg ⟨rfl, hwg⟩; subst wg)))
              go_wp2_with (first | (go_at_call 12; ((with_reducible refine (intern_s K hS.out.pt hi.out hl.out).mono ?_); rintro e wa ⟨F', rfl, h0, hc, hnw⟩; have hS1 := Lib.hid (hS.out.step h0 hc hnw); clear h0 hc hnw; have sb9 := cell_up hS1.out.pt.bel sb0.out)) | (go_at_call 18; ((with_reducible refine (len_s K hS1.out.pt hw1.out).mono ?_); rintro e wb ⟨rfl, _, hb⟩; have hS2 := Lib.hid (hS1.out.keep K hb); clear hb; have sb8 := cell_up hS2.out.pt.bel sb0.out)) | (go_at_call 17; ((with_reducible refine (find_s K hS2.out.pt hf.out).mono ?_); rintro e wc ⟨rfl, _, hb⟩; have hS3 := Lib.hid (hS2.out.keep K hb); clear hb)))
              go_roundw
              case rel => exact ⟨k + 1, W, F', a, m, c, by omega, by omega, by go_num, rfl, hS3, hm⟩
              case measure => simp [intOf]; omega
    · by_cases hlt1 : k < n
      · have d1 : decide ((k : Int) < (n : Int)) = true := by simp; omega
        have d2 : decide ((k : Int) < 120) = false := by simp; omega
        go_wp2
        go_loopw [97] (fun i97 wx => ∃ j : Nat, j ≤ m ∧ i97 = .int .i64 j ∧ Hid (PlS NA w wx p W W F (.slice a m c))) (fun i97 _ => m - (intOf i97).toNat)
        case atStart => exact ⟨0, by omega, rfl, hS⟩
        case round =>
          clear hS
          obtain ⟨j, hj, rfl, hS⟩ := hrel
          by_cases hjt : j < m
          · have e1 : decide ((j : Int) < (m : Int)) = true := by simp; omega
            have r0 : (0 : Int) ≤ (j : Int) := by omega
            have r1 : (j : Int) < (m : Int) := by omega
            obtain ⟨x, hx⟩ : ∃ x, W[j]? = some x := ⟨W[j]'(by have := hm.out; omega), by simp⟩
            have hat := Lib.hid (nameAt_in hx)
            have hSd := Lib.hid (hS.out.keep K ((Below.refl _ _).drew))
            obtain ⟨g2, rfl, sx⟩ := row_at hS.out.own hx
            have sx' := Lib.hid sx
            have j63 : (-9223372036854775808 : Int) ≤ (j : Int) ∧ (j : Int) ≤ 9223372036854775807 := by omega
            clear hx
            go_wp2
            go_region_with (first | (go_at_call 15; (with_reducible refine (at_s K hSd.out.pt j63.1 j63.2 hat.out).mono ?_); rintro e wz ⟨rfl, _, hb⟩; have hS2 := Lib.hid (hSd.out.keep K hb); have sz := cell_up hb sx'.out; clear hb))
            all_goals go_wp2
            all_goals go_roundw
            all_goals first | exact ⟨j + 1, by omega, by go_num, hS2⟩ | (simp [intOf]; omega)
          · have e1 : decide ((j : Int) < (m : Int)) = false := by simp; omega
            have hna : Hid (nameAt W (-1) = ⟨#[]⟩) := Lib.hid (nameAt_neg W)
            have hnz : Hid (nameAt W (m : Nat) = ⟨#[]⟩) := Lib.hid (by rw [hm.out]; exact nameAt_end W)
            go_wp2_with (first | (go_at_call 15; ((with_reducible refine (at_s K hS.out.pt (by omega) (by omega) hna.out).mono ?_); rintro e wz ⟨rfl, _, hb⟩; replace hS := Lib.hid (hS.out.keep K hb); clear hb)) | (go_at_call 15; ((with_reducible refine (at_s K hS.out.pt (by omega) (by omega) hnz.out).mono ?_); rintro e wz ⟨rfl, _, hb⟩; replace hS := Lib.hid (hS.out.keep K hb); clear hb)))
            go_ret
            exact ⟨rfl, hS.out.pt.bel⟩
      · have d1 : decide ((k : Int) < (n : Int)) = false := by simp; omega
        go_wp2
        go_loopw [97] (fun i97 wx => ∃ j : Nat, j ≤ m ∧ i97 = .int .i64 j ∧ Hid (PlS NA w wx p W W F (.slice a m c))) (fun i97 _ => m - (intOf i97).toNat)
        case atStart => exact ⟨0, by omega, rfl, hS⟩
        case round =>
          clear hS
          obtain ⟨j, hj, rfl, hS⟩ := hrel
          by_cases hjt : j < m
          · have e1 : decide ((j : Int) < (m : Int)) = true := by simp; omega
            have r0 : (0 : Int) ≤ (j : Int) := by omega
            have r1 : (j : Int) < (m : Int) := by omega
            obtain ⟨x, hx⟩ : ∃ x, W[j]? = some x := ⟨W[j]'(by have := hm.out; omega), by simp⟩
            have hat := Lib.hid (nameAt_in hx)
            have hSd := Lib.hid (hS.out.keep K ((Below.refl _ _).drew))
            obtain ⟨g2, rfl, sx⟩ := row_at hS.out.own hx
            have sx' := Lib.hid sx
            have j63 : (-9223372036854775808 : Int) ≤ (j : Int) ∧ (j : Int) ≤ 9223372036854775807 := by omega
            clear hx
            go_wp2
            go_region_with (first | (go_at_call 15; (with_reducible refine (at_s K hSd.out.pt j63.1 j63.2 hat.out).mono ?_); rintro e wz ⟨rfl, _, hb⟩; have hS2 := Lib.hid (hSd.out.keep K hb); have sz := cell_up hb sx'.out; clear hb))
            all_goals go_wp2
            all_goals go_roundw
            all_goals first | exact ⟨j + 1, by omega, by go_num, hS2⟩ | (simp [intOf]; omega)
          · have e1 : decide ((j : Int) < (m : Int)) = false := by simp; omega
            have hna : Hid (nameAt W (-1) = ⟨#[]⟩) := Lib.hid (nameAt_neg W)
            have hnz : Hid (nameAt W (m : Nat) = ⟨#[]⟩) := Lib.hid (by rw [hm.out]; exact nameAt_end W)
            go_wp2_with (first | (go_at_call 15; ((with_reducible refine (at_s K hS.out.pt (by omega) (by omega) hna.out).mono ?_); rintro e wz ⟨rfl, _, hb⟩; replace hS := Lib.hid (hS.out.keep K hb); clear hb)) | (go_at_call 15; ((with_reducible refine (at_s K hS.out.pt (by omega) (by omega) hnz.out).mono ?_); rintro e wz ⟨rfl, _, hb⟩; replace hS := Lib.hid (hS.out.keep K hb); clear hb)))
            go_ret
            exact ⟨rfl, hS.out.pt.bel⟩
end Wd
end Go.Proofs.Ytbefmkkmkjogcaa
