/- The landed dict: Put, Find. -/
import Derived.Test.YtdpckckfkpefnaaDB
namespace Go.Proofs.Ytdpckckfkpefnaa
open Go.RowKit
set_option linter.unusedVariables false
set_option maxRecDepth 20000
namespace Wd
set_option maxHeartbeats 8000000 in
theorem dput_c {w : World} {b : Nat} {D : Dst} {F : Nat → Prop} (h : DA w b D F) (sel met : Int) (hs : I64 sel) (hm : I64 met) :
    Calls Try.prog 12 #[.pointer (some ⟨b, 0, none⟩), .int .i64 sel, .int .i64 met] w fun e w' => ∃ F', e = .returned (.bool (putB D sel)) ∧ DA w' b (putD D sel met) F' ∧ Ch F w w' ∧ Newer F F' w.heap.size := by
  have hP := pr_d h.low sel
  have PP := Lib.hid (probe_c h.ref sel hs)
  replace h := Lib.hid h
  have hm' := Lib.hid hm
  have hs' := Lib.hid hs
  generalize prD D sel = X at hP PP
  obtain ⟨xa, xl⟩ := X
  rcases hP with ⟨h1, h2, -⟩ | ⟨i, hi, h1, h2, h3⟩
  · simp only at h1
    subst h1
    have e := Lib.hid (put_n (met := met) h2)
    go_enter Try.func12, Try.ntmps12
    go_wp2_with (first | (go_at_call 21; ((with_reducible refine PP.out.mono ?_); rintro e1 w1 ⟨rfl, rfl⟩)))
    go_ret
    exact ⟨F, by rw [e.out.1]; rfl, by rw [e.out.2]; exact h.out, Ch.refl _ _, fun k hk => Or.inl hk⟩
  · simp only at h1
    subst h1
    have e := Lib.hid (put_y (met := met) h2)
    have hsel : -1 ≤ sel := by
      unfold putP at h2
      split at h2
      · cases h2
      · omega
    have hB : Hid (DA ((w.setCell ⟨b, i, none⟩ (.int .i64 sel)).setCell ⟨b, 16 + i, none⟩ (.int .i64 met)) b (D.set i (sel, met)) F) := Lib.hid ⟨h.out.ref.both hi hs'.out hm'.out, fun k hk => by
      rw [sel_set h.out.ref.len hi]
      split
      · exact hsel
      · exact h.out.low k hk, h.out.own⟩
    have i0 : (0 : Int) ≤ (i : Int) := by omega
    have i1 : (i : Int) < 16 := by omega
    have c1 := h.out.ref.cs i hi
    have c2 := h.out.ref.cm i hi
    have z1 := h.out.ref.z i
    have z2 := h.out.ref.z (16 + i)
    have ne : ((i : Int) == -1) = false := by simp
    clear h2 h3
    go_enter Try.func12, Try.ntmps12
    go_wp2_with (first | (go_at_call 21; ((with_reducible refine PP.out.mono ?_); rintro e1 w1 ⟨rfl, rfl⟩)))
    go_region
    all_goals go_wp2
    all_goals go_ret
    all_goals exact ⟨F, by rw [e.out.1]; rfl, by rw [e.out.2]; exact ⟨hB.out.ref.same rfl, hB.out.low, hB.out.own⟩, chF h.out.own (two_ch _ b i (.int .i64 sel) (.int .i64 met)), fun k hk => Or.inl hk⟩
set_option maxHeartbeats 8000000 in
theorem dfind_c {w : World} {b : Nat} {D : Dst} {F : Nat → Prop} (h : DA w b D F) (sel : Int) (hs : I64 sel) :
    Calls Try.prog 13 #[.pointer (some ⟨b, 0, none⟩), .int .i64 sel] w fun e w' => e = .returned (.tuple #[.int .i64 (findD D sel).1, .int .i64 (findD D sel).2]) ∧ Below w.heap.size w w' := by
  have hP := pr_d h.low sel
  have PP := Lib.hid (probe_c h.ref sel hs)
  have hB := Lib.hid (Below.refl w.heap.size w)
  replace h := Lib.hid h
  have hs' := Lib.hid hs
  generalize prD D sel = X at hP PP
  obtain ⟨xa, xl⟩ := X
  rcases hP with ⟨h1, h2, h3⟩ | ⟨i, hi, h1, h2, h3⟩
  · simp only at h1 h3
    subst h1
    replace h3 := Lib.hid h3
    go_enter Try.func13, Try.ntmps13
    go_wp2_with (first | (go_at_call 21; ((with_reducible refine PP.out.mono ?_); rintro e1 w1 ⟨rfl, rfl⟩)))
    go_ret2
    exact ⟨by rw [h3.out]; rfl, hB.out⟩
  · simp only at h1
    subst h1
    have i0 : (0 : Int) ≤ (i : Int) := by omega
    have i1 : (i : Int) < 16 := by omega
    have c1 := h.out.ref.cs i hi
    have c2 := h.out.ref.cm i hi
    have ne : ((i : Int) == -1) = false := by simp
    generalize selA D i = x at *
    clear h2
    rcases h3 with ⟨hx, h3⟩ | ⟨hx, h0, h3⟩
    · have hx' : (x == -1) = true := by simpa using hx
      replace h3 := Lib.hid h3
      clear hx
      go_enter Try.func13, Try.ntmps13
      go_wp2_with (first | (go_at_call 21; ((with_reducible refine PP.out.mono ?_); rintro e1 w1 ⟨rfl, rfl⟩)))
      go_ret2
      exact ⟨by rw [h3.out]; rfl, hB.out⟩
    · have hx' : (x == -1) = false := by simp; omega
      replace h3 := Lib.hid h3
      clear hx
      go_enter Try.func13, Try.ntmps13
      go_wp2_with (first | (go_at_call 21; ((with_reducible refine PP.out.mono ?_); rintro e1 w1 ⟨rfl, rfl⟩)))
      go_ret2
      exact ⟨by rw [h3.out]; rfl, hB.out⟩
end Wd
end Go.Proofs.Ytdpckckfkpefnaa
