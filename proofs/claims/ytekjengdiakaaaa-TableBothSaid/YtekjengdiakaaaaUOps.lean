/- The landed table: put, Of, At, New. -/
import Derived.Test.YtekjengdiakaaaaUBase
namespace Go.Proofs.Ytekjengdiakaaaa
open Go.RowKit Go.Maps
set_option linter.unusedVariables false
set_option maxRecDepth 20000
namespace Wd
def cntP (x : Bool) (c : Nat) : Nat := if x then c else c + 1
theorem wf_nat {k : Nat} (hk : k < 1024) : (Lit.int .i64 (k : Int)).wf = true := WalkArith.wf_i64 ⟨by omega, by omega⟩
section
variable {w w1 : World} {b m c c' : Nat} {T : Tst} {P : Nat → Pl} {M M' : Pl → Option Int}
set_option maxHeartbeats 4000000 in
theorem uput_c (h : TP w b m T P c M) {k : Nat} (hk : k < 1024) (pl : Pl) (hp : plOk pl) (hc : c < maxLen) :
    Calls Try.prog 22 #[.pointer (some ⟨b, 0, none⟩), .int .i64 (k : Int), plV pl] w fun e w' => e = .returned (.tuple #[]) ∧ TP w' b m T (updP P k pl) (cntP (M pl).isSome c) (updM M pl (some (k : Int))) ∧ Ch (FT b m) w w' := by
  have hk1 : (k : Int) < 1024 := by omega
  have lb := h.lt
  have h1 := h.place hk pl
  have hB : Below ((w.setCell ⟨b, 1024 + k * 2, none⟩ (.int .i64 pl.1)).setCell ⟨b, 1024 + k * 2 + 1, none⟩ (.int .i64 pl.2)).heap.size ((w.setCell ⟨b, 1024 + k * 2, none⟩ (.int .i64 pl.1)).setCell ⟨b, 1024 + k * 2 + 1, none⟩ (.int .i64 pl.2)) (((w.setCell ⟨b, 1024 + k * 2, none⟩ (.int .i64 pl.1)).setCell ⟨b, 1024 + k * 2 + 1, none⟩ (.int .i64 pl.2)).alloc (.cells #[.int .i64 pl.1, .int .i64 pl.2] 30)) := (Below.refl _ _).alloc (Nat.le_refl _) _
  have h2 := (h1.keep hB).drew.drew
  obtain ⟨w2, hrun, hm2, hg2, hz2⟩ := h2.mp.put hc hp (wf_nat hk)
  have h3 : Hid (TP w2 b m T (updP P k pl) (cntP (M pl).isSome c) (updM M pl (some (k : Int)))) := Lib.hid (h2.map hm2 hg2)
  have hch : Hid (Ch (FT b m) w w2) := Lib.hid ((((((Ch.refl (FT b m) w).set ⟨b, 1024 + k * 2, none⟩ (Or.inl rfl) (.int .i64 pl.1)).set ⟨b, 1024 + k * 2 + 1, none⟩ (Or.inl rfl) (.int .i64 pl.2)).trans (below_toCh (FT b m) hB)).drew.drew).trans ((grown_ch hg2).mono (fun j hj => Or.inr hj)))
  have cs := h.cs k hk
  have cl := h.cl k hk
  have z1 := h.z (1024 + k * 2)
  have z2 := h.z (1024 + k * 2 + 1)
  have cm := h.cm
  have ne : w.heap.size ≠ b := by omega
  have ne' := Ne.symm ne
  have n1 : ¬ (1024 + k * 2 = 3072) := by omega
  have n2 : ¬ (1024 + k * 2 + 1 = 3072) := by omega
  clear h h1 h2 hm2 hg2 hz2 hB hc hp
  obtain ⟨pa, pc⟩ := pl
  unfold plV at *
  simp only at *
  go_enter Try.func22, Try.ntmps22
  go_wp2
  go_region
  go_wp2
  go_region
  go_wp2
  go_end0
  exact ⟨rfl, h3.out, hch.out⟩
set_option maxHeartbeats 4000000 in
theorem uof_c (h : TP w b m T P c M) (pl : Pl) (hp : plOk pl) :
    Calls Try.prog 15 #[.pointer (some ⟨b, 0, none⟩), plV pl] w fun e w' => e = .returned (.tuple #[.int .i64 ((M pl).getD 0), .bool (M pl).isSome]) ∧ Below w.heap.size w w' := by
  have hB : Below w.heap.size w (w.alloc (.cells #[.int .i64 pl.1, .int .i64 pl.2] 30)) := (Below.refl _ _).alloc (Nat.le_refl _) _
  have hrun := (h.keep hB).drew.mp.look_ok hp
  replace hB := Lib.hid hB
  have cm := h.cm
  have lb := h.lt
  clear h hp
  generalize (M pl).getD 0 = x at *
  generalize (M pl).isSome = y at *
  obtain ⟨pa, pc⟩ := pl
  unfold plV at *
  simp only at *
  go_enter Try.func15, Try.ntmps15
  go_wp2
  go_region
  go_wp2
  go_ret2
  exact ⟨rfl, hB.out.drew⟩
set_option maxHeartbeats 4000000 in
theorem uat_c (h : TP w b m T P c M) (i : Int) (hT : ∀ k q, T k = some q → P k = q) :
    Calls Try.prog 14 #[.pointer (some ⟨b, 0, none⟩), .int .i64 i] w fun e w' => e = .returned (.tuple #[plV (atP T i), .bool (hasT T i)]) ∧ Below w.heap.size w w' := by
  have hB : Below w.heap.size w (w.alloc (.cells #[.int .i64 0, .int .i64 0] 30)) := (Below.refl _ _).alloc (Nat.le_refl _) _
  have P0 := uhas_c i (h.keep hB)
  have lb := h.lt
  cases hh : hasT T i
  · rw [atP_no hh]
    rw [hh] at P0
    replace P0 := Lib.hid P0
    replace hB := Lib.hid hB
    clear hh h
    unfold plV
    go_enter Try.func14, Try.ntmps14
    go_wp2_with (first | (go_at_call 23; ((with_reducible refine P0.out.mono ?_); rintro e w' ⟨rfl, hw'⟩; subst w')))
    go_returns
    exact ⟨rfl, (Below.refl _ _).alloc (Nat.le_refl _) _⟩
  · obtain ⟨k, rfl, hk, ⟨pa, pc⟩, hTk, ha⟩ := atP_has hh
    rw [ha]
    rw [hh] at P0
    replace P0 := Lib.hid P0
    replace hB := Lib.hid hB
    have hk1 : (k : Int) < 1024 := by omega
    have cs := h.cs k hk
    have cl := h.cl k hk
    rw [hT k _ hTk] at cs cl
    simp only at cs cl
    have ne : w.heap.size ≠ b := by omega
    have ne' := Ne.symm ne
    clear hh h hTk ha hT
    unfold plV
    go_enter Try.func14, Try.ntmps14
    go_wp2_with (first | (go_at_call 23; ((with_reducible refine P0.out.mono ?_); rintro e w' ⟨rfl, hw'⟩; subst w')))
    go_returns
    exact ⟨rfl, (Below.refl _ _).alloc (Nat.le_refl _) _⟩
end
end Wd
end Go.Proofs.Ytekjengdiakaaaa
