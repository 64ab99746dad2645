/- The landed table: Take, Give, Swap. -/
import Derived.Test.YtekjengdiakaaaaUOps
namespace Go.Proofs.Ytekjengdiakaaaa
open Go.RowKit Go.Maps
set_option linter.unusedVariables false
set_option maxRecDepth 20000
namespace Wd
section
variable {w w1 : World} {b m c c' : Nat} {T : Tst} {P : Nat → Pl} {M M' : Pl → Option Int}
set_option maxHeartbeats 4000000 in
theorem ugive_no (i : Int) (h : TP w b m T P c M) (hh : hasT T i = false) :
    Calls Try.prog 10 #[.pointer (some ⟨b, 0, none⟩), .int .i64 i] w fun e w' => e = .returned (.bool false) ∧ w' = w := by
  have P0 := uhas_c i h
  rw [hh] at P0
  replace P0 := Lib.hid P0
  clear h hh
  go_enter Try.func10, Try.ntmps10
  go_wp2_with (first | (go_at_call 23; ((with_reducible refine P0.out.mono ?_); rintro e w' ⟨rfl, hw'⟩; subst w')))
  go_ret
  exact ⟨rfl, rfl⟩
set_option maxHeartbeats 4000000 in
theorem ugive_yes {k : Nat} (h : TP w b m T P c M) (hk : k < 1024) (hh : hasT T (k : Int) = true) (hp : plOk (P k)) :
    Calls Try.prog 10 #[.pointer (some ⟨b, 0, none⟩), .int .i64 (k : Int)] w fun e w' => e = .returned (.bool true) ∧ TP w' b m (updT T k none) P (if (M (P k)).isSome then c - 1 else c) (updM M (P k) none) ∧ Ch (FT b m) w w' := by
  have P0 := uhas_c (k : Int) h
  rw [hh] at P0
  replace P0 := Lib.hid P0
  have hk1 : (k : Int) < 1024 := by omega
  obtain ⟨w2, hrun, hm2, hg2, hz2⟩ := h.drew.mp.del hp 0
  have h2 := h.drew.map hm2 hg2
  have ci := h2.ci k hk
  have zk := h2.z k
  have h3 := Lib.hid (h2.tell hk none)
  have hch : Hid (Ch (FT b m) w (w2.setCell ⟨b, k, none⟩ (.bool false))) := Lib.hid (((Ch.refl (FT b m) w).drew.trans ((grown_ch hg2).mono (fun j hj => Or.inr hj))).set ⟨b, k, none⟩ (Or.inl rfl) (.bool false))
  have cs := h.cs k hk
  have cl := h.cl k hk
  have cm := h.cm
  clear h h2 hm2 hg2 hz2 hh hp
  generalize (if (M (P k)).isSome then c - 1 else c) = c2 at *
  generalize updM M (P k) none = M2 at *
  unfold plV at hrun
  generalize (P k).1 = pa at *
  generalize (P k).2 = pc at *
  go_enter Try.func10, Try.ntmps10
  go_wp2_with (first | (go_at_call 23; ((with_reducible refine P0.out.mono ?_); rintro e w' ⟨rfl, hw'⟩; subst w')))
  go_region
  go_wp2
  go_ret
  exact ⟨rfl, h3.out, hch.out⟩
set_option maxHeartbeats 4000000 in
theorem utake_had (pl : Pl) (hp : plOk pl) (h : TP w b m T P c M) (hM : (M pl).isSome = true) :
    Calls Try.prog 9 #[.pointer (some ⟨b, 0, none⟩), plV pl] w fun e w' => e = .returned (.int .i64 (-1)) ∧ Below w.heap.size w w' := by
  have hB : Below w.heap.size w (w.alloc (.cells #[.int .i64 pl.1, .int .i64 pl.2] 30)) := (Below.refl _ _).alloc (Nat.le_refl _) _
  have hrun := (h.keep hB).drew.mp.look_ok hp
  rw [hM] at hrun
  replace hB := Lib.hid hB
  have cm := h.cm
  have lb := h.lt
  clear h hp hM
  generalize (M pl).getD 0 = x at *
  obtain ⟨pa, pc⟩ := pl
  unfold plV at *
  simp only at *
  go_enter Try.func9, Try.ntmps9
  go_wp2
  go_region
  go_wp2
  go_ret
  exact ⟨rfl, hB.out.drew⟩
set_option maxHeartbeats 4000000 in
theorem utake_full (pl : Pl) (hp : plOk pl) (h : TP w b m T P c M) (hM : (M pl).isSome = false) (hf : freeR T = none) :
    Calls Try.prog 9 #[.pointer (some ⟨b, 0, none⟩), plV pl] w fun e w' => e = .returned (.int .i64 (-1)) ∧ Below w.heap.size w w' := by
  have hB : Below w.heap.size w (w.alloc (.cells #[.int .i64 pl.1, .int .i64 pl.2] 30)) := (Below.refl _ _).alloc (Nat.le_refl _) _
  have hrun := (h.keep hB).drew.mp.look_ok hp
  rw [hM] at hrun
  have P0 := uleast_c (h.keep hB).drew
  rw [hf] at P0
  unfold frI at P0
  replace P0 := Lib.hid P0
  replace hB := Lib.hid hB
  have cm := h.cm
  have lb := h.lt
  clear h hp hM hf
  generalize (M pl).getD 0 = x at *
  obtain ⟨pa, pc⟩ := pl
  unfold plV at *
  simp only at *
  go_enter Try.func9, Try.ntmps9
  go_wp2
  go_region
  go_wp2_with (first | (go_at_call 21; ((with_reducible refine P0.out.mono ?_); rintro e w' ⟨rfl, hw'⟩; subst w')))
  go_ret
  exact ⟨rfl, hB.out.drew⟩
set_option maxHeartbeats 4000000 in
theorem utake_yes (pl : Pl) (hp : plOk pl) {k : Nat} (h : TP w b m T P c M) (hM : (M pl).isSome = false) (hf : freeR T = some k) (hk : k < 1024) (hc : c < maxLen) :
    Calls Try.prog 9 #[.pointer (some ⟨b, 0, none⟩), plV pl] w fun e w' => e = .returned (.int .i64 (k : Int)) ∧ TP w' b m (updT T k (some pl)) (updP P k pl) (c + 1) (updM M pl (some (k : Int))) ∧ Ch (FT b m) w w' := by
  have hB : Below w.heap.size w (w.alloc (.cells #[.int .i64 pl.1, .int .i64 pl.2] 30)) := (Below.refl _ _).alloc (Nat.le_refl _) _
  have h1 := (h.keep hB).drew
  have hrun := h1.mp.look_ok hp
  rw [hM] at hrun
  have P0 := uleast_c h1
  rw [hf] at P0
  unfold frI at P0
  replace P0 := Lib.hid P0
  have hA := h.tell hk (some pl)
  have hB2 : Below (w.setCell ⟨b, k, none⟩ (.bool (some pl).isSome)).heap.size (w.setCell ⟨b, k, none⟩ (.bool (some pl).isSome)) ((w.setCell ⟨b, k, none⟩ (.bool (some pl).isSome)).alloc (.cells #[.int .i64 pl.1, .int .i64 pl.2] 30)) := (Below.refl _ _).alloc (Nat.le_refl _) _
  have h2 := (hA.keep hB2).drew
  have P1 := uput_c h2 hk pl hp hc
  rw [hM] at P1
  unfold cntP at P1
  rw [if_neg (by simp)] at P1
  replace P1 := Lib.hid P1
  have hc2 : Hid (Ch (FT b m) w _) := Lib.hid ((((Ch.refl (FT b m) w).set ⟨b, k, none⟩ (Or.inl rfl) (.bool (some pl).isSome)).trans (below_toCh (FT b m) hB2)).drew)
  have cm := h.cm
  have lb := h.lt
  have ci := h.ci k hk
  have zk := h.z k
  have hk1 : (k : Int) < 1024 := by omega
  have hk2 : ((k : Int) == -1) = false := by simp
  have ne : w.heap.size ≠ b := by omega
  have ne' := Ne.symm ne
  clear h hp hM hf h1 h2 hB hA hB2
  generalize (M pl).getD 0 = x at *
  obtain ⟨pa, pc⟩ := pl
  unfold plV at *
  simp only [Option.isSome_some] at *
  go_enter Try.func9, Try.ntmps9
  go_wp2
  go_region
  go_wp2_with (first | (go_at_call 21; ((with_reducible refine P0.out.mono ?_); rintro e w' ⟨rfl, hw'⟩; subst w')) | (go_at_call 22; ((with_reducible refine P1.out.mono ?_); rintro e w' ⟨rfl, h3, c3⟩; replace h3 := Lib.hid h3; replace c3 := Lib.hid (hc2.out.trans c3))))
  go_ret
  exact ⟨rfl, h3.out, c3.out⟩
set_option maxHeartbeats 4000000 in
theorem uswap_no (i j : Int) (h : TP w b m T P c M) (hh : swapB T i j = false) :
    Calls Try.prog 16 #[.pointer (some ⟨b, 0, none⟩), .int .i64 i, .int .i64 j] w fun e w' => e = .returned (.bool false) ∧ w' = w := by
  have Pi := uhas_c i h
  have Pj := uhas_c j h
  unfold swapB at hh
  cases hi : hasT T i
  · rw [hi] at Pi
    replace Pi := Lib.hid Pi
    clear hi Pj hh h
    go_enter Try.func16, Try.ntmps16
    go_wp2_with (first | (go_at_call 23; ((with_reducible refine Pi.out.mono ?_); rintro e w' ⟨rfl, hw'⟩; subst w')))
    go_ret
    exact ⟨rfl, rfl⟩
  · rw [hi] at Pi hh
    rw [Bool.true_and] at hh
    rw [hh] at Pj
    replace Pi := Lib.hid Pi
    replace Pj := Lib.hid Pj
    clear hi hh h
    go_enter Try.func16, Try.ntmps16
    go_wp2_with (first | (go_at_call 23; ((with_reducible first | refine Pi.out.mono ?_ | refine Pj.out.mono ?_); rintro e w' ⟨rfl, hw'⟩; subst w')))
    go_ret
    exact ⟨rfl, rfl⟩
/-- two places of the call's own, whichever was made first -/
structure Two (w0 w : World) (x y : Nat) (p q : Pl) : Prop where
  bel : Below w0.heap.size w0 w
  a0 : w.cell? ⟨x, 0, none⟩ = some (.int .i64 p.1)
  a1 : w.cell? ⟨x, 1, none⟩ = some (.int .i64 p.2)
  b0 : w.cell? ⟨y, 0, none⟩ = some (.int .i64 q.1)
  b1 : w.cell? ⟨y, 1, none⟩ = some (.int .i64 q.2)
set_option maxHeartbeats 8000000 in
theorem uswap_yes {x y : Nat} {p q : Pl} (h : TP w b m T P c M) (hx : x < 1024) (hy : y < 1024) (hi : hasT T (x : Int) = true) (hj : hasT T (y : Int) = true) (px : P x = p) (py : P y = q) (hp : plOk p) (hq : plOk q) (hM : (M q).isSome = true) (hM2 : (updM M q (some (x : Int)) p).isSome = true) (hc : c < maxLen) :
    Calls Try.prog 16 #[.pointer (some ⟨b, 0, none⟩), .int .i64 (x : Int), .int .i64 (y : Int)] w fun e w' => e = .returned (.bool true) ∧ TP w' b m T (updP (updP P x q) y p) c (updM (updM M q (some (x : Int))) p (some (y : Int))) ∧ Ch (FT b m) w w' := by
  have Pi := uhas_c (x : Int) h
  have Pj := uhas_c (y : Int) h
  rw [hi] at Pi
  rw [hj] at Pj
  replace Pi := Lib.hid Pi
  replace Pj := Lib.hid Pj
  have hx1 : (x : Int) < 1024 := by omega
  have hy1 : (y : Int) < 1024 := by omega
  have sx := h.cs x hx
  have cx := h.cl x hx
  have sy := h.cs y hy
  have cy := h.cl y hy
  rw [px] at sx cx
  rw [py] at sy cy
  have kput : Hid (∀ w2, Below w.heap.size w w2 → Calls Try.prog 22 #[.pointer (some ⟨b, 0, none⟩), .int .i64 (x : Int), plV q] w2 fun e w' => e = .returned (.tuple #[]) ∧ TP w' b m T (updP P x q) c (updM M q (some (x : Int))) ∧ Ch (FT b m) w w' ∧ Ch (FT b m) w2 w') := Lib.hid (fun w2 g => by
    have := uput_c (h.keep g) hx q hq hc
    rw [hM] at this
    refine this.mono ?_
    rintro e w' ⟨he, ht, hch⟩
    exact ⟨he, ht, (below_toCh (FT b m) g).trans hch, hch⟩)
  have kput2 : Hid (∀ w2, TP w2 b m T (updP P x q) c (updM M q (some (x : Int))) → Calls Try.prog 22 #[.pointer (some ⟨b, 0, none⟩), .int .i64 (y : Int), plV p] w2 fun e w' => e = .returned (.tuple #[]) ∧ TP w' b m T (updP (updP P x q) y p) c (updM (updM M q (some (x : Int))) p (some (y : Int))) ∧ Ch (FT b m) w2 w') := Lib.hid (fun w2 h2 => by
    have := uput_c h2 hy p hp hc
    rw [hM2] at this
    exact this)
  have lb := h.lt
  have lm := h.mp.lt
  have ne : w.heap.size ≠ b := by omega
  have ne' := Ne.symm ne
  have ne1 : w.heap.size + 1 ≠ b := by omega
  have ne1' := Ne.symm ne1
  clear h hi hj px py hp hq hM hM2 hc
  obtain ⟨pa, pc⟩ := p
  obtain ⟨qa, qc⟩ := q
  unfold plV at *
  simp only at *
  go_enter Try.func16, Try.ntmps16
  go_wp2_with (first | (go_at_call 23; ((with_reducible first | refine Pi.out.mono ?_ | refine Pj.out.mono ?_); rintro e w' ⟨rfl, hw'⟩; subst w')))
  go_region
  · have h2 : Two w (((w.alloc (.cells #[.int .i64 pa, .int .i64 pc] 30)).alloc (.cells #[.int .i64 qa, .int .i64 qc] 30)).drew) (w.heap.size) (w.heap.size + 1) (pa, pc) (qa, qc) :=
      ⟨(((Below.refl _ _).alloc (Nat.le_refl _) _).alloc (by simp) _).drew, by simp, by simp, by simp, by simp⟩
    generalize (((w.alloc (.cells #[.int .i64 pa, .int .i64 pc] 30)).alloc (.cells #[.int .i64 qa, .int .i64 qc] 30)).drew) = w2 at h2 ⊢
    have P1 := Lib.hid (kput.out w2 h2.bel)
    have a0 := h2.a0
    have a1 := h2.a1
    have b0 := h2.b0
    have b1 := h2.b1
    clear sx cx sy cy
    simp only at a0 a1 b0 b1
    go_wp2_with fail
    refine P1.out.mono ?_
    rintro e w3 ⟨rfl, h3, c3, d3⟩
    have hbl := d3.block (w.heap.size) (World.block_lt_of_cell? w2 _ a0) (by unfold FT; omega)
    replace a0 := (World.cell?_of_block (a := ⟨w.heap.size, 0, none⟩) hbl).trans a0
    replace a1 := (World.cell?_of_block (a := ⟨w.heap.size, 1, none⟩) hbl).trans a1
    have P2 := Lib.hid (kput2.out w3 h3)
    replace c3 := Lib.hid c3
    clear b0 b1 P1 kput kput2 h3 d3 hbl h2
    go_wp2_with fail
    refine P2.out.mono ?_
    rintro e w4 ⟨rfl, h4, c4⟩
    replace h4 := Lib.hid h4
    replace c4 := Lib.hid (c3.out.trans c4)
    go_wp2_with fail
    go_ret
    exact ⟨rfl, h4.out, c4.out⟩
  · have h2 : Two w (((w.alloc (.cells #[.int .i64 qa, .int .i64 qc] 30)).alloc (.cells #[.int .i64 pa, .int .i64 pc] 30)).drew) (w.heap.size + 1) (w.heap.size) (pa, pc) (qa, qc) :=
      ⟨(((Below.refl _ _).alloc (Nat.le_refl _) _).alloc (by simp) _).drew, by simp, by simp, by simp, by simp⟩
    generalize (((w.alloc (.cells #[.int .i64 qa, .int .i64 qc] 30)).alloc (.cells #[.int .i64 pa, .int .i64 pc] 30)).drew) = w2 at h2 ⊢
    have P1 := Lib.hid (kput.out w2 h2.bel)
    have a0 := h2.a0
    have a1 := h2.a1
    have b0 := h2.b0
    have b1 := h2.b1
    clear sx cx sy cy
    simp only at a0 a1 b0 b1
    go_wp2_with fail
    refine P1.out.mono ?_
    rintro e w3 ⟨rfl, h3, c3, d3⟩
    have hbl := d3.block (w.heap.size + 1) (World.block_lt_of_cell? w2 _ a0) (by unfold FT; omega)
    replace a0 := (World.cell?_of_block (a := ⟨w.heap.size + 1, 0, none⟩) hbl).trans a0
    replace a1 := (World.cell?_of_block (a := ⟨w.heap.size + 1, 1, none⟩) hbl).trans a1
    have P2 := Lib.hid (kput2.out w3 h3)
    replace c3 := Lib.hid c3
    clear b0 b1 P1 kput kput2 h3 d3 hbl h2
    go_wp2_with fail
    refine P2.out.mono ?_
    rintro e w4 ⟨rfl, h4, c4⟩
    replace h4 := Lib.hid h4
    replace c4 := Lib.hid (c3.out.trans c4)
    go_wp2_with fail
    go_ret
    exact ⟨rfl, h4.out, c4.out⟩
end
end Wd
end Go.Proofs.Ytekjengdiakaaaa
