/- What the laws ask of a table of identities: same. -/
import Derived.Test.YtekjengdiakaaaaTLaw
namespace Go.Proofs.Ytekjengdiakaaaa
open Go.RowKit
set_option linter.unusedVariables false
namespace Wd
theorem atP_has {T : Tst} {i : Int} (h : hasT T i = true) : ∃ k : Nat, i = k ∧ k < 1024 ∧ (∃ p, T k = some p ∧ atP T i = p) := by
  obtain ⟨k, rfl, hk, _, p, hp⟩ := hasT_some h
  refine ⟨k, rfl, hk, p, hp, ?_⟩
  unfold atP
  rw [if_pos h, show (k : Int).toNat = k by simp, hp]
  rfl
theorem atP_no {T : Tst} {i : Int} (h : hasT T i = false) : atP T i = (0, 0) := by
  unfold atP
  rw [if_neg (by simp [h])]
/-- three places that lie in memory of the call's own -/
structure SSt (w wr : World) (B7 B9 B11 : Nat) (p7 p9 p11 : Pl) : Prop where
  bel : Below w.heap.size w wr
  a7 : wr.cell? ⟨B7, 0, none⟩ = some (.int .i64 p7.1)
  c7 : wr.cell? ⟨B7, 1, none⟩ = some (.int .i64 p7.2)
  a9 : wr.cell? ⟨B9, 0, none⟩ = some (.int .i64 p9.1)
  c9 : wr.cell? ⟨B9, 1, none⟩ = some (.int .i64 p9.2)
  a11 : wr.cell? ⟨B11, 0, none⟩ = some (.int .i64 p11.1)
  c11 : wr.cell? ⟨B11, 1, none⟩ = some (.int .i64 p11.2)
  z11 : ∀ k, wr.frozen? ⟨B11, k, none⟩ = false
  n1 : B7 ≠ B11
  n2 : B9 ≠ B11
  far : w.heap.size ≤ B11
theorem SSt.keep {w wr w1 : World} {B7 B9 B11 : Nat} {p7 p9 p11 : Pl} (h : SSt w wr B7 B9 B11 p7 p9 p11) (g : Below wr.heap.size wr w1) : SSt w w1 B7 B9 B11 p7 p9 p11 := by
  have k : ∀ {a : Addr} {v : Value}, wr.cell? a = some v → w1.cell? a = some v := fun hc => (g.cell (World.block_lt_of_cell? wr _ hc)).trans hc
  exact ⟨h.bel.trans (g.mono h.bel.size), k h.a7, k h.c7, k h.a9, k h.c9, k h.a11, k h.c11, fun j => (World.frozen?_of_block (a := ⟨B11, j, none⟩) (g.block B11 (World.block_lt_of_cell? wr ⟨B11, 0, none⟩ h.a11))).trans (h.z11 j), h.n1, h.n2, h.far⟩
theorem SSt.put {w wr : World} {B7 B9 B11 : Nat} {p7 p9 p11 : Pl} (h : SSt w wr B7 B9 B11 p7 p9 p11) (q : Pl) : SSt w ((wr.setCell ⟨B11, 0, none⟩ (.int .i64 q.1)).setCell ⟨B11, 1, none⟩ (.int .i64 q.2)) B7 B9 B11 p7 p9 q := by
  have far : ∀ {B o : Nat}, B ≠ B11 → ((wr.setCell ⟨B11, 0, none⟩ (.int .i64 q.1)).setCell ⟨B11, 1, none⟩ (.int .i64 q.2)).cell? ⟨B, o, none⟩ = wr.cell? ⟨B, o, none⟩ := fun hB => by
    rw [World.cell?_setCell_far _ _ _ _ hB.symm, World.cell?_setCell_far _ _ _ _ hB.symm]
  refine ⟨below_ch h.bel (((Ch.refl (fun k => k = B11) wr).set _ rfl _).set _ rfl _) (fun k hk => by subst hk; exact h.far), (far h.n1).trans h.a7, (far h.n1).trans h.c7, (far h.n2).trans h.a9, (far h.n2).trans h.c9, ?_, ?_, fun k => by rw [World.frozen?_setCell, World.frozen?_setCell]; exact h.z11 k, h.n1, h.n2, h.far⟩
  · rw [World.cell?_setCell_other _ _ _ _ (by intro e; cases e)]
    exact World.cell?_setCell_same _ _ _ h.a11
  · exact World.cell?_setCell_same _ _ _ ((World.cell?_setCell_other _ _ _ _ (by intro e; cases e)).trans h.c11)
theorem sst_made {w w2 : World} {T1 T2 : TypeId} {p q r : Pl} (b2 : Below w.heap.size w w2) (x0 : w2.cell? ⟨w.heap.size, 0, none⟩ = some (.int .i64 p.1)) (x1 : w2.cell? ⟨w.heap.size, 1, none⟩ = some (.int .i64 p.2)) :
    SSt w ((w2.alloc (.cells #[.int .i64 q.1, .int .i64 q.2] T1)).alloc (.cells #[.int .i64 r.1, .int .i64 r.2] T2)) w.heap.size w2.heap.size (w2.heap.size + 1) p q r := by
  have l2 : w.heap.size < w2.heap.size := World.block_lt_of_cell? w2 _ x0
  have s1 : (w2.alloc (.cells #[.int .i64 q.1, .int .i64 q.2] T1)).heap.size = w2.heap.size + 1 := by simp
  have h7 : ((w2.alloc (.cells #[.int .i64 q.1, .int .i64 q.2] T1)).alloc (.cells #[.int .i64 r.1, .int .i64 r.2] T2)).heap[w.heap.size]? = w2.heap[w.heap.size]? := by
    rw [Below.heap_alloc _ _ _ (by simp; omega), Below.heap_alloc _ _ _ (by omega)]
  have h9 : ((w2.alloc (.cells #[.int .i64 q.1, .int .i64 q.2] T1)).alloc (.cells #[.int .i64 r.1, .int .i64 r.2] T2)).heap[w2.heap.size]? = some (.cells #[.int .i64 q.1, .int .i64 q.2] T1 (0, 0)) := by
    rw [Below.heap_alloc _ _ _ (by simp)]; exact heap_alloc_new _ _
  have h11 : ((w2.alloc (.cells #[.int .i64 q.1, .int .i64 q.2] T1)).alloc (.cells #[.int .i64 r.1, .int .i64 r.2] T2)).heap[w2.heap.size + 1]? = some (.cells #[.int .i64 r.1, .int .i64 r.2] T2 (0, 0)) := by
    rw [← s1]; exact heap_alloc_new _ _
  have hb : Below w.heap.size w ((w2.alloc (.cells #[.int .i64 q.1, .int .i64 q.2] T1)).alloc (.cells #[.int .i64 r.1, .int .i64 r.2] T2)) := (b2.alloc b2.size _).alloc (by have := b2.size; simp; omega) _
  generalize ((w2.alloc (.cells #[.int .i64 q.1, .int .i64 q.2] T1)).alloc (.cells #[.int .i64 r.1, .int .i64 r.2] T2)) = W at *
  exact ⟨hb, (World.cell?_of_block (a := ⟨w.heap.size, 0, none⟩) h7).trans x0, (World.cell?_of_block (a := ⟨w.heap.size, 1, none⟩) h7).trans x1, by simp [World.cell?, h9], by simp [World.cell?, h9], by simp [World.cell?, h11], by simp [World.cell?, h11], fun k => by simp [World.frozen?, h11], by omega, by omega, by omega⟩
set_option maxHeartbeats 8000000 in
theorem same_c {TA : TAt} (K : TableK TA) (i : Int) (i0 : -9223372036854775808 ≤ i) (i1 : i ≤ 9223372036854775807) (pl : Pl) (hp : plOk pl) {w0 w : World} {p b : Nat} {T : Tst} {F : Nat → Prop} (h : PSt TA w0 w p b T F) :
    Calls Try.prog 20 #[.pointer (some ⟨p, 0, none⟩), .pointer (some ⟨b, 0, none⟩), .int .i64 i, plV pl] w fun e w' => e = .returned (.bool true) ∧ Below w.heap.size w w' := by
  have hst : ∀ wr, Below w.heap.size w wr → TA wr p T F ∧ RefT wr b T := fun wr hb => ⟨(h.keep K hb).ta, (h.keep K hb).ref⟩
  replace hst := Lib.hid hst
  have hb0 := h.ref.lt
  obtain ⟨pa, pc⟩ := pl
  have hlen := idsT_len T
  replace hp := Lib.hid hp
  have ho : Hid (∀ wr, RefT wr b T → Calls Try.prog 26 #[.pointer (some ⟨b, 0, none⟩), .agg #[.int .i64 pa, .int .i64 pc]] wr fun e w' => e = .returned (.tuple #[.int .i64 (ofI T (pa, pc)), .bool (ofR T (pa, pc)).isSome]) ∧ Below wr.heap.size wr w') := Lib.hid (fun wr hr => rof_c (pa, pc) hr)
  have ko : Hid (∀ wr, TA wr p T F → Calls Try.prog 15 #[.pointer (some ⟨p, 0, none⟩), .agg #[.int .i64 pa, .int .i64 pc]] wr fun e w' => e = .returned (.tuple #[.int .i64 (ofI T (pa, pc)), .bool (ofR T (pa, pc)).isSome]) ∧ Below wr.heap.size wr w') := Lib.hid (fun wr hr => K.of (pa, pc) hr hp.out)
  unfold plV
  clear h
  generalize ofI T (pa, pc) = oi at ho ko
  generalize (ofR T (pa, pc)).isSome = ob at ho ko
  cases hh : hasT T i
  · have ea := atP_no hh
    have P2 : Hid (∀ wr, TA wr p T F → Calls Try.prog 14 #[.pointer (some ⟨p, 0, none⟩), .int .i64 i] wr fun e w' => e = .returned (.tuple #[.agg #[.int .i64 0, .int .i64 0], .bool false]) ∧ Below wr.heap.size wr w') := Lib.hid (by
      intro wr hr
      have := K.at' i hr i0 i1
      rw [ea, hh] at this
      exact this)
    replace hh := Lib.hid hh
    go_enter Try.func20, Try.ntmps20
    go_wp2_with fail
    have bA : Below w.heap.size w (w.alloc (.cells #[.int .i64 pa, .int .i64 pc] 30)) := (Below.refl _ _).alloc (Nat.le_refl _) _
    refine (P2.out _ (hst.out _ bA).1).mono ?_
    rintro e w2 ⟨rfl, h2⟩
    have b2 := bA.trans (h2.mono bA.size)
    have x0 : w2.cell? ⟨w.heap.size, 0, none⟩ = some (.int .i64 pa) := (h2.cell (by simp)).trans (by simp)
    have x1 : w2.cell? ⟨w.heap.size, 1, none⟩ = some (.int .i64 pc) := (h2.cell (by simp)).trans (by simp)
    have l2 : w.heap.size < w2.heap.size := World.block_lt_of_cell? w2 _ x0
    clear bA h2 P2
    go_wp2_with fail
    have S3 : SSt w ((w2.alloc (.cells #[.int .i64 0, .int .i64 0] 30)).alloc (.cells #[.int .i64 0, .int .i64 0] 46)) w.heap.size w2.heap.size (w2.heap.size + 1) (pa, pc) (0, 0) (0, 0) := sst_made (q := (0, 0)) (r := (0, 0)) b2 x0 x1
    generalize ((w2.alloc (.cells #[.int .i64 0, .int .i64 0] 30)).alloc (.cells #[.int .i64 0, .int .i64 0] 46)) = w3 at S3 ⊢
    have n79 : w.heap.size ≠ w2.heap.size := by omega
    have n7b : w.heap.size ≠ w2.heap.size + 1 := by omega
    have n9b : w2.heap.size ≠ w2.heap.size + 1 := by omega
    have P3 := rhas_c i (hst.out _ S3.bel).2
    rw [hh.out] at P3
    refine P3.mono ?_
    rintro e w' ⟨rfl, hw'⟩
    subst w'
    clear P3
    have S4 := S3
    have y0 := S4.a7
    have y1 := S4.c7
    go_wp2_with fail
    clear y0 y1
    refine (ko.out _ (hst.out _ S4.bel).1).mono ?_
    rintro e w5 ⟨rfl, h5⟩
    have S5 := S4.keep h5
    clear S4 h5
    have y0 := S5.a7
    have y1 := S5.c7
    replace S5 := Lib.hid S5
    go_wp2_with fail
    clear y0 y1
    refine (ho.out _ (hst.out _ S5.out.bel).2).mono ?_
    rintro e w6 ⟨rfl, h6⟩
    have S6 := Lib.hid (S5.out.keep h6)
    clear S5 h6
    go_wp2_with fail
    have P6 := rhas_c i (hst.out _ S6.out.bel).2
    rw [hh.out] at P6
    refine P6.mono ?_
    rintro e w' ⟨rfl, hw'⟩
    subst w'
    clear P6
    have y0 := S6.out.a9
    have y1 := S6.out.c9
    have y2 := S6.out.a11
    have y3 := S6.out.c11
    go_wp2_with fail
    clear y0 y1 y2 y3
    refine (K.ids (hst.out _ S6.out.bel).1).mono ?_
    rintro e w7 ⟨u1, rfl, s1, h7, _⟩
    have b7 := S6.out.bel.trans (h7.mono S6.out.bel.size)
    replace s1 := Lib.hid s1
    clear S6 h7
    go_wp2_with fail
    refine (rids_c (hst.out _ b7).2).mono ?_
    rintro e w8 ⟨u2, rfl, s2, h8, _⟩
    have s1' := Lib.hid (s1.out.keep h8)
    have b8 := Lib.hid (b7.trans (h8.mono b7.size))
    replace s2 := Lib.hid s2
    clear s1 b7 h8
    go_wp2_with fail
    refine (same_ints (idsT T) (idsT T) u1 u2 _ s1'.out s2.out (by omega) (by omega)).mono ?_
    rintro e w9 ⟨he, q, rfl⟩
    rw [decide_eq_true rfl] at he
    subst he
    go_wp2
    go_ret
    exact ⟨rfl, ⟨b8.out.os, b8.out.tape, b8.out.output, b8.out.size, b8.out.block⟩⟩
  · obtain ⟨k, rfl, hk, ⟨sa, sc⟩, hTk, ea⟩ := atP_has hh
    have hk1 : (k : Int) < 1024 := by omega
    have P2 : Hid (∀ wr, TA wr p T F → Calls Try.prog 14 #[.pointer (some ⟨p, 0, none⟩), .int .i64 (k : Int)] wr fun e w' => e = .returned (.tuple #[.agg #[.int .i64 sa, .int .i64 sc], .bool true]) ∧ Below wr.heap.size wr w') := Lib.hid (by
      intro wr hr
      have := K.at' (k : Int) hr i0 i1
      rw [ea, hh] at this
      exact this)
    replace hh := Lib.hid hh
    replace hTk := Lib.hid hTk
    go_enter Try.func20, Try.ntmps20
    go_wp2_with fail
    have bA : Below w.heap.size w (w.alloc (.cells #[.int .i64 pa, .int .i64 pc] 30)) := (Below.refl _ _).alloc (Nat.le_refl _) _
    refine (P2.out _ (hst.out _ bA).1).mono ?_
    rintro e w2 ⟨rfl, h2⟩
    have b2 := bA.trans (h2.mono bA.size)
    have x0 : w2.cell? ⟨w.heap.size, 0, none⟩ = some (.int .i64 pa) := (h2.cell (by simp)).trans (by simp)
    have x1 : w2.cell? ⟨w.heap.size, 1, none⟩ = some (.int .i64 pc) := (h2.cell (by simp)).trans (by simp)
    have l2 : w.heap.size < w2.heap.size := World.block_lt_of_cell? w2 _ x0
    clear bA h2 P2
    go_wp2_with fail
    have S3 : SSt w ((w2.alloc (.cells #[.int .i64 sa, .int .i64 sc] 30)).alloc (.cells #[.int .i64 0, .int .i64 0] 46)) w.heap.size w2.heap.size (w2.heap.size + 1) (pa, pc) (sa, sc) (0, 0) := sst_made (q := (sa, sc)) (r := (0, 0)) b2 x0 x1
    generalize ((w2.alloc (.cells #[.int .i64 sa, .int .i64 sc] 30)).alloc (.cells #[.int .i64 0, .int .i64 0] 46)) = w3 at S3 ⊢
    have n79 : w.heap.size ≠ w2.heap.size := by omega
    have n7b : w.heap.size ≠ w2.heap.size + 1 := by omega
    have n9b : w2.heap.size ≠ w2.heap.size + 1 := by omega
    have P3 := rhas_c (k : Int) (hst.out _ S3.bel).2
    rw [hh.out] at P3
    have R3 := (hst.out _ S3.bel).2
    have r0 := R3.cs k hk
    have r1 := R3.cl k hk
    unfold szR at r0
    unfold clR at r1
    rw [hTk.out] at r0 r1
    simp only [Option.getD] at r0 r1
    have S4 := S3.put (sa, sc)
    have y0 := S3.a7
    have y1 := S3.c7
    have y2 := S3.a11
    have y3 := S3.c11
    have y4 := S3.z11 0
    have y5 := S3.z11 1
    clear R3
    refine P3.mono ?_
    rintro e w' ⟨rfl, hw'⟩
    subst w'
    clear P3 S3
    replace S4 := Lib.hid S4
    go_wp2_with fail
    clear y0 y1 y2 y3 y4 y5 r0 r1
    replace S4 := S4.out
    generalize ((w3.setCell ⟨w2.heap.size + 1, 0, none⟩ (.int .i64 sa)).setCell ⟨w2.heap.size + 1, 1, none⟩ (.int .i64 sc)) = w4 at S4 ⊢
    refine (ko.out _ (hst.out _ S4.bel).1).mono ?_
    rintro e w5 ⟨rfl, h5⟩
    have S5 := S4.keep h5
    clear S4 h5
    have y0 := S5.a7
    have y1 := S5.c7
    replace S5 := Lib.hid S5
    go_wp2_with fail
    clear y0 y1
    refine (ho.out _ (hst.out _ S5.out.bel).2).mono ?_
    rintro e w6 ⟨rfl, h6⟩
    have S6 := Lib.hid (S5.out.keep h6)
    clear S5 h6
    go_wp2_with fail
    have P6 := rhas_c (k : Int) (hst.out _ S6.out.bel).2
    rw [hh.out] at P6
    refine P6.mono ?_
    rintro e w' ⟨rfl, hw'⟩
    subst w'
    clear P6
    have y0 := S6.out.a9
    have y1 := S6.out.c9
    have y2 := S6.out.a11
    have y3 := S6.out.c11
    go_wp2_with fail
    clear y0 y1 y2 y3
    refine (K.ids (hst.out _ S6.out.bel).1).mono ?_
    rintro e w7 ⟨u1, rfl, s1, h7, _⟩
    have b7 := S6.out.bel.trans (h7.mono S6.out.bel.size)
    replace s1 := Lib.hid s1
    clear S6 h7
    go_wp2_with fail
    refine (rids_c (hst.out _ b7).2).mono ?_
    rintro e w8 ⟨u2, rfl, s2, h8, _⟩
    have s1' := Lib.hid (s1.out.keep h8)
    have b8 := Lib.hid (b7.trans (h8.mono b7.size))
    replace s2 := Lib.hid s2
    clear s1 b7 h8
    go_wp2_with fail
    refine (same_ints (idsT T) (idsT T) u1 u2 _ s1'.out s2.out (by omega) (by omega)).mono ?_
    rintro e w9 ⟨he, q, rfl⟩
    rw [decide_eq_true rfl] at he
    subst he
    go_wp2
    go_ret
    exact ⟨rfl, ⟨b8.out.os, b8.out.tape, b8.out.output, b8.out.size, b8.out.block⟩⟩
end Wd
end Go.Proofs.Ytekjengdiakaaaa
