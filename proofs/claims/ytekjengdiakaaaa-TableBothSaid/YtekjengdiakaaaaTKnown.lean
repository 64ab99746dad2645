/- What the laws ask of a table of identities: known. -/
import Derived.Test.YtekjengdiakaaaaTSame
namespace Go.Proofs.Ytekjengdiakaaaa
open Go.RowKit
set_option linter.unusedVariables false
namespace Wd
theorem drewN_bel (w : World) (q : Nat) : Below w.heap.size w (w.drewN q) := ⟨rfl, rfl, rfl, Nat.le_refl _, fun _ _ => rfl⟩
theorem takeI_hit {T : Tst} {p : Pl} {k : Nat} (h1 : ofR T p = none) (h2 : freeR T = some k) : takeI T p = k ∧ takeT T p = updT T k (some p) := by
  unfold takeI takeT
  rw [h1, h2]
  exact ⟨rfl, rfl⟩
theorem takeI_no {T : Tst} {p : Pl} {k : Nat} (h1 : ofR T p = some k) : takeI T p = -1 ∧ takeT T p = T := by
  unfold takeI takeT
  rw [h1]
  exact ⟨rfl, rfl⟩
def t1 : Tst := updT noT 4 (some (1, 2))
def t2 : Tst := updT t1 5 (some (1, 3))
def t3 : Tst := updT (updT t2 4 (some (1, 3))) 5 (some (1, 2))
def t4 : Tst := updT t3 4 none
theorem z1 : takeI noT (1, 2) = 4 ∧ takeT noT (1, 2) = t1 := takeI_hit (by kernel_rfl) (by kernel_rfl)
theorem z2 : takeI t1 (1, 3) = 5 ∧ takeT t1 (1, 3) = t2 := takeI_hit (by kernel_rfl) (by kernel_rfl)
theorem z3 : takeI t2 (1, 2) = -1 ∧ takeT t2 (1, 2) = t2 := takeI_no (k := 4) (by kernel_rfl)
theorem z4 : swapB t2 4 5 = true ∧ swapT t2 4 5 = t3 := ⟨by kernel_rfl, rfl⟩
theorem z5 : plV (atP t3 4) = .agg #[.int .i64 1, .int .i64 3] ∧ hasT t3 4 = true := ⟨by kernel_rfl, by kernel_rfl⟩
theorem z6 : hasT t3 4 = true ∧ giveT t3 4 = t4 := ⟨by kernel_rfl, rfl⟩
theorem z7 : hasT t4 4 = false ∧ giveT t4 4 = t4 := ⟨by kernel_rfl, rfl⟩
theorem z8 : ofI t4 (1, 2) = 5 ∧ (ofR t4 (1, 2)).isSome = true := ⟨by kernel_rfl, by kernel_rfl⟩
theorem z9 : idsT t4 = [5] := by kernel_rfl
theorem z10 : swapB t4 4 5 = false ∧ swapT t4 4 5 = t4 := ⟨by kernel_rfl, rfl⟩
theorem z11 : takeI t4 (0, 0) = 4 := (takeI_hit (k := 4) (by kernel_rfl) (by kernel_rfl)).1
/-- a table of the package's, and a place in memory of the call's own -/
structure PX (TA : TAt) (w0 wr : World) (p : Nat) (T : Tst) (F : Nat → Prop) (B : Nat) (q : Pl) : Prop where
  pt : PT TA w0 wr p T F
  a0 : wr.cell? ⟨B, 0, none⟩ = some (.int .i64 q.1)
  a1 : wr.cell? ⟨B, 1, none⟩ = some (.int .i64 q.2)
  nF : ¬ F B
section
variable {TA : TAt} {w0 wr wA w1 : World} {p B : Nat} {T T' : Tst} {F F' : Nat → Prop} {q : Pl}
theorem PX.keep (K : TableK TA) (h : PX TA w0 wr p T F B q) (g : Below wr.heap.size wr wA) : PX TA w0 wA p T F B q :=
  ⟨h.pt.keep K g, (g.cell (World.block_lt_of_cell? wr _ h.a0)).trans h.a0, (g.cell (World.block_lt_of_cell? wr _ h.a1)).trans h.a1, h.nF⟩
theorem PX.step (h : PX TA w0 wr p T F B q) (hm : TA w1 p T' F') (c : Ch F wr w1) (hn : Newer F F' wr.heap.size) : PX TA w0 w1 p T' F' B q := by
  have hlt : B < wr.heap.size := World.block_lt_of_cell? wr _ h.a0
  have hb := c.block B hlt h.nF
  refine ⟨h.pt.step hm c hn, (World.cell?_of_block (a := ⟨B, 0, none⟩) hb).trans h.a0, (World.cell?_of_block (a := ⟨B, 1, none⟩) hb).trans h.a1, fun hF => ?_⟩
  rcases hn B hF with h' | h'
  · exact h.nF h'
  · omega
theorem PX.made (K : TableK TA) (h : PT TA w0 wr p T F) (q : Pl) (t : TypeId) : PX TA w0 (wr.alloc (.cells #[.int .i64 q.1, .int .i64 q.2] t)) p T F wr.heap.size q :=
  ⟨h.keep K ((Below.refl _ _).alloc (Nat.le_refl _) _), by simp, by simp, fun hF => by have := K.lt h.ta _ hF; omega⟩
end
set_option maxHeartbeats 8000000 in
theorem known_any {TA : TAt} (K : TableK TA) (w : World) :
    Calls Try.prog 11 #[] w fun e w' => e = .returned (.bool true) ∧ Below w.heap.size w w' := by
  go_enter Try.func11, Try.ntmps11
  go_wp2_with fail
  refine K.new.mono ?_
  rintro e w1 ⟨p, F0, rfl, hm, hF, hb⟩
  have hs : PT TA w w1 p noT F0 := ⟨hm, hb, hF⟩
  clear hm hF hb
  replace hs := Lib.hid hs
  go_wp2_with fail
  have P := K.take (1, 2) hs.out.ta (by unfold plOk; simp)
  rw [z1.1, z1.2] at P
  refine P.mono ?_
  clear P
  rintro e w2 ⟨F2, he, hm, hc, hn⟩
  replace he : e = .returned (.int .i64 4) := he
  subst he
  replace hs := Lib.hid (hs.out.step hm hc hn)
  clear hm hc hn
  go_wp2_with fail
  have P := K.take (1, 3) hs.out.ta (by unfold plOk; simp)
  rw [z2.1, z2.2] at P
  refine P.mono ?_
  clear P
  rintro e w3 ⟨F3, he, hm, hc, hn⟩
  replace he : e = .returned (.int .i64 5) := he
  subst he
  replace hs := Lib.hid (hs.out.step hm hc hn)
  clear hm hc hn
  go_wp2_with fail
  have P := K.take (1, 2) hs.out.ta (by unfold plOk; simp)
  rw [z3.1, z3.2] at P
  refine P.mono ?_
  clear P
  rintro e w4 ⟨F4, he, hm, hc, hn⟩
  replace he : e = .returned (.int .i64 (-1)) := he
  subst he
  replace hs := Lib.hid (hs.out.step hm hc hn)
  clear hm hc hn
  go_wp2_with fail
  have P := K.swap 4 5 hs.out.ta (by omega) (by omega) (by omega) (by omega)
  rw [z4.1, z4.2] at P
  refine P.mono ?_
  clear P
  rintro e w5 ⟨F5, he, hm, hc, hn⟩
  replace he : e = .returned (.bool true) := he
  subst he
  replace hs := Lib.hid (hs.out.step hm hc hn)
  clear hm hc hn
  go_wp2_with fail
  have P := K.at' 4 hs.out.ta (by omega) (by omega)
  rw [z5.1, z5.2] at P
  refine P.mono ?_
  clear P
  rintro e w6 ⟨rfl, hb⟩
  replace hs := Lib.hid (hs.out.keep K hb)
  clear hb
  replace hs := Lib.hid (PX.made K hs.out (1, 3) 30)
  go_wp2_with fail
  have P := K.give 4 hs.out.pt.ta (by omega) (by omega)
  rw [z6.1, z6.2] at P
  refine P.mono ?_
  clear P
  rintro e w7 ⟨F7, he, hm, hc, hn⟩
  replace he : e = .returned (.bool true) := he
  subst he
  replace hs := Lib.hid (hs.out.step hm hc hn)
  clear hm hc hn
  go_wp2_with fail
  have P := K.give 4 hs.out.pt.ta (by omega) (by omega)
  rw [z7.1, z7.2] at P
  refine P.mono ?_
  clear P
  rintro e w8 ⟨F8, he, hm, hc, hn⟩
  replace he : e = .returned (.bool false) := he
  subst he
  replace hs := Lib.hid (hs.out.step hm hc hn)
  clear hm hc hn
  go_wp2_with fail
  have P := K.of (1, 2) hs.out.pt.ta (by unfold plOk; simp)
  rw [z8.1, z8.2] at P
  refine P.mono ?_
  clear P
  rintro e w9 ⟨rfl, hb⟩
  replace hs := Lib.hid (hs.out.keep K hb)
  clear hb
  have x0 := hs.out.a0
  have x1 := hs.out.a1
  go_wp2_with fail
  clear x0 x1
  have P := K.ids hs.out.pt.ta
  rw [z9] at P
  refine P.mono ?_
  clear P
  rintro e w10 ⟨u, rfl, hu, hb, _⟩
  replace hs := Lib.hid (hs.out.keep K hb)
  have hlit : SL (w10.alloc (.cells #[.int .i64 5] 3)) 3 (.slice (some ⟨w10.heap.size, 0, none⟩) 1 1) [5] := World.ownsRow_lit w10 #[.int .i64 5] 1 (by omega) (by decide) rfl
  replace hu := Lib.hid hu
  clear hb
  go_wp2_with fail
  refine (same_ints [5] [5] u _ _ (hu.out.alloc _) hlit (by decide) (by decide)).mono ?_
  rintro e w11 ⟨rfl, q, rfl⟩
  replace hs := Lib.hid ((hs.out.keep K ((Below.refl _ _).alloc (Nat.le_refl _) (.cells #[.int .i64 5] 3))).keep K (drewN_bel _ q))
  clear hlit hu
  go_wp2_with fail
  have P := K.swap 4 5 hs.out.pt.ta (by omega) (by omega) (by omega) (by omega)
  rw [z10.1, z10.2] at P
  refine P.mono ?_
  clear P
  rintro e w12 ⟨F12, he, hm, hc, hn⟩
  replace he : e = .returned (.bool false) := he
  subst he
  replace hs := Lib.hid (hs.out.step hm hc hn)
  clear hm hc hn
  go_wp2_with fail
  have P := K.take (0, 0) hs.out.pt.ta (by unfold plOk; simp)
  rw [z11] at P
  refine P.mono ?_
  clear P
  rintro e w13 ⟨F13, he, hm, hc, hn⟩
  replace he : e = .returned (.int .i64 4) := he
  subst he
  replace hs := Lib.hid (hs.out.step hm hc hn)
  clear hm hc hn
  go_wp2
  go_ret
  exact ⟨rfl, hs.out.pt.bel⟩
end Wd
end Go.Proofs.Ytekjengdiakaaaa
