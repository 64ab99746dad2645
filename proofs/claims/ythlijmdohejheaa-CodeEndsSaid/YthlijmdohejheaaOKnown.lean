/- The chapter's runs. -/
import Derived.Test.YthlijmdohejheaaOApp
import Derived.Laws.IdiomStrings
namespace Go.Proofs.Ythlijmdohejheaa
open Go.RowKit
set_option linter.unusedVariables false
set_option maxRecDepth 20000
namespace Wd
def kM : MethA := ⟨0, 0, [], [3, 0, 14, 0]⟩
/-- the method of the runs, an instruction of its -/
structure KnS (w0 wr : World) (q : Nat) : Prop where
  b : MeB wr (q + 1) (.agg #[.int .i64 0, .int .i64 0, .slice none 0 0, .slice (some ⟨q, 0, none⟩) 4 4]) kM none (some ⟨q, 0, none⟩) 0 4
  bel : Below w0.heap.size w0 wr
theorem KnS.up {w0 w w1 : World} {q : Nat} (h : KnS w0 w q) (b : Below w.heap.size w w1) : KnS w0 w1 q := ⟨h.b.up b, h.bel.trans (b.mono h.bel.size)⟩
theorem KnS.c0 {w0 w : World} {q : Nat} (h : KnS w0 w q) : w.cell? ⟨q + 1, 0, none⟩ = some (.int .i64 0) := h.b.c0
theorem KnS.c1 {w0 w : World} {q : Nat} (h : KnS w0 w q) : w.cell? ⟨q + 1, 1, none⟩ = some (.int .i64 0) := h.b.c1
theorem KnS.c2 {w0 w : World} {q : Nat} (h : KnS w0 w q) : w.cell? ⟨q + 1, 2, none⟩ = some (.slice none 0 0) := h.b.c2
theorem KnS.c3 {w0 w : World} {q : Nat} (h : KnS w0 w q) : w.cell? ⟨q + 1, 3, none⟩ = some (.slice (some ⟨q, 0, none⟩) 4 4) := h.b.c3
theorem KnS.born (w : World) : KnS w ((w.alloc (.cells #[.int .u8 3, .int .u8 0, .int .u8 14, .int .u8 0] 5)).alloc (.cells #[.int .i64 0, .int .i64 0, .slice none 0 0, .slice (some ⟨w.heap.size, 0, none⟩) 4 4] 37)) w.heap.size := by
  have hb : ByV (w.alloc (.cells #[.int .u8 3, .int .u8 0, .int .u8 14, .int .u8 0] 5)) (.slice (some ⟨w.heap.size, 0, none⟩) 4 4) [3, 0, 14, 0] := by
    refine ⟨_, 4, rfl, by simp, by decide, fun k x hx => ?_⟩
    have hk : k < 4 := by have := (List.getElem?_eq_some_iff.1 hx).1; simpa using this
    rcases (show k = 0 ∨ k = 1 ∨ k = 2 ∨ k = 3 by omega) with rfl | rfl | rfl | rfl <;> (simp at hx; subst hx; exact ⟨by omega, _, 0, rfl, by simp⟩)
  have hm : MeV (w.alloc (.cells #[.int .u8 3, .int .u8 0, .int .u8 14, .int .u8 0] 5)) (.agg #[.int .i64 0, .int .i64 0, .slice none 0 0, .slice (some ⟨w.heap.size, 0, none⟩) 4 4]) kM := MeV.of (PrV.nil _) hb (in64_of (by omega) (by omega)) (in64_of (by omega) (by omega))
  have b1 := (Below.refl w.heap.size w).alloc (Nat.le_refl _) (.cells #[.int .u8 3, .int .u8 0, .int .u8 14, .int .u8 0] 5)
  have hB : MeB _ _ _ kM none (some ⟨w.heap.size, 0, none⟩) 0 4 := MeB.born hm
  rw [World.size_alloc] at hB
  exact ⟨hB, b1.trans (((Below.refl _ _).alloc (Nat.le_refl _) _).mono b1.size)⟩
/-- an instruction in a box -/
structure InI (wr : World) (q : Nat) : Prop where
  x0 : wr.cell? ⟨q, 0, none⟩ = some (.int .i64 14)
  x1 : wr.cell? ⟨q, 1, none⟩ = some (.int .i64 0)
theorem InI.up {w w1 : World} {q : Nat} (h : InI w q) (b : Below w.heap.size w w1) : InI w1 q := ⟨cell_up b h.x0, cell_up b h.x1⟩
theorem InI.born (w : World) (T : TypeId) : InI (w.alloc (.cells #[.int .i64 14, .int .i64 0] T)) w.heap.size := ⟨by simp, by simp⟩
theorem pr1_new (w : World) (x y : Int) (hx : In64 x) (hy : In64 y) (T : TypeId) : PrV (w.alloc (.cells #[.int .i64 x, .int .i64 y] T)) (.slice (some ⟨w.heap.size, 0, none⟩) 1 1) [(x, y)] := by
  refine ⟨_, 1, rfl, by simp, by decide, fun k z hz => ?_⟩
  have hk : k < 1 := by have := (List.getElem?_eq_some_iff.1 hz).1; simpa using this
  obtain rfl : k = 0 := by omega
  simp at hz; subst hz
  exact ⟨hx, hy, _, 0, rfl, by simp, by simp⟩
theorem two_text {w : World} {v : Value} (h : ByV w v [14, 0]) : (convert 35 9 v).run Try.prog w = .ok (.string ⟨#[14, 0]⟩) w := by
  obtain ⟨ad, cap, rfl, _⟩ := h.form
  obtain ⟨_, g, off, rfl, c0⟩ := h.at (k := 0) (x := 14) rfl
  obtain ⟨_, g', off', e, c1⟩ := h.at (k := 1) (x := 0) rfl
  cases e
  refine run_convert_bytes_back (P := Try.prog) w 35 9 5 ⟨g, off, none⟩ cap [14, 0] Try.underlying35 Try.underlying5 Try.underlying9 (fun j hj => ?_)
  have hk : j < 2 := by simpa using hj
  rw [Addr.add_lit]
  rcases (show j = 0 ∨ j = 1 by omega) with rfl | rfl
  · exact c0
  · exact c1
set_option maxHeartbeats 16000000 in
theorem known_c (K : CodeK) (w : World) : Calls Try.prog 12 #[] w fun e w' => e = .returned (.bool true) ∧ Below w.heap.size w w' := by
  have i64 : ∀ x : Int, -1000 ≤ x → x ≤ 1000 → In64 x := fun x h0 h1 => in64_of (by omega) (by omega)
  have hS := Lib.hid (KnS.born w)
  have hq : (w.alloc (.cells #[.int .u8 3, .int .u8 0, .int .u8 14, .int .u8 0] 5)).heap.size = w.heap.size + 1 := by simp
  have f2 : fetR kM.code 2 = (14, 0, true) := by decide +kernel
  have f1 : fetR kM.code 1 = (0, 0, false) := by decide +kernel
  have f4 : fetR kM.code 4 = (0, 0, false) := by decide +kernel
  have t0 : takR 0 = 2 := by decide +kernel
  have t23 : takR 23 = 0 := by decide +kernel
  have t24 : takR 24 = -1 := by decide +kernel
  have n19 : namR 19 = ⟨#[104, 111, 109, 101]⟩ := by decide +kernel
  have n22 : namR 22 = ⟨#[]⟩ := by decide +kernel
  have m0 : metR kM U0.names.length U0.classes.length U0.methods.length = 0 := by decide +kernel
  have m1 : metR ⟨0, 0, [], []⟩ U0.names.length U0.classes.length U0.methods.length = 12 := by decide +kernel
  have m9 : metR ⟨9, 0, [], []⟩ U0.names.length U0.classes.length U0.methods.length = 3 := by decide +kernel
  have hby : bytL [(14, 0)] = [14, 0] := by decide +kernel
  have heq : ∀ w, (binOp .eql 47 (.agg #[.int .i64 14, .int .i64 0]) (.agg #[.int .i64 14, .int .i64 0])).run Try.prog w = .ok (.bool true) w := fun w => by kernel_rfl
  go_enter Try.func12, Try.ntmps12
  go_upto_region 2 with fail
  clear hq
  generalize (w.alloc (.cells #[.int .u8 3, .int .u8 0, .int .u8 14, .int .u8 0] 5)).alloc (.cells #[.int .i64 0, .int .i64 0, .slice none 0 0, .slice (some ⟨w.heap.size, 0, none⟩) 4 4] 37) = W at *
  have a0 := hS.out.c0
  have a1 := hS.out.c1
  have a2 := hS.out.c2
  have a3 := hS.out.c3
  have P := K.fetch hS.out.b.me 2 (i64 _ (by omega) (by omega))
  rw [f2] at P
  replace P := Lib.hid P
  go_wp2_with fail
  with_reducible refine P.out.mono ?_
  rintro e y1 ⟨rfl, hb⟩
  replace hS := Lib.hid (hS.out.up hb)
  clear hb P a0 a1 a2 a3
  have hI := Lib.hid (InI.born y1 47)
  replace hS := Lib.hid (hS.out.up ((Below.refl _ _).alloc (Nat.le_refl _) (.cells #[.int .i64 14, .int .i64 0] 47)))
  go_upto_region 3 with fail
  generalize y1.alloc (.cells #[.int .i64 14, .int .i64 0] 47) = W0 at *
  obtain ⟨Q, hQ⟩ : ∃ Q, Q = y1.heap.size := ⟨_, rfl⟩
  rw [← hQ] at hI ⊢
  replace hQ := Lib.hid hQ
  have a0 := hS.out.c0
  have a1 := hS.out.c1
  have a2 := hS.out.c2
  have a3 := hS.out.c3
  have P := K.fetch hS.out.b.me 1 (i64 _ (by omega) (by omega))
  rw [f1] at P
  replace P := Lib.hid P
  go_wp2_with fail
  with_reducible refine P.out.mono ?_
  rintro e y2 ⟨rfl, hb⟩
  replace hS := Lib.hid (hS.out.up hb)
  replace hI := Lib.hid (hI.out.up hb)
  clear hb P a0 a1 a2 a3
  replace hI := Lib.hid (hI.out.up ((Below.refl _ _).alloc (Nat.le_refl _) (.cells #[.int .i64 0, .int .i64 0] 47)))
  replace hS := Lib.hid (hS.out.up ((Below.refl _ _).alloc (Nat.le_refl _) (.cells #[.int .i64 0, .int .i64 0] 47)))
  go_upto_region 4 with fail
  generalize y2.alloc (.cells #[.int .i64 0, .int .i64 0] 47) = W1 at *
  have a0 := hS.out.c0
  have a1 := hS.out.c1
  have a2 := hS.out.c2
  have a3 := hS.out.c3
  have P := K.fetch hS.out.b.me 4 (i64 _ (by omega) (by omega))
  rw [f4] at P
  replace P := Lib.hid P
  go_wp2_with fail
  with_reducible refine P.out.mono ?_
  rintro e y3 ⟨rfl, hb⟩
  replace hS := Lib.hid (hS.out.up hb)
  replace hI := Lib.hid (hI.out.up hb)
  clear hb P a0 a1 a2 a3
  replace hI := Lib.hid (hI.out.up ((Below.refl _ _).alloc (Nat.le_refl _) (.cells #[.int .i64 0, .int .i64 0] 47)))
  replace hS := Lib.hid (hS.out.up ((Below.refl _ _).alloc (Nat.le_refl _) (.cells #[.int .i64 0, .int .i64 0] 47)))
  go_upto_region 5 with fail
  generalize y3.alloc (.cells #[.int .i64 0, .int .i64 0] 47) = W2 at *
  have x0 := hI.out.x0
  have x1 := hI.out.x1
  have P := K.takes 0 (i64 _ (by omega) (by omega)) W2
  rw [t0] at P
  replace P := Lib.hid P
  go_wp2_with fail
  with_reducible refine P.out.mono ?_
  rintro e z1 ⟨rfl, hb⟩
  replace hS := Lib.hid (hS.out.up hb)
  replace hI := Lib.hid (hI.out.up hb)
  clear hb P x0 x1
  have x0 := hI.out.x0
  have x1 := hI.out.x1
  have P := K.takes 23 (i64 _ (by omega) (by omega)) z1
  rw [t23] at P
  replace P := Lib.hid P
  go_wp2_with fail
  with_reducible refine P.out.mono ?_
  rintro e z2 ⟨rfl, hb⟩
  replace hS := Lib.hid (hS.out.up hb)
  replace hI := Lib.hid (hI.out.up hb)
  clear hb P x0 x1
  have x0 := hI.out.x0
  have x1 := hI.out.x1
  have P := K.takes 24 (i64 _ (by omega) (by omega)) z2
  rw [t24] at P
  replace P := Lib.hid P
  go_wp2_with fail
  with_reducible refine P.out.mono ?_
  rintro e z3 ⟨rfl, hb⟩
  replace hS := Lib.hid (hS.out.up hb)
  replace hI := Lib.hid (hI.out.up hb)
  clear hb P x0 x1
  have x0 := hI.out.x0
  have x1 := hI.out.x1
  have P := K.name 19 (i64 _ (by omega) (by omega)) z3
  rw [n19] at P
  replace P := Lib.hid P
  go_wp2_with fail
  with_reducible refine P.out.mono ?_
  rintro e z4 ⟨rfl, hb⟩
  replace hS := Lib.hid (hS.out.up hb)
  replace hI := Lib.hid (hI.out.up hb)
  clear hb P x0 x1
  have x0 := hI.out.x0
  have x1 := hI.out.x1
  have P := K.name 22 (i64 _ (by omega) (by omega)) z4
  rw [n22] at P
  replace P := Lib.hid P
  go_wp2_with fail
  with_reducible refine P.out.mono ?_
  rintro e z5 ⟨rfl, hb⟩
  replace hS := Lib.hid (hS.out.up hb)
  replace hI := Lib.hid (hI.out.up hb)
  clear hb P x0 x1
  have x0 := hI.out.x0
  have x1 := hI.out.x1
  have a0 := hS.out.c0
  have a1 := hS.out.c1
  have a2 := hS.out.c2
  have a3 := hS.out.c3
  have P := K.right hS.out.b.me (UnK.zero z5)
  rw [m0] at P
  replace P := Lib.hid P
  go_wp2_with fail
  with_reducible refine P.out.mono ?_
  rintro e z6 ⟨rfl, hb⟩
  replace hS := Lib.hid (hS.out.up hb)
  replace hI := Lib.hid (hI.out.up hb)
  clear hb P a0 a1 a2 a3 x0 x1
  have x0 := hI.out.x0
  have x1 := hI.out.x1
  have P := K.right (MeV.zero z6 0 (i64 _ (by omega) (by omega))) (UnK.zero z6)
  rw [m1] at P
  replace P := Lib.hid P
  go_wp2_with fail
  with_reducible refine P.out.mono ?_
  rintro e z7 ⟨rfl, hb⟩
  replace hS := Lib.hid (hS.out.up hb)
  replace hI := Lib.hid (hI.out.up hb)
  clear hb P x0 x1
  have x0 := hI.out.x0
  have x1 := hI.out.x1
  have P := K.right (MeV.zero z7 9 (i64 _ (by omega) (by omega))) (UnK.zero z7)
  rw [m9] at P
  replace P := Lib.hid P
  go_wp2_with fail
  with_reducible refine P.out.mono ?_
  rintro e z8 ⟨rfl, hb⟩
  replace hS := Lib.hid (hS.out.up hb)
  replace hI := Lib.hid (hI.out.up hb)
  clear hb P x0 x1
  have x0 := hI.out.x0
  have x1 := hI.out.x1
  have hw8 := Lib.hid ((Below.refl z8.heap.size z8).alloc (Nat.le_refl _) (.cells #[.int .i64 14, .int .i64 0] 47))
  have P := K.bytes (pr1_new z8 14 0 (i64 _ (by omega) (by omega)) (i64 _ (by omega) (by omega)) 47) (by decide)
  rw [hby] at P
  replace P := Lib.hid P
  go_wp2_with fail
  with_reducible refine P.out.mono ?_
  rintro e z9 ⟨v', rfl, hv, hb⟩
  replace hS := Lib.hid ((hS.out.up hw8.out).up hb)
  have hcv := two_text hv
  clear hb P x0 x1 hv hI hw8
  go_wp2
  go_ret
  exact ⟨rfl, hS.out.bel⟩
end Wd
end Go.Proofs.Ythlijmdohejheaa
