/- CodeNumbers, over what the laws ask of the package. -/
import Derived.Test.YthlijmdohejheaaOTells
import Derived.Test.YthlijmdohejheaaKM
import Derived.Test.YthlijmdohejheaaOTapeN
import Derived.Test.YthlijmdohejheaaOBytes
namespace Go.Proofs.Ythlijmdohejheaa
open Go.RowKit
set_option linter.unusedVariables false
set_option maxRecDepth 20000
namespace Wd
/-- a tape's program, a method of it -/
structure N2 (w wr : World) (vM vU : Value) (mM : MethA) (U : UnitA) (q2 q3 : Nat) (la ca na ka oa : Option Addr) (lc cc nc kc oc ug ucap : Nat) : Prop where
  bM : MeB wr q3 vM mM la ca lc cc
  bU : UnC wr q2 U na ka (some ⟨ug, 0, none⟩) oa nc kc ucap oc
  uk : UnK wr vU U
  bel : Below w.heap.size w wr
theorem N2.up {w w1 w2 : World} {vM vU : Value} {mM : MethA} {U : UnitA} {q2 q3 : Nat} {la ca na ka oa : Option Addr} {lc cc nc kc oc ug ucap : Nat} (h : N2 w w1 vM vU mM U q2 q3 la ca na ka oa lc cc nc kc oc ug ucap) (b : Below w1.heap.size w1 w2) : N2 w w2 vM vU mM U q2 q3 la ca na ka oa lc cc nc kc oc ug ucap :=
  ⟨h.bM.up b, h.bU.up b, h.uk.up b, h.bel.trans (b.mono h.bel.size)⟩
def n15L : List Int := [(-1), 0, 1, 5, 7, 8, 9, 20, 21, 22, 255, 1073741824, (-1073741825), 4611686018427387904, (-9223372036854775808)]
theorem n15_at : ∀ j, (hj : j < 15) → ([.int .i64 (-1), .int .i64 0, .int .i64 1, .int .i64 5, .int .i64 7, .int .i64 8, .int .i64 9, .int .i64 20, .int .i64 21, .int .i64 22, .int .i64 255, .int .i64 1073741824, .int .i64 (-1073741825), .int .i64 4611686018427387904, .int .i64 (-9223372036854775808)] : List Value)[j]'hj = .int .i64 (n15L.getD j 0) := by
  intro j hj
  rcases (show j = 0 ∨ j = 1 ∨ j = 2 ∨ j = 3 ∨ j = 4 ∨ j = 5 ∨ j = 6 ∨ j = 7 ∨ j = 8 ∨ j = 9 ∨ j = 10 ∨ j = 11 ∨ j = 12 ∨ j = 13 ∨ j = 14 by omega) with rfl | rfl | rfl | rfl | rfl | rfl | rfl | rfl | rfl | rfl | rfl | rfl | rfl | rfl | rfl <;> rfl
theorem n15_arr {j : Nat} (hj : j < 15) : (#[.int .i64 (-1), .int .i64 0, .int .i64 1, .int .i64 5, .int .i64 7, .int .i64 8, .int .i64 9, .int .i64 20, .int .i64 21, .int .i64 22, .int .i64 255, .int .i64 1073741824, .int .i64 (-1073741825), .int .i64 4611686018427387904, .int .i64 (-9223372036854775808)] : Array Value)[j]? = some (.int .i64 (n15L.getD j 0)) := by
  rw [Array.getElem?_eq_getElem (by simpa using hj)]
  exact congrArg some (n15_at j hj)
theorem n15_64 : ∀ j : Nat, j < 15 → -9223372036854775808 ≤ n15L.getD j 0 ∧ n15L.getD j 0 ≤ 9223372036854775807 := by decide +kernel
def m26 (o a : Int) : MethA := ⟨1, 2, [(3, 0), (5, 0), (6, 1), (6, 2), (7, 0)], [0, 0, o, a, 3, 0, 14, 0]⟩
theorem num_me (W : World) (o a : Int) (ho : 0 ≤ o ∧ o ≤ 255) (ha : 0 ≤ a ∧ a ≤ 255) : MeV ((W.alloc (.cells #[.int .i64 3, .int .i64 0, .int .i64 5, .int .i64 0, .int .i64 6, .int .i64 1, .int .i64 6, .int .i64 2, .int .i64 7, .int .i64 0] 41)).alloc (.cells #[.int .u8 0, .int .u8 0, .int .u8 o, .int .u8 a, .int .u8 3, .int .u8 0, .int .u8 14, .int .u8 0] 5)) (.agg #[.int .i64 1, .int .i64 2, .slice (some ⟨W.heap.size, 0, none⟩) 5 5, .slice (some ⟨W.heap.size + 1, 0, none⟩) 8 8]) (m26 o a) := by
  have i : ∀ x : Int, 0 ≤ x → x ≤ 100 → In64 x := fun x h0 h1 => in64_of (by omega) (by omega)
  have hp : PrV (W.alloc (.cells #[.int .i64 3, .int .i64 0, .int .i64 5, .int .i64 0, .int .i64 6, .int .i64 1, .int .i64 6, .int .i64 2, .int .i64 7, .int .i64 0] 41)) (.slice (some ⟨W.heap.size, 0, none⟩) 5 5) [(3, 0), (5, 0), (6, 1), (6, 2), (7, 0)] := by
    refine ⟨_, 5, rfl, by simp, by decide, fun k z hz => ?_⟩
    have hk2 : k < 5 := by have := (List.getElem?_eq_some_iff.1 hz).1; simpa using this
    rcases (show k = 0 ∨ k = 1 ∨ k = 2 ∨ k = 3 ∨ k = 4 by omega) with rfl | rfl | rfl | rfl | rfl <;> (simp at hz; subst hz; exact ⟨i _ (by simp only; omega) (by simp only; omega), i _ (by simp only; omega) (by simp only; omega), _, 0, rfl, by simp, by simp⟩)
  have hs1 : (W.alloc (.cells #[.int .i64 3, .int .i64 0, .int .i64 5, .int .i64 0, .int .i64 6, .int .i64 1, .int .i64 6, .int .i64 2, .int .i64 7, .int .i64 0] 41)).heap.size = W.heap.size + 1 := by simp
  have hb : ByV ((W.alloc (.cells #[.int .i64 3, .int .i64 0, .int .i64 5, .int .i64 0, .int .i64 6, .int .i64 1, .int .i64 6, .int .i64 2, .int .i64 7, .int .i64 0] 41)).alloc (.cells #[.int .u8 0, .int .u8 0, .int .u8 o, .int .u8 a, .int .u8 3, .int .u8 0, .int .u8 14, .int .u8 0] 5)) (.slice (some ⟨W.heap.size + 1, 0, none⟩) 8 8) [0, 0, o, a, 3, 0, 14, 0] := by
    rw [← hs1]
    refine ⟨_, 8, rfl, by simp, by decide, fun k z hz => ?_⟩
    have hk4 : k < 8 := by have := (List.getElem?_eq_some_iff.1 hz).1; simpa using this
    rcases (show k = 0 ∨ k = 1 ∨ k = 2 ∨ k = 3 ∨ k = 4 ∨ k = 5 ∨ k = 6 ∨ k = 7 by omega) with rfl | rfl | rfl | rfl | rfl | rfl | rfl | rfl <;> (simp at hz; subst hz; exact ⟨by omega, _, 0, rfl, by rw [World.cell?_alloc_new]; rfl⟩)
  exact MeV.of (hp.up ((Below.refl _ _).alloc (Nat.le_refl _) _)) hb (i 1 (by omega) (by omega)) (i 2 (by omega) (by omega))
theorem by2_new (W : World) (o a : Int) (ho : 0 ≤ o ∧ o ≤ 255) (ha : 0 ≤ a ∧ a ≤ 255) : ByV (W.alloc (.cells #[.int .u8 o, .int .u8 a] 5)) (.slice (some ⟨W.heap.size, 0, none⟩) 2 2) [o, a] := by
  refine ⟨_, 2, rfl, by simp, by decide, fun k z hz => ?_⟩
  have hk4 : k < 2 := by have := (List.getElem?_eq_some_iff.1 hz).1; simpa using this
  rcases (show k = 0 ∨ k = 1 by omega) with rfl | rfl <;> (simp at hz; subst hz; exact ⟨by omega, _, 0, rfl, by rw [World.cell?_alloc_new]; rfl⟩)
theorem by1_new (W : World) (o : Int) (ho : 0 ≤ o ∧ o ≤ 255) : ByV (W.alloc (.cells #[.int .u8 o] 5)) (.slice (some ⟨W.heap.size, 0, none⟩) 1 1) [o] := by
  refine ⟨_, 1, rfl, by simp, by decide, fun k z hz => ?_⟩
  have hk4 : k < 1 := by have := (List.getElem?_eq_some_iff.1 hz).1; simpa using this
  obtain rfl : k = 0 := by omega
  simp at hz
  subst hz
  exact ⟨by omega, _, 0, rfl, by rw [World.cell?_alloc_new]; rfl⟩
def nmX : List ByteArray := [⟨#[120]⟩]
def clX : List ClassA := [⟨⟨#[]⟩, 0, 0, []⟩, ⟨⟨#[]⟩, 0, 0, []⟩, ⟨⟨#[]⟩, 0, 0, []⟩]
def mtX : List MethA := [⟨0, 0, [], []⟩]
abbrev nmO : Obj := .cells #[.string ⟨#[120]⟩] 9 (0, 0)
abbrev clO : Obj := .cells (madeCells #[.string ⟨#[]⟩, .int .i64 0, .int .i64 0, .slice none 0 0] 12) 61 (0, 0)
abbrev mtO : Obj := .cells (madeCells #[.int .i64 0, .int .i64 0, .slice none 0 0, .slice none 0 0] 4) 37 (0, 0)
theorem nm_new (W : World) : NmV (W.alloc nmO) (.slice (some ⟨W.heap.size, 0, none⟩) 1 1) nmX := NmV.own (T := nmX) (e := 9) (alloc_at W nmO W.heap.size rfl) (by decide)
theorem cl_new (W : World) : ClV (W.alloc clO) (.slice (some ⟨W.heap.size, 0, none⟩) 3 3) clX := by
  have hr := row_of (b := 0) (sz := 4) (m := 3) (alloc_at W clO W.heap.size rfl) (Nat.zero_le _) (by rw [size_madeCells]) (by decide)
  have e : (madeCells #[Value.string ⟨#[]⟩, .int .i64 0, .int .i64 0, .slice none 0 0] 12).toList = cl4s (clX.map (fun c => (c, Value.slice none 0 0))) := by kernel_rfl
  rw [e] at hr
  have := ClV.own (T := clX.map (fun c => (c, Value.slice none 0 0))) hr (fun x hx => by
    simp only [clX, List.map_cons, List.map_nil, List.mem_cons, List.not_mem_nil, or_false, or_self] at hx
    subst hx
    exact ⟨in64_z, in64_z, PrV.nil _⟩)
  exact this
theorem mt_new (W : World) : MtV (W.alloc mtO) (.slice (some ⟨W.heap.size, 0, none⟩) 1 1) mtX := by
  have hr := row_of (b := 0) (sz := 4) (m := 1) (alloc_at W mtO W.heap.size rfl) (Nat.zero_le _) (by rw [size_madeCells]) (by decide)
  have e : (madeCells #[Value.int .i64 0, .int .i64 0, .slice none 0 0, .slice none 0 0] 4).toList = mt4s [(⟨0, 0, [], []⟩, Value.slice none 0 0, Value.slice none 0 0)] := by kernel_rfl
  rw [e] at hr
  have := MtV.own (T := [(⟨0, 0, [], []⟩, Value.slice none 0 0, Value.slice none 0 0)]) hr (fun x hx => by
    simp only [List.mem_singleton] at hx
    subst hx
    exact ⟨in64_z, in64_z, PrV.nil _, ByV.nil _⟩)
  exact this
def uX : UnitA := ⟨nmX, clX, mtX, [], 0⟩
theorem un_new {W : World} {b1 b2 b3 : Nat} (h1 : NmV W (.slice (some ⟨b1, 0, none⟩) 1 1) nmX) (h2 : ClV W (.slice (some ⟨b2, 0, none⟩) 3 3) clX) (h3 : MtV W (.slice (some ⟨b3, 0, none⟩) 1 1) mtX) : UnK W (.agg #[.slice (some ⟨b1, 0, none⟩) 1 1, .slice (some ⟨b2, 0, none⟩) 3 3, .slice (some ⟨b3, 0, none⟩) 1 1, .slice none 0 0, .int .i64 0]) uX :=
  ⟨_, _, _, _, _, _, none, 0, rfl, ⟨h1, h2, h3, ⟨none, 0, rfl, by simp [uX], by decide, fun k x hx => by simp [uX] at hx⟩⟩⟩
/-- a method of eight bytes -/
structure N3 (w wr : World) (q10 qa qb : Nat) (o a : Int) : Prop where
  bM : MeB wr q10 (.agg #[.int .i64 1, .int .i64 2, .slice (some ⟨qa, 0, none⟩) 5 5, .slice (some ⟨qb, 0, none⟩) 8 8]) (m26 o a) (some ⟨qa, 0, none⟩) (some ⟨qb, 0, none⟩) 5 8
  bel : Below w.heap.size w wr
theorem N3.up {w w1 w2 : World} {q10 qa qb : Nat} {o a : Int} (h : N3 w w1 q10 qa qb o a) (b : Below w1.heap.size w1 w2) : N3 w w2 q10 qa qb o a := ⟨h.bM.up b, h.bel.trans (b.mono h.bel.size)⟩
theorem N3.range {w wr : World} {q10 qa qb : Nat} {o a : Int} (h : N3 w wr q10 qa qb o a) : wr.rangeAt q10 0 [.int .i64 1, .int .i64 2, .slice (some ⟨qa, 0, none⟩) 5 5, .slice (some ⟨qb, 0, none⟩) 8 8] := h.bM.range
theorem N3.born {w W : World} (o a : Int) (ho : 0 ≤ o ∧ o ≤ 255) (ha : 0 ≤ a ∧ a ≤ 255) (hB : Below w.heap.size w W) : N3 w (((W.alloc (.cells #[.int .i64 3, .int .i64 0, .int .i64 5, .int .i64 0, .int .i64 6, .int .i64 1, .int .i64 6, .int .i64 2, .int .i64 7, .int .i64 0] 41)).alloc (.cells #[.int .u8 0, .int .u8 0, .int .u8 o, .int .u8 a, .int .u8 3, .int .u8 0, .int .u8 14, .int .u8 0] 5)).alloc (.cells #[.int .i64 1, .int .i64 2, .slice (some ⟨W.heap.size, 0, none⟩) 5 5, .slice (some ⟨W.heap.size + 1, 0, none⟩) 8 8] 37)) (W.heap.size + 1 + 1) W.heap.size (W.heap.size + 1) o a := by
  have b1 := (Below.refl W.heap.size W).alloc (Nat.le_refl _) (.cells #[.int .i64 3, .int .i64 0, .int .i64 5, .int .i64 0, .int .i64 6, .int .i64 1, .int .i64 6, .int .i64 2, .int .i64 7, .int .i64 0] 41)
  have b2 := (Below.refl _ (W.alloc (.cells #[.int .i64 3, .int .i64 0, .int .i64 5, .int .i64 0, .int .i64 6, .int .i64 1, .int .i64 6, .int .i64 2, .int .i64 7, .int .i64 0] 41))).alloc (Nat.le_refl _) (.cells #[.int .u8 0, .int .u8 0, .int .u8 o, .int .u8 a, .int .u8 3, .int .u8 0, .int .u8 14, .int .u8 0] 5)
  have h := MeB.born (m := m26 o a) (la := some ⟨W.heap.size, 0, none⟩) (ca := some ⟨W.heap.size + 1, 0, none⟩) (lc := 5) (cc := 8) (num_me W o a ho ha)
  have e : ((W.alloc (.cells #[.int .i64 3, .int .i64 0, .int .i64 5, .int .i64 0, .int .i64 6, .int .i64 1, .int .i64 6, .int .i64 2, .int .i64 7, .int .i64 0] 41)).alloc (.cells #[.int .u8 0, .int .u8 0, .int .u8 o, .int .u8 a, .int .u8 3, .int .u8 0, .int .u8 14, .int .u8 0] 5)).heap.size = W.heap.size + 1 + 1 := by simp
  rw [e] at h
  have b3 := (Below.refl _ ((W.alloc (.cells #[.int .i64 3, .int .i64 0, .int .i64 5, .int .i64 0, .int .i64 6, .int .i64 1, .int .i64 6, .int .i64 2, .int .i64 7, .int .i64 0] 41)).alloc (.cells #[.int .u8 0, .int .u8 0, .int .u8 o, .int .u8 a, .int .u8 3, .int .u8 0, .int .u8 14, .int .u8 0] 5))).alloc (Nat.le_refl _) (.cells #[.int .i64 1, .int .i64 2, .slice (some ⟨W.heap.size, 0, none⟩) 5 5, .slice (some ⟨W.heap.size + 1, 0, none⟩) 8 8] 37)
  have b12 := b1.trans (b2.mono b1.size)
  exact ⟨h, hB.trans ((b12.trans (b3.mono b12.size)).mono hB.size)⟩
theorem mk_cl (w : World) : (Instr.makeSlice 23 (.int .i64 3) (.int .i64 3)).run Try.prog w = .ok (.slice (some ⟨w.heap.size, 0, none⟩) 3 3) (w.alloc clO) := by
  obtain ⟨i1, hi1, hy0, hy1, hy2⟩ := info_parts infoCls
  have ec : (Value.agg #[Value.string ByteArray.empty, Value.int .i64 0, Value.int .i64 0, Value.slice none 0 0]).cells = #[Value.string ⟨#[]⟩, Value.int .i64 0, Value.int .i64 0, Value.slice none 0 0] := rfl
  have hq := run_make (P := Try.prog) w 23 61 i1 _ Try.underlying23 hi1 hy0 .i64 .i64 3 3 (by omega) (Int.le_refl _) (by rw [hy2]; omega) (by omega)
  rw [hy1, ec] at hq
  simpa using hq
theorem mk_mt (w : World) : (Instr.makeSlice 24 (.int .i64 1) (.int .i64 1)).run Try.prog w = .ok (.slice (some ⟨w.heap.size, 0, none⟩) 1 1) (w.alloc mtO) := by
  obtain ⟨i1, hi1, hy0, hy1, hy2⟩ := info_parts infoMeth
  have ec : (Value.agg #[Value.int .i64 0, Value.int .i64 0, Value.slice none 0 0, Value.slice none 0 0]).cells = #[Value.int .i64 0, Value.int .i64 0, Value.slice none 0 0, Value.slice none 0 0] := rfl
  have hq := run_make (P := Try.prog) w 24 37 i1 _ Try.underlying24 hi1 hy0 .i64 .i64 1 1 (by omega) (Int.le_refl _) (by rw [hy2]; omega) (by omega)
  rw [hy1, ec] at hq
  simpa using hq
end Wd
end Go.Proofs.Ythlijmdohejheaa
