/- Texts joined: ILK0, ILK, ILN, UTC, UTM, UTR, ILO, ILQ. -/
import Derived.Test.YtgfnelhbdhbklaaGreatJ1
import Derived.Test.YtgfnelhbdhbklaaGreatJ3
import Derived.Test.YtgfnelhbdhbklaaGreatJ4
import Derived.Test.YtgfnelhbdhbklaaGreatJ5
import Derived.Test.YtgfnelhbdhbklaaGreatJ10
import Derived.Test.YtgfnelhbdhbklaaGreatJ18
import Derived.Test.YtgfnelhbdhbklaaGreatJ19
import Derived.Laws.MakeOwn
/- What the laws ask of the document's own reader; two readings held against each other. -/
namespace Go.Proofs.YtgfnelhbdhbklaaGreat
open Go.RowKit
set_option linter.unusedVariables false
set_option maxRecDepth 20000
namespace Wd
end Wd
end Go.Proofs.YtgfnelhbdhbklaaGreat

/- A program, written and read, as the document says: the laws' own look at it. -/
namespace Go.Proofs.YtgfnelhbdhbklaaGreat
open Go.RowKit
set_option linter.unusedVariables false
set_option maxRecDepth 20000
namespace Wd
theorem slF_some (g off n cap : Nat) : SlF (.slice (some ⟨g, off, none⟩) n cap) := Or.inr ⟨_, _, _, _, rfl⟩
theorem RB.byv2 {w : World} {base : Nat} {v : Value} {T : List Int} (h : RB w base 5 v (bys T)) (hb : Bd8 T) : ByV w v T := by
  obtain ⟨g, cap, cur, fr, rfl, _, hg, _, hc, hm, _, _⟩ := h.ex
  have hl := bys_ln T
  refine ⟨some ⟨g, 0, none⟩, cap, by rw [hl], by rw [← hl]; exact hc, hm, fun k x hx => ⟨hb x (List.mem_of_getElem? hx), g, 0, rfl, ?_⟩⟩
  have := h.cells k (.int .u8 x) (by unfold bys; rw [List.getElem?_map, hx]; rfl)
  rw [Addr.add_lit] at this
  simpa using this
theorem RB.form {w : World} {base : Nat} {v : Value} {T : List Int} (h : RB w base 5 v (bys T)) : ∃ g cap, v = .slice (some ⟨g, 0, none⟩) T.length cap ∧ T.length ≤ cap ∧ cap ≤ maxLen := by
  obtain ⟨g, cap, cur, fr, rfl, _, _, _, hc, hm, _, _⟩ := h.ex
  have hl := bys_ln T
  exact ⟨g, cap, by rw [hl], by omega, hm⟩
theorem bytes_bdK {w : World} {v : Value} {U : UnitA} (h : UnK w v U) : Bd8 (bytesU U) := by
  have hc : ∀ m ∈ U.methods, Bd8 m.code := fun m hm => by
    obtain ⟨na, nc, ca, cc, ma, mc, oa, oc, _, hU⟩ := h.ex
    obtain ⟨k, hk⟩ := List.getElem?_of_mem hm
    obtain ⟨ad, cap, _, _, _, h3⟩ := hU.m.ex
    obtain ⟨_, _, _, _, _, _, _, _, _, _, _, _, q⟩ := h3 k m hk
    intro x hx
    obtain ⟨i, hi⟩ := List.getElem?_of_mem hx
    obtain ⟨ad', cap', e, _, _, h4⟩ := q.ex
    exact (h4 i x hi).1
  have app : ∀ {A B : List Int}, Bd8 A → Bd8 B → Bd8 (A ++ B) := fun h g x hx => (List.mem_append.1 hx).elim (h x) (g x)
  have flat : ∀ {T : Type} {f : T → List Int} (L : List T), (∀ x ∈ L, Bd8 (f x)) → Bd8 ((L.map f).flatten) := fun L h x hx => by
    obtain ⟨l, hl, hxl⟩ := List.mem_flatten.1 hx
    obtain ⟨y, hy, rfl⟩ := List.mem_map.1 hl
    exact h y hy x hxl
  have row : ∀ {T : Type} {f : T → List Int} (L : List T), (∀ x ∈ L, Bd8 (f x)) → Bd8 (rowB f L) := fun L h => app (b4_bd _) (flat L h)
  have tx : ∀ s, Bd8 (txt s) := fun s => app (b4_bd _) (tby_bd _)
  have rp : ∀ L, Bd8 (rowP L) := fun L => by rw [rowP_eq]; exact row L (fun x _ => app (b4_bd _) (b4_bd _))
  unfold bytesU bodyU
  refine app ?_ (app (app (app (app (row _ (fun s _ => tx s)) (row _ (fun c _ => app (app (app (tx _) (b4_bd _)) (b4_bd _)) (rp _)))) (row _ (fun m hm => app (app (app (b4_bd _) (b4_bd _)) (rp _)) (app (b4_bd _) (hc m hm))))) (row _ (fun o _ => app (b4_bd _) (rp _)))) (b4_bd _))
  intro x hx
  simp only [List.mem_cons, List.not_mem_nil, or_false] at hx
  omega
end Wd
end Go.Proofs.YtgfnelhbdhbklaaGreat

/- The laws' own runs of the chapter: a small program, written, read; what is no program. -/
namespace Go.Proofs.YtgfnelhbdhbklaaGreat
open Go.RowKit
set_option linter.unusedVariables false
set_option maxRecDepth 20000
namespace Wd
def kV : UnitA := ⟨[], [⟨⟨#[66]⟩, -1, 4, []⟩, ⟨⟨#[65]⟩, -1, 0, []⟩], [⟨0, 0, [], [3, 0, 14, 0]⟩], [⟨1, []⟩], 0⟩
theorem kV_right : unitR kV = 0 := by decide +kernel
theorem kV_len : 4 < (bytesU kV).length := by decide +kernel
theorem kV_four : (bytesU kV).take 4 = [84, 87, 49, 0] := by decide +kernel
theorem kV_born {w : World} {s s1 s2 s3 : Nat} (h0 : w.heap[s]? = some (.cells #[.string ⟨#[66]⟩, .int .i64 (-1), .int .i64 4, .slice none 0 0, .string ⟨#[65]⟩, .int .i64 (-1), .int .i64 0, .slice none 0 0] 60 (0, 0))) (h1 : w.heap[s1]? = some (.cells #[.int .u8 3, .int .u8 0, .int .u8 14, .int .u8 0] 5 (0, 0))) (h2 : w.heap[s2]? = some (.cells #[.int .i64 0, .int .i64 0, .slice none 0 0, .slice (some ⟨s1, 0, none⟩) 4 4] 63 (0, 0))) (h3 : w.heap[s3]? = some (.cells #[.int .i64 1, .slice none 0 0] 55 (0, 0))) : UnK w (.agg #[.slice none 0 0, .slice (some ⟨s, 0, none⟩) 2 2, .slice (some ⟨s2, 0, none⟩) 1 1, .slice (some ⟨s3, 0, none⟩) 1 1, .int .i64 0]) kV := by
  have hb : ByV w (.slice (some ⟨s1, 0, none⟩) 4 4) [3, 0, 14, 0] := by
    refine ⟨_, 4, rfl, by simp, by decide, fun k x hx => ?_⟩
    have hk : k < 4 := by have := (List.getElem?_eq_some_iff.1 hx).1; simpa using this
    rcases (show k = 0 ∨ k = 1 ∨ k = 2 ∨ k = 3 by omega) with rfl | rfl | rfl | rfl <;> (simp at hx; subst hx; exact ⟨by omega, _, 0, rfl, cell_in h1 rfl⟩)
  have hn : ∀ u : World, PrV u (.slice none 0 0) [] := fun u => ⟨none, 0, rfl, by simp, by decide, fun k x hx => by simp at hx⟩
  refine ⟨⟨none, 0, some ⟨s, 0, none⟩, 2, some ⟨s2, 0, none⟩, 1, some ⟨s3, 0, none⟩, 1, rfl, ?_⟩⟩
  refine ⟨⟨none, 0, rfl, by decide, by decide, fun k x h => by simp [kV] at h⟩, ⟨_, 2, rfl, by decide, by decide, fun k x hx => ?_⟩, ⟨_, 1, rfl, by decide, by decide, fun k x hx => ?_⟩, ⟨_, 1, rfl, by decide, by decide, fun k x hx => ?_⟩⟩
  · have hk : k < 2 := by have := (List.getElem?_eq_some_iff.1 hx).1; simpa [kV] using this
    rcases (show k = 0 ∨ k = 1 by omega) with rfl | rfl <;> (simp [kV] at hx; subst hx; exact ⟨i64s (by simp) (by simp), i64s (by simp) (by simp), _, 0, _, rfl, cell_in h0 rfl, cell_in h0 rfl, cell_in h0 rfl, cell_in h0 rfl, hn _⟩)
  · have hk : k < 1 := by have := (List.getElem?_eq_some_iff.1 hx).1; simpa [kV] using this
    obtain rfl : k = 0 := by omega
    simp [kV] at hx; subst hx
    exact ⟨i64s (by simp) (by simp), i64s (by simp) (by simp), _, 0, _, _, rfl, cell_in h2 rfl, cell_in h2 rfl, cell_in h2 rfl, cell_in h2 rfl, hn _, hb⟩
  · have hk : k < 1 := by have := (List.getElem?_eq_some_iff.1 hx).1; simpa [kV] using this
    obtain rfl : k = 0 := by omega
    simp [kV] at hx; subst hx
    exact ⟨i64s (by simp) (by simp), _, 0, _, rfl, cell_in h3 rfl, cell_in h3 rfl, hn _⟩
theorem alloc5 (w : World) (o0 o1 o2 o3 o4 : Obj) : (((((w.alloc o0).alloc o1).alloc o2).alloc o3).alloc o4).heap[w.heap.size]? = some o0 ∧ (((((w.alloc o0).alloc o1).alloc o2).alloc o3).alloc o4).heap[w.heap.size + 1]? = some o1 ∧ (((((w.alloc o0).alloc o1).alloc o2).alloc o3).alloc o4).heap[w.heap.size + 1 + 1]? = some o2 ∧ (((((w.alloc o0).alloc o1).alloc o2).alloc o3).alloc o4).heap[w.heap.size + 1 + 1 + 1]? = some o3 ∧ (((((w.alloc o0).alloc o1).alloc o2).alloc o3).alloc o4).heap[w.heap.size + 1 + 1 + 1 + 1]? = some o4 ∧ Below w.heap.size w (((((w.alloc o0).alloc o1).alloc o2).alloc o3).alloc o4) := by
  obtain ⟨e0, e1, e2, e3, e4, _, hb⟩ := alloc6 w o0 o1 o2 o3 o4 o4
  have b5 := (Below.refl (((((w.alloc o0).alloc o1).alloc o2).alloc o3).alloc o4).heap.size (((((w.alloc o0).alloc o1).alloc o2).alloc o3).alloc o4)).alloc (Nat.le_refl _) o4
  have hz : (((((w.alloc o0).alloc o1).alloc o2).alloc o3).alloc o4).heap.size = w.heap.size + 1 + 1 + 1 + 1 + 1 := by simp
  refine ⟨(b5.block _ (by omega)).symm.trans e0, (b5.block _ (by omega)).symm.trans e1, (b5.block _ (by omega)).symm.trans e2, (b5.block _ (by omega)).symm.trans e3, (b5.block _ (by omega)).symm.trans e4, ?_⟩
  exact ((((Below.refl _ _).alloc (Nat.le_refl _) _).alloc (by simp only [World.size_alloc]; omega) _).alloc (by simp only [World.size_alloc]; omega) _).alloc (by simp only [World.size_alloc]; omega) _ |>.alloc (by simp only [World.size_alloc]; omega) _
theorem rdA_good {w : World} {b : List Int} {e : Ending} {U : UnitA} (h : RdA w b e) (g : Good b U) : ∃ na nc ka kc ma mc oa oc, e = .returned (.tuple #[.agg #[.slice na U.names.length nc, .slice ka U.classes.length kc, .slice ma U.methods.length mc, .slice oa U.objects.length oc, .int .i64 U.main], .int .i64 0]) ∧ UnK w (.agg #[.slice na U.names.length nc, .slice ka U.classes.length kc, .slice ma U.methods.length mc, .slice oa U.objects.length oc, .int .i64 U.main]) U := by
  rcases h with ⟨V, v, g2, rfl, k⟩ | ⟨n, _⟩
  · obtain rfl := good_one g g2
    obtain ⟨na, nc, ca, cc, ma, mc, oa, oc, rfl, _⟩ := k.ex
    exact ⟨na, nc, ca, cc, ma, mc, oa, oc, rfl, k⟩
  · exact absurd g (n U)
theorem rdA_none {w : World} {b : List Int} {e : Ending} (h : RdA w b e) (n : ∀ U, ¬ Good b U) : e = .returned (.tuple #[zUv, .int .i64 (errB b)]) := by
  rcases h with ⟨V, v, g2, _, _⟩ | ⟨_, e⟩
  · exact absurd g2 (n V)
  · exact e
theorem bs_nil : ∀ U, ¬ Good [] U := fun U h => by
  have h2 := h.2
  unfold bytesU at h2
  cases h2
theorem z65_no : ∀ U, ¬ Good (List.replicate 65537 0) U := fun U h => by
  have := good_le h
  rw [List.length_replicate] at this
  omega
theorem z65_err : errB (List.replicate 65537 0) = 3 := errB_long (by rw [List.length_replicate]; omega)
theorem made_byv {w : World} {n : Nat} (hn : n ≤ maxLen) : ByV (w.alloc (.cells (madeCells (.int .u8 0 : Value).cells (n * 1)) 5)) (.slice (some ⟨w.heap.size, 0, none⟩) n n) (List.replicate n 0) := by
  refine ⟨some ⟨w.heap.size, 0, none⟩, n, by rw [List.length_replicate], by rw [List.length_replicate]; exact Nat.le_refl _, hn, fun k x hx => ?_⟩
  have hk : k < n := by have := (List.getElem?_eq_some_iff.1 hx).1; rwa [List.length_replicate] at this
  rw [List.getElem?_replicate, if_pos hk] at hx
  obtain rfl := Option.some.inj hx
  refine ⟨by omega, w.heap.size, 0, rfl, ?_⟩
  rw [Nat.zero_add]
  refine (World.cell?_alloc_new _ _ _ k).trans ?_
  unfold madeCells
  simp [Value.cells, hk, Nat.mod_one]
theorem run_mk65 (w : World) : (Instr.makeSlice 36 (.int .i64 65537) (.int .i64 65537)).run Tryz.prog w = .ok (.slice (some ⟨w.heap.size, 0, none⟩) 65537 65537) (w.alloc (.cells (madeCells (.int .u8 0 : Value).cells (65537 * 1)) 5)) := by
  obtain ⟨i0, hi0, hz0, hz1, hz2⟩ := info_parts infoB8
  have h := run_makeSlice (P := Tryz.prog) w 36 5 i0 (.int .u8 0) Tryz.underlying36 hi0 hz0 .i64 .i64 65537 65537 (by omega) (by omega) (by rw [hz1]; decide) (by rw [hz2]; decide) (by decide)
  rw [hz1] at h
  exact h
theorem mk65 (w : World) : ∃ w' b, (Instr.makeSlice 36 (.int .i64 65537) (.int .i64 65537)).run Tryz.prog w = .ok (.slice (some ⟨w.heap.size, 0, none⟩) 65537 65537) w' ∧ ByV w' (.slice (some ⟨w.heap.size, 0, none⟩) 65537 65537) b ∧ Below w.heap.size w w' ∧ (∀ U, ¬ Good b U) ∧ errB b = 3 :=
  ⟨_, _, run_mk65 w, made_byv (by decide), (Below.refl w.heap.size w).alloc (Nat.le_refl _) _, z65_no, z65_err⟩
/-- the program in its box -/
abbrev KnV (w : World) (s s2 s3 q : Nat) : Prop := UnB w q (.agg #[.slice none 0 0, .slice (some ⟨s, 0, none⟩) 2 2, .slice (some ⟨s2, 0, none⟩) 1 1, .slice (some ⟨s3, 0, none⟩) 1 1, .int .i64 0]) kV none (some ⟨s, 0, none⟩) (some ⟨s2, 0, none⟩) (some ⟨s3, 0, none⟩) 0 2 1 1
set_option maxHeartbeats 32000000 in
theorem iknown_c (w : World) : Calls Tryz.prog 14 #[] w fun e w' => e = .returned (.bool true) ∧ Below w.heap.size w w' := by
  obtain ⟨e0, e1, e2, e3, e4, hb⟩ := alloc5 w (.cells #[.string ⟨#[66]⟩, .int .i64 (-1), .int .i64 4, .slice none 0 0, .string ⟨#[65]⟩, .int .i64 (-1), .int .i64 0, .slice none 0 0] 60) (.cells #[.int .u8 3, .int .u8 0, .int .u8 14, .int .u8 0] 5) (.cells #[.int .i64 0, .int .i64 0, .slice none 0 0, .slice (some ⟨w.heap.size + 1, 0, none⟩) 4 4] 63) (.cells #[.int .i64 1, .slice none 0 0] 55) (.cells #[.slice none 0 0, .slice (some ⟨w.heap.size, 0, none⟩) 2 2, .slice (some ⟨w.heap.size + 1 + 1, 0, none⟩) 1 1, .slice (some ⟨w.heap.size + 1 + 1 + 1, 0, none⟩) 1 1, .int .i64 0] 27)
  have hA : KnV (((((w.alloc (.cells #[.string ⟨#[66]⟩, .int .i64 (-1), .int .i64 4, .slice none 0 0, .string ⟨#[65]⟩, .int .i64 (-1), .int .i64 0, .slice none 0 0] 60)).alloc (.cells #[.int .u8 3, .int .u8 0, .int .u8 14, .int .u8 0] 5)).alloc (.cells #[.int .i64 0, .int .i64 0, .slice none 0 0, .slice (some ⟨w.heap.size + 1, 0, none⟩) 4 4] 63)).alloc (.cells #[.int .i64 1, .slice none 0 0] 55)).alloc (.cells #[.slice none 0 0, .slice (some ⟨w.heap.size, 0, none⟩) 2 2, .slice (some ⟨w.heap.size + 1 + 1, 0, none⟩) 1 1, .slice (some ⟨w.heap.size + 1 + 1 + 1, 0, none⟩) 1 1, .int .i64 0] 27)) w.heap.size (w.heap.size + 1 + 1) (w.heap.size + 1 + 1 + 1) (w.heap.size + 1 + 1 + 1 + 1) := ⟨rfl, cells_at e4 rfl, cells_at e4 rfl, cells_at e4 rfl, cells_at e4 rfl, cells_at e4 rfl, kV_born e0 e1 e2 e3⟩
  have hA2 := Lib.hid (And.intro hA hb)
  clear e0 e1 e2 e3 e4 hA hb
  have kr := kV_right
  have kl := kV_len
  have kf := kV_four
  go_enter Tryz.func14, Tryz.ntmps14
  go_upto_region 2 with fail
  generalize (((((w.alloc (.cells #[.string ⟨#[66]⟩, .int .i64 (-1), .int .i64 4, .slice none 0 0, .string ⟨#[65]⟩, .int .i64 (-1), .int .i64 0, .slice none 0 0] 60)).alloc (.cells #[.int .u8 3, .int .u8 0, .int .u8 14, .int .u8 0] 5)).alloc (.cells #[.int .i64 0, .int .i64 0, .slice none 0 0, .slice (some ⟨w.heap.size + 1, 0, none⟩) 4 4] 63)).alloc (.cells #[.int .i64 1, .slice none 0 0] 55)).alloc (.cells #[.slice none 0 0, .slice (some ⟨w.heap.size, 0, none⟩) 2 2, .slice (some ⟨w.heap.size + 1 + 1, 0, none⟩) 1 1, .slice (some ⟨w.heap.size + 1 + 1 + 1, 0, none⟩) 1 1, .int .i64 0] 27)) = W0 at *
  generalize w.heap.size + 1 + 1 + 1 + 1 = q at *
  generalize w.heap.size + 1 + 1 + 1 = s3 at *
  generalize w.heap.size + 1 + 1 = s2 at *
  generalize hs0 : w.heap.size + 1 = s1 at *
  clear hs0
  have hA := Lib.hid hA2.out.1
  have hb := Lib.hid hA2.out.2
  clear hA2
  have hG : Good (bytesU kV) kV := ⟨kr, rfl⟩
  have hbd := bytes_bdK hA.out.un
  have a0 : W0.cell? ⟨q, 0, none⟩ = some (.slice none 0 0) := hA.out.c0
  have a1 : W0.cell? ⟨q, 1, none⟩ = some (.slice (some ⟨w.heap.size, 0, none⟩) 2 2) := hA.out.c1
  have a2 : W0.cell? ⟨q, 2, none⟩ = some (.slice (some ⟨s2, 0, none⟩) 1 1) := hA.out.c2
  have a3 : W0.cell? ⟨q, 3, none⟩ = some (.slice (some ⟨s3, 0, none⟩) 1 1) := hA.out.c3
  have a4 : W0.cell? ⟨q, 4, none⟩ = some (.int .i64 0) := hA.out.c4
  have P := Lib.hid (ibytes_c hA.out.un)
  go_wp2_with fail
  with_reducible refine P.out.mono ?_
  rintro e1 w1 ⟨h1, _, hb1⟩
  obtain ⟨v', rfl, hrb⟩ := h1 kr
  obtain ⟨g, cap, rfl, hc1, hc2⟩ := hrb.form
  have hby := hrb.byv2 hbd
  have es := szU_y kr
  generalize hB : bytesU kV = B at *
  obtain ⟨n, hn⟩ : ∃ n, n = B.length := ⟨_, rfl⟩
  rw [← hn] at hby hc1 kl es ⊢
  have hnB := Lib.hid hn
  have PT0 := Lib.hid (by_text (ByV.take hby 4 (by omega)))
  replace hby := Lib.hid hby
  replace hA := Lib.hid (hA.out.up hb1)
  replace hb := Lib.hid (hb.out.trans (hb1.mono hb.out.size))
  replace es := Lib.hid es
  replace hG := Lib.hid hG
  replace hbd := Lib.hid hbd
  replace kf := Lib.hid kf
  clear h1 hrb P hb1 hn kr hB
  clear a0 a1 a2 a3 a4
  have P := Lib.hid (iread_c hby.out (slF_some ..))
  go_wp2_with fail
  with_reducible refine P.out.mono ?_
  rintro e1 w2 ⟨h1, hb2⟩
  obtain ⟨na, nc, ka, kc, ma, mc, oa, oc, he, hk⟩ := rdA_good h1 hG.out
  replace he : e1 = .returned (.tuple #[.agg #[.slice na 0 nc, .slice ka 2 kc, .slice ma 1 mc, .slice oa 1 oc, .int .i64 0], .int .i64 0]) := he
  subst he
  replace hk : UnK w2 (.agg #[.slice na 0 nc, .slice ka 2 kc, .slice ma 1 mc, .slice oa 1 oc, .int .i64 0]) kV := hk
  have hV : Hid (UnB (w2.alloc (.cells #[.slice na 0 nc, .slice ka 2 kc, .slice ma 1 mc, .slice oa 1 oc, .int .i64 0] 27)) w2.heap.size _ kV na ka ma oa nc kc mc oc) := Lib.hid (UnB.born (U := kV) hk)
  have hbx := (Below.refl w2.heap.size w2).alloc (Nat.le_refl _) (.cells #[.slice na 0 nc, .slice ka 2 kc, .slice ma 1 mc, .slice oa 1 oc, .int .i64 0] 27)
  have hb3 := hb2.trans (hbx.mono hb2.size)
  replace hA := Lib.hid (hA.out.up hb3)
  replace hby := Lib.hid (hby.out.up hb3)
  replace hb := Lib.hid (hb.out.trans (hb3.mono hb.out.size))
  clear h1 hk P hb2 hb3 hbx hG
  go_upto_region 4 with fail
  obtain ⟨Q, hQ⟩ : ∃ Q, w2.heap.size = Q := ⟨_, rfl⟩
  obtain ⟨W2, hW2⟩ : ∃ W, w2.alloc (.cells #[.slice na 0 nc, .slice ka 2 kc, .slice ma 1 mc, .slice oa 1 oc, .int .i64 0] 27) = W := ⟨_, rfl⟩
  rw [hW2, hQ] at hV
  rw [hW2] at hA hby hb
  try simp only [hW2, hQ]
  clear hW2 hQ
  have P := Lib.hid (iread_c (byv_nil (w := W2)) (Or.inl rfl))
  have e12 : errB [] = 12 := errB_short (by decide)
  go_wp2_with fail
  with_reducible refine P.out.mono ?_
  rintro e1 w3 ⟨h1, hb3⟩
  have h1' := rdA_none h1 bs_nil
  rw [e12] at h1'
  subst h1'
  have hb4 := hb3.trans (((Below.refl w3.heap.size w3).alloc (Nat.le_refl _) (.cells #[.slice none 0 0, .slice none 0 0, .slice none 0 0, .slice none 0 0, .int .i64 0] 27)).mono hb3.size)
  replace hA := Lib.hid (hA.out.up hb4)
  replace hV := Lib.hid (hV.out.up hb4)
  replace hby := Lib.hid (hby.out.up hb4)
  replace hb := Lib.hid (hb.out.trans (hb4.mono hb.out.size))
  clear h1 P hb3 hb4 e12
  go_upto_region 5 with fail
  generalize w3.alloc (.cells #[.slice none 0 0, .slice none 0 0, .slice none 0 0, .slice none 0 0, .int .i64 0] 27) = W3 at *
  have P := Lib.hid (ibytes_c (zU_k W3))
  go_wp2_with fail
  with_reducible refine P.out.mono ?_
  rintro e1 w4 ⟨_, h2, hb5⟩
  have h2' := h2 (by rw [zU_right]; decide)
  rw [zU_right] at h2'
  subst h2'
  replace hA := Lib.hid (hA.out.up hb5)
  replace hV := Lib.hid (hV.out.up hb5)
  replace hby := Lib.hid (hby.out.up hb5)
  replace hb := Lib.hid (hb.out.trans (hb5.mono hb.out.size))
  clear h2 P hb5
  go_upto_region 6 with fail
  obtain ⟨w5, bz, hmk, hbz, hb6, hno, herr⟩ := mk65 w4
  have P := Lib.hid (iread_c hbz (slF_some ..))
  clear hbz
  go_wp2_with fail
  clear hmk
  with_reducible refine P.out.mono ?_
  rintro e1 w6 ⟨h1, hb7⟩
  have h1' := rdA_none h1 hno
  rw [herr] at h1'
  subst h1'
  have hb8 := (hb6.trans (hb7.mono hb6.size))
  have hb9 := hb8.trans (((Below.refl w6.heap.size w6).alloc (Nat.le_refl _) (.cells #[.slice none 0 0, .slice none 0 0, .slice none 0 0, .slice none 0 0, .int .i64 0] 27)).mono hb8.size)
  replace hA := Lib.hid (hA.out.up hb9)
  replace hV := Lib.hid (hV.out.up hb9)
  replace hby := Lib.hid (hby.out.up hb9)
  replace hb := Lib.hid (hb.out.trans (hb9.mono hb.out.size))
  clear h1 P hb6 hb7 hb8 hb9 hno herr
  go_upto_region 7 with fail
  generalize w6.alloc (.cells #[.slice none 0 0, .slice none 0 0, .slice none 0 0, .slice none 0 0, .int .i64 0] 27) = W6 at *
  have a0 : W6.cell? ⟨q, 0, none⟩ = some (.slice none 0 0) := hA.out.c0
  have a1 : W6.cell? ⟨q, 1, none⟩ = some (.slice (some ⟨w.heap.size, 0, none⟩) 2 2) := hA.out.c1
  have a2 : W6.cell? ⟨q, 2, none⟩ = some (.slice (some ⟨s2, 0, none⟩) 1 1) := hA.out.c2
  have a3 : W6.cell? ⟨q, 3, none⟩ = some (.slice (some ⟨s3, 0, none⟩) 1 1) := hA.out.c3
  have a4 : W6.cell? ⟨q, 4, none⟩ = some (.int .i64 0) := hA.out.c4
  have b0 : W6.cell? ⟨Q, 0, none⟩ = some (.slice na 0 nc) := hV.out.c0
  have b1 : W6.cell? ⟨Q, 1, none⟩ = some (.slice ka 2 kc) := hV.out.c1
  have b2 : W6.cell? ⟨Q, 2, none⟩ = some (.slice ma 1 mc) := hV.out.c2
  have b3 : W6.cell? ⟨Q, 3, none⟩ = some (.slice oa 1 oc) := hV.out.c3
  have b4 : W6.cell? ⟨Q, 4, none⟩ = some (.int .i64 0) := hV.out.c4
  have hVu : UnK W6 (.agg #[.slice na 0 nc, .slice ka 2 kc, .slice ma 1 mc, .slice oa 1 oc, .int .i64 0]) kV := hV.out.un
  have P3 := rsame_c hA.out.un hVu
  rw [sameU_self] at P3
  replace P3 := Lib.hid P3
  clear PT0
  go_wp2_with fail
  with_reducible refine P3.out.mono ?_
  rintro e1 w7 ⟨rfl, hb7⟩
  replace hA := Lib.hid (hA.out.up hb7)
  replace hby := Lib.hid (hby.out.up hb7)
  replace hb := Lib.hid (hb.out.trans (hb7.mono hb.out.size))
  clear hV hb7 P3 a0 a1 a2 a3 a4 b0 b1 b2 b3 b4
  have a0 : w7.cell? ⟨q, 0, none⟩ = some (.slice none 0 0) := hA.out.c0
  have a1 : w7.cell? ⟨q, 1, none⟩ = some (.slice (some ⟨w.heap.size, 0, none⟩) 2 2) := hA.out.c1
  have a2 : w7.cell? ⟨q, 2, none⟩ = some (.slice (some ⟨s2, 0, none⟩) 1 1) := hA.out.c2
  have a3 : w7.cell? ⟨q, 3, none⟩ = some (.slice (some ⟨s3, 0, none⟩) 1 1) := hA.out.c3
  have a4 : w7.cell? ⟨q, 4, none⟩ = some (.int .i64 0) := hA.out.c4
  have P4 := isize_c hA.out.un
  rw [es.out] at P4
  replace P4 := Lib.hid P4
  go_wp2_with fail
  with_reducible refine P4.out.mono ?_
  rintro e1 w8 ⟨rfl, hb8⟩
  replace hby := Lib.hid (hby.out.up hb8)
  replace hb := Lib.hid (hb.out.trans (hb8.mono hb.out.size))
  clear hA hb8 P4 a0 a1 a2 a3 a4
  have PT := by_text (ByV.take hby.out 4 (by have := hnB.out; omega))
  rw [kf.out] at PT
  have et : ((textOf [84, 87, 49, 0]).toList == [84, 87, 49, 0]) = true := by
    have e := (text_mark (T := [84, 87, 49, 0]) (fun x hx => by simp only [List.mem_cons, List.not_mem_nil, or_false] at hx; omega)).2 rfl
    have e9 : (textOf [84, 87, 49, 0]).toList = [84, 87, 49, 0] := by rw [e]; exact mark_list
    rw [e9]; decide
  have d4 : decide ((4 : Int) < (n : Int)) = true := by simp; omega
  have d4' : decide (4 < n) = true := by simp; omega
  have i4 : 4 ≤ n := by omega
  have i4' : 4 ≤ cap := by omega
  have P5 := isize_c (zU_k w8)
  rw [szU_n (by rw [zU_right]; decide)] at P5
  replace P5 := Lib.hid P5
  go_wp2_with fail
  with_reducible refine P5.out.mono ?_
  rintro e1 w9 ⟨rfl, hb9⟩
  go_wp2
  go_ret
  exact ⟨rfl, hb.out.trans (hb9.mono hb.out.size)⟩
end Wd
end Go.Proofs.YtgfnelhbdhbklaaGreat

/- A tape's classes are right. -/
namespace Go.Proofs.YtgfnelhbdhbklaaGreat
open Go.RowKit
set_option linter.unusedVariables false
set_option maxRecDepth 20000
namespace Wd
/-- classes of a tape, the first so many -/
structure TapeL (L : List ClassA) : Prop where
  le : L.length ≤ 5
  ok : ∀ (k : Nat) c, L[k]? = some c → clsOk L k c ∧ bndSub 6 c.binds
theorem TapeU.tl {U : UnitA} (h : TapeU U) : TapeL U.classes := ⟨h.cl1, fun k c hc => ⟨(h.cls k c hc).1, (h.cls k c hc).2.2⟩⟩
theorem TapeL.take {L : List ClassA} (h : TapeL L) (n : Nat) : TapeL (L.take n) := by
  refine ⟨by rw [List.length_take]; have := h.le; omega, fun k c hc => ?_⟩
  have hk : k < n ∧ L[k]? = some c := by
    rw [List.getElem?_take] at hc
    split at hc
    · exact ⟨by assumption, hc⟩
    · cases hc
  obtain ⟨a, b⟩ := h.ok k c hk.2
  refine ⟨⟨a.z, a.o, a.nm, fun h2 => ?_, a.fld⟩, b⟩
  rcases a.sup h2 with e | ⟨e1, e2, d, e3, e4⟩
  · exact Or.inl e
  · exact Or.inr ⟨e1, e2, d, by rw [List.getElem?_take, if_pos (by omega)]; exact e3, e4⟩
/-- the name of each -/
def nmOf (k : Nat) : ByteArray := if k = 0 then ⟨#[66, 108, 111, 99, 107]⟩ else if k = 1 then ⟨#[65, 114, 114, 97, 121]⟩ else cName (k - 2)
theorem nm_at {L : List ClassA} {k : Nat} {c : ClassA} (h : clsOk L k c) : c.nm = nmOf k := by
  unfold nmOf
  split
  · exact (h.z ‹_›).1
  · split
    · exact (h.o ‹_›).1
    · exact h.nm (by omega)
theorem nm_apart : ∀ i, i < 5 → ∀ j, j < i → nmOf j ≠ nmOf i := by decide +kernel
theorem nm_text : ∀ i, i < 5 → textOk (nmOf i) = true := by decide +kernel
theorem bnd_right {b : List (Int × Int)} (h : bndSub 6 b) : bindsOk b 6 9 = true := by
  have hl := h.len
  obtain ⟨S, h1, h2, rfl⟩ := h
  unfold bindsOk
  have a : (S.map (fun (s : Nat) => ((s : Int), (s : Int)))).all (bindOk 6 9) = true := by
    rw [List.all_eq_true]
    intro x hx
    obtain ⟨s, hs, rfl⟩ := List.mem_map.1 hx
    have := h2 s hs
    exact bindOk_of (by simp only; omega) (by simp only; omega) (by simp only; omega) (by simp only; omega)
  have d : ((S.map (fun (s : Nat) => ((s : Int), (s : Int)))).map (·.1)).Nodup := by
    rw [List.map_map, List.Nodup, List.pairwise_map]
    exact h1.imp (fun hlt e => by simp only [Function.comp] at e; omega)
  rw [a, decide_eq_true d, decide_eq_true (by omega)]
  rfl
theorem tape_cls {L : List ClassA} (h : TapeL L) {k : Nat} {c : ClassA} (hc : L[k]? = some c) : classOk L k c = true := by
  obtain ⟨a, _⟩ := h.ok k c hc
  have hk := (List.getElem?_eq_some_iff.1 hc).1
  have hk5 := h.le
  have hd := deep_le L (k + 1) c.super
  have key : -1 ≤ c.super ∧ c.super < k ∧ 0 ≤ c.fields ∧ c.fields ≤ 62 ∧ (c.super < 0 ∨ superF L c.super ≤ c.fields) := by
    rcases (show k = 0 ∨ k = 1 ∨ 2 ≤ k by omega) with e | e | e
    · obtain ⟨_, s, f⟩ := a.z e
      rw [s, f]; omega
    · obtain ⟨_, s, f⟩ := a.o e
      rw [s, f]; omega
    · obtain ⟨f0, f1⟩ := a.fld e
      rcases a.sup e with e1 | ⟨e1, e2, d, e3, e4⟩
      · omega
      · refine ⟨by omega, e2, f0, by omega, Or.inr ?_⟩
        unfold superF
        rw [e3]; exact e4
  obtain ⟨k1, k2, k3, k4, k5⟩ := key
  rw [classOk_eq k1 k2 k3 k4, decide_eq_true (by omega)]
  rcases k5 with k5 | k5
  · rw [decide_eq_true k5]; rfl
  · rw [decide_eq_true k5]; simp
theorem tape_from {L : List ClassA} (h : TapeL L) : ∀ (R : List ClassA) (i : Nat), L.drop i = R → shapeFrom L 6 9 i R = 0
  | [], _, _ => rfl
  | c :: R, i, e => by
    have hc : L[i]? = some c := by
      have := congrArg (fun l => l[0]?) e
      simpa [List.getElem?_drop] using this
    have hi := (List.getElem?_eq_some_iff.1 hc).1
    have h5 := h.le
    obtain ⟨a, b⟩ := h.ok i c hc
    have hn : ∀ x ∈ L.take i, x.nm ≠ c.nm := fun x hx => by
      obtain ⟨j, hj⟩ := List.getElem?_of_mem hx
      have hji : j < i ∧ L[j]? = some x := by
        rw [List.getElem?_take] at hj
        split at hj
        · exact ⟨by assumption, hj⟩
        · cases hj
      rw [nm_at (h.ok j x hji.2).1, nm_at a]
      exact nm_apart i (by omega) j hji.1
    rw [shapeFrom, if_neg (by rw [nm_at a, nm_text i (by omega)]; decide), if_neg (by rw [anyNot hn]; decide), if_neg (by rw [tape_cls h hc]; decide), if_neg (by rw [bnd_right b]; decide)]
    refine tape_from h R (i + 1) ?_
    have := drop_next hc
    rw [e] at this
    exact (List.cons.inj this).2.symm
theorem tape_right {L : List ClassA} (h : TapeL L) (h2 : 2 ≤ L.length) : shapeR L 6 9 = 0 := by
  have h5 := h.le
  have hh : headOk L = true := by
    obtain ⟨a, ha⟩ : ∃ x, L[0]? = some x := ⟨L[0]'(by omega), by simp⟩
    obtain ⟨b, hb⟩ : ∃ x, L[1]? = some x := ⟨L[1]'(by omega), by simp⟩
    rw [head_at ha hb]
    obtain ⟨_, s0, f0⟩ := (h.ok 0 a ha).1.z rfl
    obtain ⟨_, s1, f1⟩ := (h.ok 1 b hb).1.o rfl
    rw [s0, f0, s1, f1]; rfl
  unfold shapeR
  rw [if_neg (by omega), if_neg (by rw [hh]; decide)]
  exact tape_from h L 0 rfl
end Wd
end Go.Proofs.YtgfnelhbdhbklaaGreat

/- A tape's methods are right. -/
namespace Go.Proofs.YtgfnelhbdhbklaaGreat
open Go.RowKit
set_option linter.unusedVariables false
set_option maxRecDepth 20000
namespace Wd
theorem wr8_id {x : Int} (h0 : 0 ≤ x) (h1 : x ≤ 255) : wr8 x = x := by
  have e : wr8 x = x % 256 := by
    unfold wr8 IntKind.wrap
    rfl
  rw [e]; omega
/-- the instruction y, number j of n that go together, whose literals are a tape's: may it be done? -/
def insW (j n : Nat) (y : Int × Int) : Prop :=
  ((y.1 = 0 ∨ y.1 = 10) ∧ y.2 < 2) ∨ ((y.1 = 1 ∨ y.1 = 11) ∧ y.2 < 62) ∨ (y.1 = 2 ∧ 0 ≤ y.2 ∧ y.2 < 4) ∨ ((y.1 = 12 ∨ y.1 = 13) ∧ 4 ≤ y.2 ∧ y.2 < 10) ∨ (y.1 = 20 ∧ 10 ≤ y.2 ∧ y.2 < 12) ∨ (y.1 = 18 ∧ 12 ≤ y.2 ∧ y.2 < 14) ∨ (y.1 = 17 ∧ (j : Int) + 1 + y.2 ≤ n) ∨ (y.1 = 21 ∧ y.2 ≤ 23) ∨ ((3 ≤ y.1 ∧ y.1 ≤ 9) ∨ y.1 = 14 ∨ y.1 = 19)
theorem w_mk {j n : Nat} {a b : Int} (h : ((a = 0 ∨ a = 10) ∧ b < 2) ∨ ((a = 1 ∨ a = 11) ∧ b < 62) ∨ (a = 2 ∧ 0 ≤ b ∧ b < 4) ∨ ((a = 12 ∨ a = 13) ∧ 4 ≤ b ∧ b < 10) ∨ (a = 20 ∧ 10 ≤ b ∧ b < 12) ∨ (a = 18 ∧ 12 ≤ b ∧ b < 14) ∨ (a = 17 ∧ (j : Int) + 1 + b ≤ n) ∨ (a = 21 ∧ b ≤ 23) ∨ ((3 ≤ a ∧ a ≤ 9) ∨ a = 14 ∨ a = 19)) : insW j n (a, b) := h
theorem w_A {l : List (Int × Int)} (h : pkA l) {j : Nat} {z9 : Int × Int} (hj : l[j]? = some z9) : insW j l.length z9 := by
  obtain ⟨a, ha, rfl⟩ := h
  rcases (show j = 0 ∨ j = 1 ∨ j = 2 by have := (List.getElem?_eq_some_iff.1 hj).1; simp at this; omega) with rfl | rfl | rfl
  · obtain rfl : (wr8 7, wr8 a) = z9 := by simpa using hj
    have b9 := wr8_bd a
    rw [wr8_id (x := 7) (by omega) (by omega)]
    refine w_mk (n := 3) ?_
    omega
  · obtain rfl : (wr8 21, wr8 10) = z9 := by simpa using hj
    have b9 := wr8_bd 10
    rw [wr8_id (x := 21) (by omega) (by omega)]
    rw [wr8_id (x := 10) (by omega) (by omega)]
    refine w_mk (n := 3) ?_
    omega
  · obtain rfl : (wr8 8, wr8 0) = z9 := by simpa using hj
    have b9 := wr8_bd 0
    rw [wr8_id (x := 8) (by omega) (by omega)]
    refine w_mk (n := 3) ?_
    omega
theorem w_B {l : List (Int × Int)} (h : pkB l) {j : Nat} {z9 : Int × Int} (hj : l[j]? = some z9) : insW j l.length z9 := by
  obtain ⟨s, hs, rfl⟩ := h
  rcases (show j = 0 ∨ j = 1 ∨ j = 2 by have := (List.getElem?_eq_some_iff.1 hj).1; simp at this; omega) with rfl | rfl | rfl
  · obtain rfl : (wr8 3, wr8 0) = z9 := by simpa using hj
    have b9 := wr8_bd 0
    rw [wr8_id (x := 3) (by omega) (by omega)]
    refine w_mk (n := 3) ?_
    omega
  · obtain rfl : (wr8 12, wr8 s) = z9 := by simpa using hj
    have b9 := wr8_bd s
    rw [wr8_id (x := 12) (by omega) (by omega)]
    rw [wr8_id (x := s) (by omega) (by omega)]
    refine w_mk (n := 3) ?_
    omega
  · obtain rfl : (wr8 8, wr8 0) = z9 := by simpa using hj
    have b9 := wr8_bd 0
    rw [wr8_id (x := 8) (by omega) (by omega)]
    refine w_mk (n := 3) ?_
    omega
theorem w_C {l : List (Int × Int)} (h : pkC l) {j : Nat} {z9 : Int × Int} (hj : l[j]? = some z9) : insW j l.length z9 := by
  obtain ⟨a, x, ha, hx, rfl⟩ := h
  rcases (show j = 0 ∨ j = 1 ∨ j = 2 ∨ j = 3 ∨ j = 4 by have := (List.getElem?_eq_some_iff.1 hj).1; simp at this; omega) with rfl | rfl | rfl | rfl | rfl
  · obtain rfl : (wr8 3, wr8 0) = z9 := by simpa using hj
    have b9 := wr8_bd 0
    rw [wr8_id (x := 3) (by omega) (by omega)]
    refine w_mk (n := 5) ?_
    omega
  · obtain rfl : (wr8 7, wr8 a) = z9 := by simpa using hj
    have b9 := wr8_bd a
    rw [wr8_id (x := 7) (by omega) (by omega)]
    refine w_mk (n := 5) ?_
    omega
  · obtain rfl : (wr8 12, wr8 (5 + x)) = z9 := by simpa using hj
    have b9 := wr8_bd (5 + x)
    rw [wr8_id (x := 12) (by omega) (by omega)]
    rw [wr8_id (x := (5 + x)) (by omega) (by omega)]
    refine w_mk (n := 5) ?_
    omega
  · obtain rfl : (wr8 21, wr8 10) = z9 := by simpa using hj
    have b9 := wr8_bd 10
    rw [wr8_id (x := 21) (by omega) (by omega)]
    rw [wr8_id (x := 10) (by omega) (by omega)]
    refine w_mk (n := 5) ?_
    omega
  · obtain rfl : (wr8 8, wr8 0) = z9 := by simpa using hj
    have b9 := wr8_bd 0
    rw [wr8_id (x := 8) (by omega) (by omega)]
    refine w_mk (n := 5) ?_
    omega
theorem w_D {l : List (Int × Int)} (h : pkD l) {j : Nat} {z9 : Int × Int} (hj : l[j]? = some z9) : insW j l.length z9 := by
  obtain ⟨i, a, q, hi, ha, hq, rfl⟩ := h
  rcases (show j = 0 ∨ j = 1 ∨ j = 2 ∨ j = 3 ∨ j = 4 by have := (List.getElem?_eq_some_iff.1 hj).1; simp at this; omega) with rfl | rfl | rfl | rfl | rfl
  · obtain rfl : (wr8 2, wr8 i) = z9 := by simpa using hj
    have b9 := wr8_bd i
    rw [wr8_id (x := 2) (by omega) (by omega)]
    rw [wr8_id (x := i) (by omega) (by omega)]
    refine w_mk (n := 5) ?_
    omega
  · obtain rfl : (wr8 7, wr8 (a - 9)) = z9 := by simpa using hj
    have b9 := wr8_bd (a - 9)
    rw [wr8_id (x := 7) (by omega) (by omega)]
    refine w_mk (n := 5) ?_
    omega
  · obtain rfl : (wr8 21, wr8 q) = z9 := by simpa using hj
    have b9 := wr8_bd q
    rw [wr8_id (x := 21) (by omega) (by omega)]
    rw [wr8_id (x := q) (by omega) (by omega)]
    refine w_mk (n := 5) ?_
    omega
  · obtain rfl : (wr8 21, wr8 10) = z9 := by simpa using hj
    have b9 := wr8_bd 10
    rw [wr8_id (x := 21) (by omega) (by omega)]
    rw [wr8_id (x := 10) (by omega) (by omega)]
    refine w_mk (n := 5) ?_
    omega
  · obtain rfl : (wr8 8, wr8 0) = z9 := by simpa using hj
    have b9 := wr8_bd 0
    rw [wr8_id (x := 8) (by omega) (by omega)]
    refine w_mk (n := 5) ?_
    omega
theorem w_E {l : List (Int × Int)} (h : pkE l) {j : Nat} {z9 : Int × Int} (hj : l[j]? = some z9) : insW j l.length z9 := by
  obtain ⟨x, y, hx, hy, rfl⟩ := h
  rcases (show j = 0 ∨ j = 1 ∨ j = 2 by have := (List.getElem?_eq_some_iff.1 hj).1; simp at this; omega) with rfl | rfl | rfl
  · obtain rfl : (wr8 20, wr8 (10 + x)) = z9 := by simpa using hj
    have b9 := wr8_bd (10 + x)
    rw [wr8_id (x := 20) (by omega) (by omega)]
    rw [wr8_id (x := (10 + x)) (by omega) (by omega)]
    refine w_mk (n := 3) ?_
    omega
  · obtain rfl : (wr8 10, wr8 y) = z9 := by simpa using hj
    have b9 := wr8_bd y
    rw [wr8_id (x := 10) (by omega) (by omega)]
    rw [wr8_id (x := y) (by omega) (by omega)]
    refine w_mk (n := 3) ?_
    omega
  · obtain rfl : (wr8 8, wr8 0) = z9 := by simpa using hj
    have b9 := wr8_bd 0
    rw [wr8_id (x := 8) (by omega) (by omega)]
    refine w_mk (n := 3) ?_
    omega
theorem w_F {l : List (Int × Int)} (h : pkF l) {j : Nat} {z9 : Int × Int} (hj : l[j]? = some z9) : insW j l.length z9 := by
  obtain ⟨a, y, ha, hy, rfl⟩ := h
  rcases (show j = 0 ∨ j = 1 ∨ j = 2 ∨ j = 3 by have := (List.getElem?_eq_some_iff.1 hj).1; simp at this; omega) with rfl | rfl | rfl | rfl
  · obtain rfl : (wr8 7, wr8 a) = z9 := by simpa using hj
    have b9 := wr8_bd a
    rw [wr8_id (x := 7) (by omega) (by omega)]
    refine w_mk (n := 4) ?_
    omega
  · obtain rfl : (wr8 21, wr8 18) = z9 := by simpa using hj
    have b9 := wr8_bd 18
    rw [wr8_id (x := 21) (by omega) (by omega)]
    rw [wr8_id (x := 18) (by omega) (by omega)]
    refine w_mk (n := 4) ?_
    omega
  · obtain rfl : (wr8 10, wr8 y) = z9 := by simpa using hj
    have b9 := wr8_bd y
    rw [wr8_id (x := 10) (by omega) (by omega)]
    rw [wr8_id (x := y) (by omega) (by omega)]
    refine w_mk (n := 4) ?_
    omega
  · obtain rfl : (wr8 8, wr8 0) = z9 := by simpa using hj
    have b9 := wr8_bd 0
    rw [wr8_id (x := 8) (by omega) (by omega)]
    refine w_mk (n := 4) ?_
    omega
theorem w_G {l : List (Int × Int)} (h : pkG l) {j : Nat} {z9 : Int × Int} (hj : l[j]? = some z9) : insW j l.length z9 := by
  obtain ⟨x, k, s, z, hx, hk, hs, hz, rfl⟩ := h
  rcases (show j = 0 ∨ j = 1 ∨ j = 2 ∨ j = 3 ∨ j = 4 by have := (List.getElem?_eq_some_iff.1 hj).1; simp at this; omega) with rfl | rfl | rfl | rfl | rfl
  · obtain rfl : (wr8 0, wr8 x) = z9 := by simpa using hj
    have b9 := wr8_bd x
    rw [wr8_id (x := 0) (by omega) (by omega)]
    rw [wr8_id (x := x) (by omega) (by omega)]
    refine w_mk (n := 5) ?_
    omega
  · obtain rfl : (wr8 7, wr8 k) = z9 := by simpa using hj
    have b9 := wr8_bd k
    rw [wr8_id (x := 7) (by omega) (by omega)]
    refine w_mk (n := 5) ?_
    omega
  · obtain rfl : (wr8 s, wr8 z) = z9 := by simpa using hj
    have b9 := wr8_bd z
    rw [wr8_id (x := s) (by omega) (by omega)]
    rw [wr8_id (x := z) (by omega) (by omega)]
    refine w_mk (n := 5) ?_
    omega
  · obtain rfl : (wr8 21, wr8 9) = z9 := by simpa using hj
    have b9 := wr8_bd 9
    rw [wr8_id (x := 21) (by omega) (by omega)]
    rw [wr8_id (x := 9) (by omega) (by omega)]
    refine w_mk (n := 5) ?_
    omega
  · obtain rfl : (wr8 8, wr8 0) = z9 := by simpa using hj
    have b9 := wr8_bd 0
    rw [wr8_id (x := 8) (by omega) (by omega)]
    refine w_mk (n := 5) ?_
    omega
theorem w_H {l : List (Int × Int)} (h : pkH l) {j : Nat} {z9 : Int × Int} (hj : l[j]? = some z9) : insW j l.length z9 := by
  obtain ⟨x, k, hx, hk, rfl⟩ := h
  rcases (show j = 0 ∨ j = 1 ∨ j = 2 ∨ j = 3 by have := (List.getElem?_eq_some_iff.1 hj).1; simp at this; omega) with rfl | rfl | rfl | rfl
  · obtain rfl : (wr8 0, wr8 x) = z9 := by simpa using hj
    have b9 := wr8_bd x
    rw [wr8_id (x := 0) (by omega) (by omega)]
    rw [wr8_id (x := x) (by omega) (by omega)]
    refine w_mk (n := 4) ?_
    omega
  · obtain rfl : (wr8 7, wr8 k) = z9 := by simpa using hj
    have b9 := wr8_bd k
    rw [wr8_id (x := 7) (by omega) (by omega)]
    refine w_mk (n := 4) ?_
    omega
  · obtain rfl : (wr8 21, wr8 8) = z9 := by simpa using hj
    have b9 := wr8_bd 8
    rw [wr8_id (x := 21) (by omega) (by omega)]
    rw [wr8_id (x := 8) (by omega) (by omega)]
    refine w_mk (n := 4) ?_
    omega
  · obtain rfl : (wr8 21, wr8 10) = z9 := by simpa using hj
    have b9 := wr8_bd 10
    rw [wr8_id (x := 21) (by omega) (by omega)]
    rw [wr8_id (x := 10) (by omega) (by omega)]
    refine w_mk (n := 4) ?_
    omega
theorem w_I {l : List (Int × Int)} (h : pkI l) {j : Nat} {z9 : Int × Int} (hj : l[j]? = some z9) : insW j l.length z9 := by
  unfold pkI at h
  subst h
  rcases (show j = 0 ∨ j = 1 ∨ j = 2 by have := (List.getElem?_eq_some_iff.1 hj).1; simp at this; omega) with rfl | rfl | rfl
  · obtain rfl : (wr8 18, wr8 12) = z9 := by simpa using hj
    have b9 := wr8_bd 12
    rw [wr8_id (x := 18) (by omega) (by omega)]
    rw [wr8_id (x := 12) (by omega) (by omega)]
    refine w_mk (n := 3) ?_
    omega
  · obtain rfl : (wr8 21, wr8 11) = z9 := by simpa using hj
    have b9 := wr8_bd 11
    rw [wr8_id (x := 21) (by omega) (by omega)]
    rw [wr8_id (x := 11) (by omega) (by omega)]
    refine w_mk (n := 3) ?_
    omega
  · obtain rfl : (wr8 8, wr8 0) = z9 := by simpa using hj
    have b9 := wr8_bd 0
    rw [wr8_id (x := 8) (by omega) (by omega)]
    refine w_mk (n := 3) ?_
    omega
theorem w_J {l : List (Int × Int)} (h : pkJ l) {j : Nat} {z9 : Int × Int} (hj : l[j]? = some z9) : insW j l.length z9 := by
  obtain ⟨a, ha, rfl⟩ := h
  rcases (show j = 0 ∨ j = 1 ∨ j = 2 ∨ j = 3 by have := (List.getElem?_eq_some_iff.1 hj).1; simp at this; omega) with rfl | rfl | rfl | rfl
  · obtain rfl : (wr8 18, wr8 13) = z9 := by simpa using hj
    have b9 := wr8_bd 13
    rw [wr8_id (x := 18) (by omega) (by omega)]
    rw [wr8_id (x := 13) (by omega) (by omega)]
    refine w_mk (n := 4) ?_
    omega
  · obtain rfl : (wr8 7, wr8 a) = z9 := by simpa using hj
    have b9 := wr8_bd a
    rw [wr8_id (x := 7) (by omega) (by omega)]
    refine w_mk (n := 4) ?_
    omega
  · obtain rfl : (wr8 21, wr8 12) = z9 := by simpa using hj
    have b9 := wr8_bd 12
    rw [wr8_id (x := 21) (by omega) (by omega)]
    rw [wr8_id (x := 12) (by omega) (by omega)]
    refine w_mk (n := 4) ?_
    omega
  · obtain rfl : (wr8 8, wr8 0) = z9 := by simpa using hj
    have b9 := wr8_bd 0
    rw [wr8_id (x := 8) (by omega) (by omega)]
    refine w_mk (n := 4) ?_
    omega
theorem w_K {l : List (Int × Int)} (h : pkK l) {j : Nat} {z9 : Int × Int} (hj : l[j]? = some z9) : insW j l.length z9 := by
  obtain ⟨k, hk, rfl⟩ := h
  rcases (show j = 0 ∨ j = 1 ∨ j = 2 ∨ j = 3 by have := (List.getElem?_eq_some_iff.1 hj).1; simp at this; omega) with rfl | rfl | rfl | rfl
  · obtain rfl : (wr8 18, wr8 12) = z9 := by simpa using hj
    have b9 := wr8_bd 12
    rw [wr8_id (x := 18) (by omega) (by omega)]
    rw [wr8_id (x := 12) (by omega) (by omega)]
    refine w_mk (n := 4) ?_
    omega
  · obtain rfl : (wr8 7, wr8 k) = z9 := by simpa using hj
    have b9 := wr8_bd k
    rw [wr8_id (x := 7) (by omega) (by omega)]
    refine w_mk (n := 4) ?_
    omega
  · obtain rfl : (wr8 21, wr8 13) = z9 := by simpa using hj
    have b9 := wr8_bd 13
    rw [wr8_id (x := 21) (by omega) (by omega)]
    rw [wr8_id (x := 13) (by omega) (by omega)]
    refine w_mk (n := 4) ?_
    omega
  · obtain rfl : (wr8 8, wr8 0) = z9 := by simpa using hj
    have b9 := wr8_bd 0
    rw [wr8_id (x := 8) (by omega) (by omega)]
    refine w_mk (n := 4) ?_
    omega
theorem w_L {l : List (Int × Int)} (h : pkL l) {j : Nat} {z9 : Int × Int} (hj : l[j]? = some z9) : insW j l.length z9 := by
  obtain ⟨k, x, hk, hx, rfl⟩ := h
  rcases (show j = 0 ∨ j = 1 ∨ j = 2 by have := (List.getElem?_eq_some_iff.1 hj).1; simp at this; omega) with rfl | rfl | rfl
  · obtain rfl : (wr8 7, wr8 k) = z9 := by simpa using hj
    have b9 := wr8_bd k
    rw [wr8_id (x := 7) (by omega) (by omega)]
    refine w_mk (n := 3) ?_
    omega
  · obtain rfl : (wr8 21, wr8 (15 + x)) = z9 := by simpa using hj
    have b9 := wr8_bd (15 + x)
    rw [wr8_id (x := 21) (by omega) (by omega)]
    rw [wr8_id (x := (15 + x)) (by omega) (by omega)]
    refine w_mk (n := 3) ?_
    omega
  · obtain rfl : (wr8 8, wr8 0) = z9 := by simpa using hj
    have b9 := wr8_bd 0
    rw [wr8_id (x := 8) (by omega) (by omega)]
    refine w_mk (n := 3) ?_
    omega
theorem w_M {l : List (Int × Int)} (h : pkM l) {j : Nat} {z9 : Int × Int} (hj : l[j]? = some z9) : insW j l.length z9 := by
  obtain ⟨s, hs, rfl⟩ := h
  rcases (show j = 0 ∨ j = 1 by have := (List.getElem?_eq_some_iff.1 hj).1; simp at this; omega) with rfl | rfl
  · obtain rfl : (wr8 21, wr8 s) = z9 := by simpa using hj
    have b9 := wr8_bd s
    rw [wr8_id (x := 21) (by omega) (by omega)]
    rw [wr8_id (x := s) (by omega) (by omega)]
    refine w_mk (n := 2) ?_
    omega
  · obtain rfl : (wr8 8, wr8 0) = z9 := by simpa using hj
    have b9 := wr8_bd 0
    rw [wr8_id (x := 8) (by omega) (by omega)]
    refine w_mk (n := 2) ?_
    omega
theorem w_N {l : List (Int × Int)} (h : pkN l) {j : Nat} {z9 : Int × Int} (hj : l[j]? = some z9) : insW j l.length z9 := by
  obtain ⟨x, a, hx, ha, rfl⟩ := h
  rcases (show j = 0 ∨ j = 1 ∨ j = 2 ∨ j = 3 by have := (List.getElem?_eq_some_iff.1 hj).1; simp at this; omega) with rfl | rfl | rfl | rfl
  · obtain rfl : (wr8 (5 + x), wr8 0) = z9 := by simpa using hj
    have b9 := wr8_bd 0
    rw [wr8_id (x := (5 + x)) (by omega) (by omega)]
    refine w_mk (n := 4) ?_
    omega
  · obtain rfl : (wr8 17, wr8 1) = z9 := by simpa using hj
    have b9 := wr8_bd 1
    rw [wr8_id (x := 17) (by omega) (by omega)]
    rw [wr8_id (x := 1) (by omega) (by omega)]
    refine w_mk (n := 4) ?_
    omega
  · obtain rfl : (wr8 7, wr8 a) = z9 := by simpa using hj
    have b9 := wr8_bd a
    rw [wr8_id (x := 7) (by omega) (by omega)]
    refine w_mk (n := 4) ?_
    omega
  · obtain rfl : (wr8 8, wr8 0) = z9 := by simpa using hj
    have b9 := wr8_bd 0
    rw [wr8_id (x := 8) (by omega) (by omega)]
    refine w_mk (n := 4) ?_
    omega
theorem w_O {l : List (Int × Int)} (h : pkO l) {j : Nat} {z9 : Int × Int} (hj : l[j]? = some z9) : insW j l.length z9 := by
  obtain ⟨k, hk, rfl⟩ := h
  rcases (show j = 0 ∨ j = 1 ∨ j = 2 ∨ j = 3 ∨ j = 4 by have := (List.getElem?_eq_some_iff.1 hj).1; simp at this; omega) with rfl | rfl | rfl | rfl | rfl
  · obtain rfl : (wr8 0, wr8 0) = z9 := by simpa using hj
    have b9 := wr8_bd 0
    rw [wr8_id (x := 0) (by omega) (by omega)]
    refine w_mk (n := 5) ?_
    omega
  · obtain rfl : (wr8 0, wr8 1) = z9 := by simpa using hj
    have b9 := wr8_bd 1
    rw [wr8_id (x := 0) (by omega) (by omega)]
    rw [wr8_id (x := 1) (by omega) (by omega)]
    refine w_mk (n := 5) ?_
    omega
  · obtain rfl : (wr8 7, wr8 k) = z9 := by simpa using hj
    have b9 := wr8_bd k
    rw [wr8_id (x := 7) (by omega) (by omega)]
    refine w_mk (n := 5) ?_
    omega
  · obtain rfl : (wr8 21, wr8 19) = z9 := by simpa using hj
    have b9 := wr8_bd 19
    rw [wr8_id (x := 21) (by omega) (by omega)]
    rw [wr8_id (x := 19) (by omega) (by omega)]
    refine w_mk (n := 5) ?_
    omega
  · obtain rfl : (wr8 8, wr8 0) = z9 := by simpa using hj
    have b9 := wr8_bd 0
    rw [wr8_id (x := 8) (by omega) (by omega)]
    refine w_mk (n := 5) ?_
    omega
theorem w_P {l : List (Int × Int)} (h : pkP l) {j : Nat} {z9 : Int × Int} (hj : l[j]? = some z9) : insW j l.length z9 := by
  obtain ⟨s, hs, rfl⟩ := h
  rcases (show j = 0 ∨ j = 1 ∨ j = 2 ∨ j = 3 by have := (List.getElem?_eq_some_iff.1 hj).1; simp at this; omega) with rfl | rfl | rfl | rfl
  · obtain rfl : (wr8 0, wr8 0) = z9 := by simpa using hj
    have b9 := wr8_bd 0
    rw [wr8_id (x := 0) (by omega) (by omega)]
    refine w_mk (n := 4) ?_
    omega
  · obtain rfl : (wr8 0, wr8 1) = z9 := by simpa using hj
    have b9 := wr8_bd 1
    rw [wr8_id (x := 0) (by omega) (by omega)]
    rw [wr8_id (x := 1) (by omega) (by omega)]
    refine w_mk (n := 4) ?_
    omega
  · obtain rfl : (wr8 21, wr8 s) = z9 := by simpa using hj
    have b9 := wr8_bd s
    rw [wr8_id (x := 21) (by omega) (by omega)]
    rw [wr8_id (x := s) (by omega) (by omega)]
    refine w_mk (n := 4) ?_
    omega
  · obtain rfl : (wr8 8, wr8 0) = z9 := by simpa using hj
    have b9 := wr8_bd 0
    rw [wr8_id (x := 8) (by omega) (by omega)]
    refine w_mk (n := 4) ?_
    omega
theorem w_Q {l : List (Int × Int)} (h : pkQ l) {j : Nat} {z9 : Int × Int} (hj : l[j]? = some z9) : insW j l.length z9 := by
  obtain ⟨x, y, hx, hy, rfl⟩ := h
  rcases (show j = 0 ∨ j = 1 ∨ j = 2 by have := (List.getElem?_eq_some_iff.1 hj).1; simp at this; omega) with rfl | rfl | rfl
  · obtain rfl : (wr8 1, wr8 x) = z9 := by simpa using hj
    have b9 := wr8_bd x
    rw [wr8_id (x := 1) (by omega) (by omega)]
    rw [wr8_id (x := x) (by omega) (by omega)]
    refine w_mk (n := 3) ?_
    omega
  · obtain rfl : (wr8 11, wr8 y) = z9 := by simpa using hj
    have b9 := wr8_bd y
    rw [wr8_id (x := 11) (by omega) (by omega)]
    rw [wr8_id (x := y) (by omega) (by omega)]
    refine w_mk (n := 3) ?_
    omega
  · obtain rfl : (wr8 8, wr8 0) = z9 := by simpa using hj
    have b9 := wr8_bd 0
    rw [wr8_id (x := 8) (by omega) (by omega)]
    refine w_mk (n := 3) ?_
    omega
theorem w_R {l : List (Int × Int)} (h : pkR l) {j : Nat} {z9 : Int × Int} (hj : l[j]? = some z9) : insW j l.length z9 := by
  obtain ⟨x, y, hx, hy, rfl⟩ := h
  rcases (show j = 0 ∨ j = 1 by have := (List.getElem?_eq_some_iff.1 hj).1; simp at this; omega) with rfl | rfl
  · obtain rfl : (wr8 0, wr8 x) = z9 := by simpa using hj
    have b9 := wr8_bd x
    rw [wr8_id (x := 0) (by omega) (by omega)]
    rw [wr8_id (x := x) (by omega) (by omega)]
    refine w_mk (n := 2) ?_
    omega
  · obtain rfl : (wr8 11, wr8 y) = z9 := by simpa using hj
    have b9 := wr8_bd y
    rw [wr8_id (x := 11) (by omega) (by omega)]
    rw [wr8_id (x := y) (by omega) (by omega)]
    refine w_mk (n := 2) ?_
    omega
theorem piece_w {l : List (Int × Int)} (h : pieceOk l) {j : Nat} {y : Int × Int} (hj : l[j]? = some y) : insW j l.length y := by
  rcases h with h | h | h | h | h | h | h | h | h | h | h | h | h | h | h | h | h | h
  · exact w_A h hj
  · exact w_B h hj
  · exact w_C h hj
  · exact w_D h hj
  · exact w_E h hj
  · exact w_F h hj
  · exact w_G h hj
  · exact w_H h hj
  · exact w_I h hj
  · exact w_J h hj
  · exact w_K h hj
  · exact w_L h hj
  · exact w_M h hj
  · exact w_N h hj
  · exact w_O h hj
  · exact w_P h hj
  · exact w_Q h hj
  · exact w_R h hj
/-- what is right in a row is right in a longer one, that many instructions in, as long as one follows -/
theorem insW.in {j n o N : Nat} {y : Int × Int} (h : insW j n y) (hN : o + n < N) : insW (o + j) N y ∧ (y.1 = 17 → ((o + j : Nat) : Int) + 1 + y.2 < N) := by
  rcases h with h | h | h | h | h | h | ⟨h, h2⟩ | h | h
  · exact ⟨Or.inl h, fun e => by clear hN; omega⟩
  · exact ⟨Or.inr (Or.inl h), fun e => by clear hN; omega⟩
  · exact ⟨Or.inr (Or.inr (Or.inl h)), fun e => by clear hN; omega⟩
  · exact ⟨Or.inr (Or.inr (Or.inr (Or.inl h))), fun e => by clear hN; omega⟩
  · exact ⟨Or.inr (Or.inr (Or.inr (Or.inr (Or.inl h)))), fun e => by clear hN; omega⟩
  · exact ⟨Or.inr (Or.inr (Or.inr (Or.inr (Or.inr (Or.inl h))))), fun e => by clear hN; omega⟩
  · exact ⟨Or.inr (Or.inr (Or.inr (Or.inr (Or.inr (Or.inr (Or.inl ⟨h, by omega⟩)))))), fun e => by omega⟩
  · exact ⟨Or.inr (Or.inr (Or.inr (Or.inr (Or.inr (Or.inr (Or.inr (Or.inl h))))))), fun e => by clear hN; omega⟩
  · exact ⟨Or.inr (Or.inr (Or.inr (Or.inr (Or.inr (Or.inr (Or.inr (Or.inr h))))))), fun e => by clear hN; omega⟩
theorem w_n {j n : Nat} {a b : Int} (h : (3 ≤ a ∧ a ≤ 9) ∨ a = 14 ∨ a = 19) : insW j n (a, b) := Or.inr (Or.inr (Or.inr (Or.inr (Or.inr (Or.inr (Or.inr (Or.inr h)))))))
theorem w_t {j n : Nat} {a b : Int} (h : a = 0 ∨ a = 10) (h2 : b < 2) : insW j n (a, b) := Or.inl ⟨h, h2⟩
theorem w_s {j n : Nat} {a b : Int} (h : a = 12 ∨ a = 13) (h2 : 4 ≤ b) (h3 : b < 10) : insW j n (a, b) := Or.inr (Or.inr (Or.inr (Or.inl ⟨h, h2, h3⟩)))
/-- .. wherever in the code it stands -/
def insG (N k : Nat) (y : Int × Int) : Prop := insW k N y ∧ (y.1 = 17 → (k : Int) + 1 + y.2 < N)
theorem flatten_g : ∀ (P : List (List (Int × Int))) (o N : Nat), (∀ x ∈ P, pieceOk x) → o + P.flatten.length < N → ∀ k y, P.flatten[k]? = some y → insG N (o + k) y
  | [], _, _, _, _, k, y, hy => by simp at hy
  | l :: P, o, N, hP, hN, k, y, hy => by
    rw [List.flatten_cons] at hy hN
    rw [List.length_append] at hN
    by_cases hk : k < l.length
    · rw [List.getElem?_append_left hk] at hy
      exact (piece_w (hP l (by simp)) hy).in (by omega)
    · rw [List.getElem?_append_right (by omega)] at hy
      have := flatten_g P (o + l.length) N (fun x hx => hP x (by simp [hx])) (by omega) (k - l.length) y hy
      rw [show o + k = o + l.length + (k - l.length) by omega]
      exact this
theorem code_g {b : Bool} {I : List (Int × Int)} (h : codeOk b I) : ∀ k y, I[k]? = some y → insG I.length k y := by
  obtain ⟨P, S, q, r, l, hI, h1, h5, hP, hS, hq, hr, hl⟩ := h
  intro k y hy
  have hlen : I.length = P.flatten.length + S.length + 2 := by rw [hI]; simp; omega
  generalize I.length = N at *
  rw [hI, List.append_assoc] at hy
  clear hI
  by_cases hk : k < P.flatten.length
  · rw [List.getElem?_append_left hk] at hy
    have := flatten_g P 0 N hP (by omega) k y hy
    rwa [Nat.zero_add] at this
  rw [List.getElem?_append_right (by omega)] at hy
  generalize k - P.flatten.length = k2 at *
  clear hP h1 h5 hk
  by_cases hk2 : k2 < S.length
  · rw [List.getElem?_append_left hk2] at hy
    rcases hS with rfl | rfl
    · simp at hk2
    · simp only [List.length_cons, List.length_nil] at hk2
      rcases (show k2 = 0 ∨ k2 = 1 by omega) with e | e
      · rw [e] at hy
        obtain rfl : (wr8 3, wr8 0) = y := by simpa using hy
        rw [wr8_id (x := 3) (by omega) (by omega)]
        exact ⟨w_n (by omega), fun e => by simp only at e; omega⟩
      · rw [e] at hy
        obtain rfl : (wr8 13, wr8 4) = y := by simpa using hy
        rw [wr8_id (x := 13) (by omega) (by omega), wr8_id (x := 4) (by omega) (by omega)]
        exact ⟨w_s (by omega) (by omega) (by omega), fun e => by simp only at e; omega⟩
  rw [List.getElem?_append_right (by omega)] at hy
  have hk3 := (List.getElem?_eq_some_iff.1 hy).1
  simp only [List.length_cons, List.length_nil] at hk3
  generalize k2 - S.length = k3 at *
  clear hS hk2 hlen
  rcases (show k3 = 0 ∨ k3 = 1 by omega) with e | e
  · rw [e] at hy
    obtain rfl : (wr8 q, wr8 r) = y := by simpa using hy
    rw [wr8_id (x := q) (by omega) (by omega), wr8_id (x := r) (by omega) (by omega)]
    by_cases q0 : q = 0
    · exact ⟨w_t (by omega) (by omega), fun e => by simp only at e; omega⟩
    · exact ⟨w_n (by omega), fun e => by simp only at e; omega⟩
  · rw [e] at hy
    obtain rfl : (wr8 l, wr8 0) = y := by simpa using hy
    rw [wr8_id (x := l) (by omega) (by omega), wr8_id (x := 0) (by omega) (by omega)]
    exact ⟨w_n (by omega), fun e => by simp only at e; omega⟩
theorem flat_at : ∀ (I : List (Int × Int)) (k : Nat) (y : Int × Int), I[k]? = some y → byAt (flat I) (2 * k) = y.1 ∧ byAt (flat I) (2 * k + 1) = y.2
  | [], k, y, h => by simp at h
  | x :: I, 0, y, h => by
    obtain rfl : x = y := by simpa using h
    exact ⟨rfl, rfl⟩
  | x :: I, k + 1, y, h => by
    have := flat_at I k y (by simpa using h)
    rw [show 2 * (k + 1) = 2 * k + 1 + 1 by omega, show 2 * k + 1 + 1 + 1 = (2 * k + 1) + 2 by omega]
    exact this
/-- the literals of a tape's method, by number -/
theorem lits_k {c : Int} {X : List (Int × Int)} (h : litsOk c X) : X.length = 14 ∧ (∀ i : Nat, i < 4 → (litAt X i).1 = 3) ∧ (∀ i : Nat, 4 ≤ i → i < 10 → (litAt X i).1 = 5) ∧ (∀ i : Nat, 10 ≤ i → i < 12 → (litAt X i).1 = 6 ∧ 1 < (litAt X i).2) ∧ (∀ i : Nat, 12 ≤ i → i < 14 → (litAt X i).1 = 7) := by
  obtain ⟨A, B, rfl, hA, hB, h1, h2⟩ := h
  have hS : (sels 6).length = 6 := by decide
  match A, hA, B, hB with
  | [a, b, c, d], _, [e, f], _ =>
    refine ⟨by simp [hS], fun i hi => ?_, fun i hi hj => ?_, fun i hi hj => ?_, fun i hi hj => ?_⟩
    · rcases (show i = 0 ∨ i = 1 ∨ i = 2 ∨ i = 3 by omega) with rfl | rfl | rfl | rfl
      · exact (h1 a (by simp)).1
      · exact (h1 b (by simp)).1
      · exact (h1 c (by simp)).1
      · exact (h1 d (by simp)).1
    · rcases (show i = 4 ∨ i = 5 ∨ i = 6 ∨ i = 7 ∨ i = 8 ∨ i = 9 by omega) with rfl | rfl | rfl | rfl | rfl | rfl <;> rfl
    · rcases (show i = 10 ∨ i = 11 by omega) with rfl | rfl
      · obtain ⟨p, q, _⟩ := h2 e (by simp)
        exact ⟨p, by have : (litAt ([a, b, c, d] ++ sels 6 ++ [e, f] ++ [(7, 7), (7, 8)]) ((10 : Nat) : Int)) = e := rfl; rw [this]; omega⟩
      · obtain ⟨p, q, _⟩ := h2 f (by simp)
        exact ⟨p, by have : (litAt ([a, b, c, d] ++ sels 6 ++ [e, f] ++ [(7, 7), (7, 8)]) ((11 : Nat) : Int)) = f := rfl; rw [this]; omega⟩
    · rcases (show i = 12 ∨ i = 13 by omega) with rfl | rfl <;> rfl
theorem has_at {X : List (Int × Int)} {i kind : Int} (h0 : 0 ≤ i) (h1 : i < (X.length : Int)) (h : (litAt X i).1 = kind) : hasLit X i kind = true := by
  unfold hasLit
  rw [decide_eq_true h1, decide_eq_true h]; rfl
theorem ins_ok {c : Int} {m : MethA} (hl : litsOk c m.lits) (ht : m.temps = 2) (ha : 0 ≤ m.args) {k N : Nat} (hN : m.code.length = 2 * N) {y : Int × Int} (hy : 0 ≤ y.2) (h : insG N k y) : insR m ((2 * k : Nat) : Int) y.1 y.2 = true := by
  obtain ⟨n14, l3, l5, l6, l7⟩ := lits_k hl
  obtain ⟨h, hj⟩ := h
  obtain ⟨op, arg⟩ := y
  unfold insW at h
  simp only at h hj hy ⊢
  obtain ⟨i, rfl⟩ : ∃ i : Nat, arg = i := ⟨arg.toNat, by omega⟩
  have hh3 : i < 4 → hasLit m.lits (i : Int) 3 = true := fun g => has_at (by omega) (by omega) (l3 i g)
  have hh5 : 4 ≤ i → i < 10 → hasLit m.lits (i : Int) 5 = true := fun g g2 => has_at (by omega) (by omega) (l5 i g g2)
  have hh6 : 10 ≤ i → i < 12 → hasLit m.lits (i : Int) 6 = true ∧ 1 < (litAt m.lits (i : Int)).2 := fun g g2 => ⟨has_at (by omega) (by omega) (l6 i g g2).1, (l6 i g g2).2⟩
  have hh7 : 12 ≤ i → i < 14 → hasLit m.lits (i : Int) 7 = true := fun g g2 => has_at (by omega) (by omega) (l7 i g g2)
  unfold insR
  by_cases e0 : op = 0 ∨ op = 10
  · rw [if_pos e0]; exact decide_eq_true (by omega)
  rw [if_neg e0]
  by_cases e1 : op = 1 ∨ op = 11
  · rw [if_pos e1]; exact decide_eq_true (by omega)
  rw [if_neg e1]
  by_cases e2 : op = 2
  · rw [if_pos e2]; exact hh3 (by omega)
  rw [if_neg e2]
  by_cases e3 : op = 12 ∨ op = 13
  · rw [if_pos e3]; exact hh5 (by omega) (by omega)
  rw [if_neg e3]
  by_cases e4 : op = 20
  · rw [if_pos e4, (hh6 (by omega) (by omega)).1]; exact decide_eq_true (hh6 (by omega) (by omega)).2
  rw [if_neg e4]
  by_cases e5 : op = 18
  · rw [if_pos e5]; exact hh7 (by omega) (by omega)
  rw [if_neg e5]
  by_cases e6 : op = 15 ∨ op = 17
  · rw [if_pos e6, hN]; exact decide_eq_true (by have := hj (by omega); omega)
  rw [if_neg e6]
  by_cases e7 : op = 16
  · omega
  rw [if_neg e7]
  by_cases e8 : op = 21
  · rw [if_pos e8]; exact decide_eq_true (by omega)
  rw [if_neg e8]
  exact decide_eq_true (by omega)
theorem insF_ok {m : MethA} {N : Nat} : ∀ (f k : Nat), f + k = N → (∀ j, k ≤ j → j < N → insR m ((2 * j : Nat) : Int) (byAt m.code (2 * j)) (byAt m.code (2 * j + 1)) = true) → insF m f (2 * k) = true
  | 0, k, _, _ => rfl
  | f + 1, k, e, h => by
    rw [insF, h k (Nat.le_refl _) (by omega), Bool.true_and, show 2 * k + 2 = 2 * (k + 1) by omega]
    exact insF_ok f (k + 1) (by omega) (fun j hj hj2 => h j (by omega) hj2)
/-- a tape's method is right, within a program that has its names, its classes, nine methods -/
theorem meth_ok {c : Int} {j : Nat} {m : MethA} (h : methOk c j m) (hj : j < 9) {nn nc nm : Nat} (hn : nn = 6) (hc : c = (nc : Int)) (hm : nm = 9) : metR m nn nc nm = 0 := by
  obtain ⟨I, hI, eI⟩ := h.code
  have hfl : m.code.length = 2 * I.length := by rw [eI, flat_len]
  obtain ⟨n14, l3, l5, l6, l7⟩ := lits_k h.lits
  have ht := h.temps
  have ha : 0 ≤ m.args ∧ m.args ≤ 2 := by
    rw [h.args]
    split
    · exact argOf_le j
    · split <;> omega
  have hex := hI
  obtain ⟨P, S, q, r, l, eP, h1, h5, hP, hS, hq, hr, hl⟩ := hex
  have hPl := flatten_len P hP
  have hSl : S.length ≤ 2 := by rcases hS with rfl | rfl <;> simp
  have hIl : I.length = P.flatten.length + S.length + 2 := by rw [eP]; simp; omega
  have hlast : I[I.length - 1]? = some (wr8 l, wr8 0) := by
    rw [show I.length - 1 = P.flatten.length + S.length + 1 by omega, eP, List.getElem?_append_right (by rw [List.length_append]; omega), List.length_append, show P.flatten.length + S.length + 1 - (P.flatten.length + S.length) = 1 by omega]
    rfl
  have hby := flat_at I _ _ hlast
  rw [← eI, show 2 * (I.length - 1) = m.code.length - 2 by omega, show wr8 l = l from wr8_id (by omega) (by omega)] at hby
  unfold metR
  rw [if_neg (by omega), if_neg (by omega), if_neg (by rw [hby.1]; omega)]
  have hall : m.lits.all (fun x => litR x nn nc nm) = true := by
    rw [List.all_eq_true]
    intro x hx
    obtain ⟨A, B, e, hA, hB, g1, g2⟩ := h.lits
    rw [e] at hx
    simp only [List.mem_append] at hx
    rcases hx with ((hx | hx) | hx) | hx
    · obtain ⟨p, p2⟩ := g1 x hx
      obtain ⟨a, b⟩ := x
      simp only at p p2
      subst p
      show num30 b = true
      unfold num30
      rcases p2 with rfl | rfl | rfl | rfl | rfl <;> decide
    · unfold sels at hx
      obtain ⟨i, hi, rfl⟩ := List.mem_map.1 hx
      have := List.mem_range.1 hi
      refine (lit_sel _ _ _ _).trans ?_
      unfold inN
      rw [decide_eq_true (by omega), decide_eq_true (by omega)]; rfl
    · obtain ⟨p, p2, p3⟩ := g2 x hx
      obtain ⟨a, b⟩ := x
      simp only at p p2 p3
      subst p
      refine (lit_cls _ _ _ _).trans ?_
      unfold inN
      rw [decide_eq_true (by omega), decide_eq_true (by omega)]; rfl
    · simp only [List.mem_cons, List.not_mem_nil, or_false] at hx
      subst hm
      rcases hx with rfl | rfl <;> rfl
  rw [hall, if_neg (by decide)]
  have hins : insF m (m.code.length / 2) 0 = true := by
    rw [show m.code.length / 2 = I.length by omega]
    refine insF_ok (N := I.length) I.length 0 (by omega) (fun k _ hk => ?_)
    obtain ⟨y, hy⟩ : ∃ y, I[k]? = some y := ⟨I[k], by simp⟩
    obtain ⟨e1, e2⟩ := flat_at I k y hy
    rw [← eI] at e1 e2
    rw [e1, e2]
    exact ins_ok h.lits ht ha.1 hfl ((codeOk_by hI y (List.mem_of_getElem? hy)).2.1) (code_g hI k y hy)
  rw [hins, if_neg (by decide)]
end Wd
end Go.Proofs.YtgfnelhbdhbklaaGreat

/- A tape's program is right, whatever objects that are right it has; with another main it is as good as that. -/
namespace Go.Proofs.YtgfnelhbdhbklaaGreat
open Go.RowKit
set_option linter.unusedVariables false
set_option maxRecDepth 20000
namespace Wd
theorem first_skip : ∀ (A B : List Int), (∀ x ∈ A, x = 0) → firstE (A ++ B) = firstE B
  | [], B, _ => rfl
  | x :: A, B, h => by
    rw [List.cons_append, firstE, if_pos (h x (by simp))]
    exact first_skip A B (fun y hy => h y (by simp [hy]))
theorem first_one (x : Int) : firstE [x] = x := by
  unfold firstE
  split
  · next e => rw [e]; rfl
  · rfl
/-- rows that go up, of numbers from k on, f of them -/
def ups : Nat → Nat → List (List Nat)
  | 0, _ => [[]]
  | f + 1, k => ups f (k + 1) ++ (ups f (k + 1)).map (k :: ·)
theorem ups_mem : ∀ (f k : Nat) (S : List Nat), S.Pairwise (· < ·) → (∀ s ∈ S, k ≤ s ∧ s < k + f) → S ∈ ups f k
  | 0, k, [], _, _ => by simp [ups]
  | 0, k, s :: S, _, h => by have := h s (by simp); omega
  | f + 1, k, [], _, _ => by
    unfold ups
    exact List.mem_append_left _ (ups_mem f (k + 1) [] List.Pairwise.nil (by simp))
  | f + 1, k, s :: S, hp, h => by
    unfold ups
    have hs := h s (by simp)
    have hS := List.pairwise_cons.1 hp
    by_cases e : s = k
    · subst e
      exact List.mem_append_right _ (List.mem_map_of_mem (ups_mem f (s + 1) S hS.2 (fun x hx => by have := hS.1 x hx; have := h x (by simp [hx]); omega)))
    · refine List.mem_append_left _ (ups_mem f (k + 1) (s :: S) hp (fun x hx => ?_))
      have h2 := h x hx
      rcases List.mem_cons.1 hx with e1 | e1
      · subst e1; omega
      · have := hS.1 x e1; omega
theorem ups_fit : ∀ S ∈ ups 6 0, eBinds (S.map (fun (s : Nat) => ((s : Int), (s : Int)))) = 0 := by decide +kernel
theorem bnd_fit {B : List (Int × Int)} (h : bndSub 6 B) : eBinds B = 0 := by
  obtain ⟨S, h1, h2, rfl⟩ := h
  exact ups_fit S (ups_mem 6 0 S h1 (fun s hs => by have := h2 s hs; omega))
theorem name_args : ∀ s : Nat, s < 6 → argsR (nmAt nameL (s : Int)) = argOf s := by decide +kernel
theorem name_ok : namesB nameL = true := by decide +kernel
theorem eArgs_zero {U : UnitA} : ∀ (C : List ClassA), (∀ c ∈ C, ∀ b ∈ c.binds, eArg U b = 0) → ∀ x ∈ eArgs U C, x = 0
  | [], _, x, hx => by simp [eArgs] at hx
  | c :: C, h, x, hx => by
    unfold eArgs at hx
    rcases List.mem_append.1 hx with hx | hx
    · obtain ⟨b, hb, rfl⟩ := List.mem_map.1 hx
      exact h c (by simp) b hb
    · exact eArgs_zero C (fun c hc => h c (by simp [hc])) x hx
/-- a program of a tape's names, classes and methods, and of objects that are right -/
structure TapeM (T U : UnitA) : Prop where
  ta : TapeU T
  n : U.names = T.names
  c : U.classes = T.classes
  m : U.methods = T.methods
  o1 : 1 ≤ U.objects.length
  o2 : U.objects.length ≤ 40
  ob : ∀ x ∈ U.objects, objB x U.classes U.objects.length = true
theorem TapeM.unit {T U : UnitA} (h : TapeM T U) : unitR U = mainE U := by
  have hn : U.names = nameL := h.n.trans h.ta.names
  have hml : U.methods.length = 9 := by rw [h.m]; exact h.ta.ml
  have hlong : longB U = false := by
    unfold longB
    rw [hn, hml]
    rw [decide_eq_false (show ¬ 48 < nameL.length by decide), decide_eq_false (show ¬ 9 < 1 by decide), decide_eq_false (show ¬ 32 < 9 by decide), decide_eq_false (show ¬ U.objects.length < 1 by have := h.o1; omega), decide_eq_false (show ¬ 40 < U.objects.length by have := h.o2; omega)]
    rfl
  have hsh : shapeR U.classes U.names.length U.methods.length = 0 := by
    rw [hn, hml, h.c]
    exact tape_right h.ta.tl (by have := h.ta.cl0; omega)
  unfold unitR
  rw [firstE, if_pos (by rw [hlong]; rfl), firstE, if_pos (by rw [hn, name_ok]; rfl), firstE, if_pos hsh]
  unfold restC
  rw [List.drop_zero, first_skip _ _ (fun x hx => ?_)]
  · unfold restM
    rw [List.drop_zero, first_skip _ _ (fun x hx => ?_)]
    · unfold restA
      rw [List.drop_zero, first_skip _ _ (eArgs_zero _ (fun c hc b hb => ?_))]
      · unfold restO
        rw [List.drop_zero, first_skip _ _ (fun x hx => ?_), first_one]
        obtain ⟨y, hy, rfl⟩ := List.mem_map.1 hx
        rw [if_pos (h.ob y hy)]
      · rw [h.c] at hc
        obtain ⟨k, hk⟩ := List.getElem?_of_mem hc
        obtain ⟨_, _, S, _, h2, e⟩ := h.ta.cls k c hk
        rw [e] at hb
        obtain ⟨s, hs, rfl⟩ := List.mem_map.1 hb
        have hs6 := h2 s hs
        unfold eArg
        rw [if_pos]
        simp only
        rw [hn, name_args s hs6]
        obtain ⟨x, hx⟩ : ∃ x, T.methods[s]? = some x := ⟨T.methods[s]'(by rw [h.ta.ml]; omega), by simp⟩
        unfold agAt
        rw [h.m, Int.toNat_natCast, hx]
        simp only
        rw [(h.ta.mts s x hx).args, if_pos hs6]
    · obtain ⟨y, hy, rfl⟩ := List.mem_map.1 hx
      rw [h.m] at hy
      obtain ⟨k, hk⟩ := List.getElem?_of_mem hy
      have hk9 := (List.getElem?_eq_some_iff.1 hk).1
      rw [h.ta.ml] at hk9
      exact meth_ok (h.ta.mts k y hk) hk9 (by rw [hn]; decide) (by rw [h.c]) hml
  · obtain ⟨y, hy, rfl⟩ := List.mem_map.1 hx
    rw [h.c] at hy
    obtain ⟨k, hk⟩ := List.getElem?_of_mem hy
    exact bnd_fit (h.ta.cls k y hk).2.2
theorem val_ok {N : Nat} {v : Int × Int} (h : valOk N v) : fldOk v N = true := by
  obtain ⟨a, b⟩ := v
  rcases h with h | h | h | ⟨h, h1, h2⟩ | ⟨h, h1, h2⟩
  · cases h; rfl
  · cases h; rfl
  · cases h; rfl
  · simp only at h h1 h2
    subst h
    rw [fld_3]; unfold num30
    rw [decide_eq_true (by omega), decide_eq_true (by omega)]; rfl
  · simp only at h h1 h2
    subst h
    rw [fld_4]; unfold inN
    rw [decide_eq_true (by omega), decide_eq_true (by omega)]; rfl
theorem fld_more {N N' : Nat} (hN : N ≤ N') {v : Int × Int} (h : fldOk v N = true) : fldOk v N' = true := by
  unfold fldOk at h ⊢
  split
  · next g => rw [if_pos g] at h; exact h
  · next g =>
    rw [if_neg g] at h
    split
    · next g3 => rw [if_pos g3] at h; exact h
    · next g3 =>
      rw [if_neg g3] at h
      split
      · next g4 =>
        rw [if_pos g4] at h
        unfold inN at h ⊢
        simp only [Bool.and_eq_true, decide_eq_true_eq] at h ⊢
        omega
      · next g4 => rw [if_neg g4] at h; exact h
theorem objB_more {x : ObjA} {C : List ClassA} {N N' : Nat} (hN : N ≤ N') (h : objB x C N = true) : objB x C N' = true := by
  unfold objB at h ⊢
  simp only [Bool.and_eq_true, List.all_eq_true] at h ⊢
  exact ⟨h.1, fun v hv => fld_more hN (h.2 v hv)⟩
theorem obj_len {T : UnitA} (h : TapeU T) {k : Nat} {x : ObjA} (hx : T.objects[k]? = some x) : x.flds.length ≤ 8 ∧ 1 ≤ x.cls ∧ x.cls < (T.classes.length : Int) ∧ (1 < x.cls → (x.flds.length : Int) = clsF T.classes x.cls) := by
  have hc0 := h.cl0
  have hc1 := h.cl1
  rcases (h.obs k x hx).cls with ⟨h2, d, hd, e⟩ | ⟨_, e, h8⟩
  · obtain ⟨j, hj⟩ : ∃ j : Nat, x.cls = j := ⟨x.cls.toNat, by omega⟩
    rw [hj, Int.toNat_natCast] at hd
    have hjl := (List.getElem?_eq_some_iff.1 hd).1
    have hf := ((h.cls j d hd).1.fld (by omega))
    refine ⟨by omega, by omega, by omega, fun _ => ?_⟩
    rw [hj, clsF_at hd]
    exact e
  · exact ⟨h8, by omega, by omega, fun g => by omega⟩
theorem obj_ok {T : UnitA} (h : TapeU T) {x : ObjA} (hx : x ∈ T.objects) : objB x T.classes T.objects.length = true := by
  obtain ⟨k, hk⟩ := List.getElem?_of_mem hx
  obtain ⟨h8, g1, g2, g3⟩ := obj_len h hk
  rw [objB_yes (head_ok (by omega) (fun g => g.2 (g3 g.1)) (by omega)), List.all_eq_true]
  exact fun v hv => val_ok ((h.obs k x hk).flds v hv)
theorem TapeU.m {T : UnitA} (h : TapeU T) : TapeM T T := ⟨h, rfl, rfl, rfl, h.ob0, by have := h.ob1; omega, fun x hx => obj_ok h hx⟩
theorem main_six {T U : UnitA} (h : TapeU T) (hm : U.methods = T.methods) (h6 : U.main = 6) : mainE U = 0 := by
  obtain ⟨x, hx⟩ : ∃ x, T.methods[6]? = some x := ⟨T.methods[6]'(by rw [h.ml]; omega), by simp⟩
  unfold mainE
  rw [if_pos]
  rw [hm, h6, h.ml]
  refine ⟨by decide, by decide, ?_⟩
  unfold agAt
  rw [show (6 : Int).toNat = 6 from rfl, hx]
  simp only
  rw [(h.mts 6 x hx).args]; rfl
/-- a tape's program is right -/
theorem TapeU.right {T : UnitA} (h : TapeU T) : unitR T = 0 := h.m.unit.trans (main_six h rfl h.main)
theorem meth_size {c : Int} {j : Nat} {x : MethA} (h : methOk c j x) : x.code.length ≤ 300 ∧ x.lits.length ≤ 20 := by
  refine ⟨?_, ?_⟩
  · obtain ⟨I, ⟨⟨P, S, q, r, l, hI, h1, h5, hP, hS, _⟩⟩, e⟩ := h.code
    have hfl := flatten_len P hP
    rw [e, flat_len, hI]
    have hSl : S.length ≤ 2 := by
      rcases hS with rfl | rfl <;> simp
    simp only [List.length_append, List.length_cons, List.length_nil]
    omega
  · have := (lits_k h.lits).1
    omega
theorem TapeU.zb {T : UnitA} (h : TapeU T) : Zb 300 T := by
  have hc0 := h.cl0
  have hc1 := h.cl1
  have ho0 := h.ob0
  have ho1 := h.ob1
  have hm := h.ml
  refine ⟨by rw [h.names]; decide, by omega, by omega, by omega, by omega, by omega, by omega, fun x hx => ?_, fun x hx => ?_, fun x hx => ?_, by rw [h.names]; decide, fun x hx => ?_⟩
  · obtain ⟨k, hk⟩ := List.getElem?_of_mem hx
    have := (h.cls k x hk).2.2.len
    omega
  · obtain ⟨k, hk⟩ := List.getElem?_of_mem hx
    have := meth_size (h.mts k x hk)
    omega
  · obtain ⟨k, hk⟩ := List.getElem?_of_mem hx
    have := (obj_len h hk).1
    omega
  · obtain ⟨k, hk⟩ := List.getElem?_of_mem hx
    have hk5 : k < 5 := by have := (List.getElem?_eq_some_iff.1 hk).1; omega
    have hc := (h.cls k x hk).1
    rcases (show k = 0 ∨ k = 1 ∨ 2 ≤ k by omega) with rfl | rfl | h2
    · rw [(hc.z rfl).1]; decide
    · rw [(hc.o rfl).1]; decide
    · rw [hc.nm h2]
      rcases (show k = 2 ∨ k = 3 ∨ k = 4 by omega) with rfl | rfl | rfl <;> decide
end Wd
end Go.Proofs.YtgfnelhbdhbklaaGreat

/- ImageApart: two programs that are not the same have not the same bytes. -/
namespace Go.Proofs.YtgfnelhbdhbklaaGreat
open Go.RowKit
set_option linter.unusedVariables false
set_option maxRecDepth 20000
namespace Wd
/-- a program in a box -/
structure UQ (w : World) (q : Nat) (x0 x1 x2 x3 x4 : Value) (U : UnitA) : Prop where
  c0 : w.cell? ⟨q, 0, none⟩ = some x0
  c1 : w.cell? ⟨q, 1, none⟩ = some x1
  c2 : w.cell? ⟨q, 2, none⟩ = some x2
  c3 : w.cell? ⟨q, 3, none⟩ = some x3
  c4 : w.cell? ⟨q, 4, none⟩ = some x4
  un : UnK w (.agg #[x0, x1, x2, x3, x4]) U
theorem UQ.up {w w1 : World} {q : Nat} {x0 x1 x2 x3 x4 : Value} {U : UnitA} (h : UQ w q x0 x1 x2 x3 x4 U) (b : Below w.heap.size w w1) : UQ w1 q x0 x1 x2 x3 x4 U :=
  ⟨cell_up b h.c0, cell_up b h.c1, cell_up b h.c2, cell_up b h.c3, cell_up b h.c4, h.un.up b⟩
theorem UQ.born {w : World} {x0 x1 x2 x3 x4 : Value} {U : UnitA} (h : UnK w (.agg #[x0, x1, x2, x3, x4]) U) : UQ (w.alloc (.cells #[x0, x1, x2, x3, x4] 27)) w.heap.size x0 x1 x2 x3 x4 U := by
  have e := heap_alloc_new w (.cells #[x0, x1, x2, x3, x4] 27)
  exact ⟨cells_at e rfl, cells_at e rfl, cells_at e rfl, cells_at e rfl, cells_at e rfl, h.up ((Below.refl w.heap.size w).alloc (Nat.le_refl _) _)⟩
theorem UQ.five {w : World} {q : Nat} {x0 x1 x2 x3 x4 : Value} {U : UnitA} (h : UQ w q x0 x1 x2 x3 x4 U) : w.cell? ⟨q, 0, none⟩ = some x0 ∧ w.cell? ⟨q, 1, none⟩ = some x1 ∧ w.cell? ⟨q, 2, none⟩ = some x2 ∧ w.cell? ⟨q, 3, none⟩ = some x3 ∧ w.cell? ⟨q, 4, none⟩ = some x4 := ⟨h.c0, h.c1, h.c2, h.c3, h.c4⟩
set_option maxHeartbeats 32000000 in
theorem iapart_any {w : World} {ad : Option Addr} {n cap : Nat} (HA : NumA w ad n) (hn : n ≤ 4611686018427387904) {ad2 : Option Addr} {n2 cap2 : Nat} (HB : NumA w ad2 n2) (hn2 : n2 ≤ 4611686018427387904) :
    Calls Tryz.prog 6 #[.slice ad n cap, .slice ad2 n2 cap2] w fun e w' => e = .returned (.bool true) ∧ Below w.heap.size w w' := by
  have PU := Lib.hid (unit_c (tape_tp (cap := cap) HA hn))
  replace HB := Lib.hid HB
  clear HA
  go_enter Tryz.func6, Tryz.ntmps6
  go_wp2_with fail
  with_reducible refine PU.out.mono ?_
  rintro e wu ⟨nv, cv, mv, ov, rfl, U, hU, hT, _, hcg, _⟩
  have hBu := unit_bel hcg
  obtain ⟨na, nc, ka, kc, ma, mc, oa, oc, rfl, rfl, rfl, rfl⟩ := UnV.forms hU
  have hk := UnV.k hU hT.main
  have PU2 := Lib.hid (unit_c (tape_tp (cap := cap2) (HB.out.up hBu) hn2))
  have hr := hT.right
  replace hk := Lib.hid hk
  replace hr := Lib.hid hr
  clear PU hcg hU hT
  go_wp2_with fail
  with_reducible refine PU2.out.mono ?_
  rintro e wv ⟨nv, cv, mv, ov, rfl, V, hV, hT2, _, hcg, _⟩
  have hBv := unit_bel hcg
  obtain ⟨pa, pc, qa, qc, ra, rc, sa, sc, rfl, rfl, rfl, rfl⟩ := UnV.forms hV
  have hk2 := UnV.k hV hT2.main
  have hr2 := Lib.hid hT2.right
  clear PU2 hcg hV hT2 HB
  go_upto_region 2 with fail
  have hA0 := UQ.born (hk.out.up hBv)
  have hB0 := UQ.born (w := wv.alloc (.cells #[.slice na U.names.length nc, .slice ka U.classes.length kc, .slice ma U.methods.length mc, .slice oa U.objects.length oc, .int .i64 6] 27)) (hk2.up ((Below.refl wv.heap.size wv).alloc (Nat.le_refl _) _))
  have hA := Lib.hid (hA0.up ((Below.refl (wv.alloc (.cells #[.slice na U.names.length nc, .slice ka U.classes.length kc, .slice ma U.methods.length mc, .slice oa U.objects.length oc, .int .i64 6] 27)).heap.size _).alloc (Nat.le_refl _) (.cells #[.slice pa V.names.length pc, .slice qa V.classes.length qc, .slice ra V.methods.length rc, .slice sa V.objects.length sc, .int .i64 6] 27)))
  simp only [World.size_alloc] at hB0
  have hB := Lib.hid hB0
  have hb := Lib.hid (((hBu.trans (hBv.mono hBu.size)).alloc (Nat.le_trans hBu.size hBv.size) (.cells #[.slice na U.names.length nc, .slice ka U.classes.length kc, .slice ma U.methods.length mc, .slice oa U.objects.length oc, .int .i64 6] 27)).alloc (by simp only [World.size_alloc]; exact Nat.le_succ_of_le (Nat.le_trans hBu.size hBv.size)) (.cells #[.slice pa V.names.length pc, .slice qa V.classes.length qc, .slice ra V.methods.length rc, .slice sa V.objects.length sc, .int .i64 6] 27))
  clear hA0 hB0 hk hk2 hBu hBv
  generalize (wv.alloc (.cells #[.slice na U.names.length nc, .slice ka U.classes.length kc, .slice ma U.methods.length mc, .slice oa U.objects.length oc, .int .i64 6] 27)).alloc (.cells #[.slice pa V.names.length pc, .slice qa V.classes.length qc, .slice ra V.methods.length rc, .slice sa V.objects.length sc, .int .i64 6] 27) = W0 at *
  generalize wv.heap.size + 1 = q1 at *
  generalize wv.heap.size = q0 at *
  obtain ⟨a0, a1, a2, a3, a4⟩ := hA.out.five
  obtain ⟨b0, b1, b2, b3, b4⟩ := hB.out.five
  have P := Lib.hid (ibytes_c hA.out.un)
  go_wp2_with fail
  with_reducible refine P.out.mono ?_
  rintro e1 w1 ⟨h1, _, hb1⟩
  obtain ⟨v', rfl, hrb⟩ := h1 hr.out
  obtain ⟨g, gcap, rfl, gc1, gc2⟩ := hrb.form
  have hbyg := Lib.hid (hrb.byv2 (bytes_bdK hA.out.un))
  replace hA := Lib.hid (hA.out.up hb1)
  replace hB := Lib.hid (hB.out.up hb1)
  replace hb := Lib.hid (hb.out.trans (hb1.mono hb.out.size))
  clear a0 a1 a2 a3 a4 b0 b1 b2 b3 b4 P h1 hrb
  clear hb1
  obtain ⟨a0, a1, a2, a3, a4⟩ := hA.out.five
  obtain ⟨b0, b1, b2, b3, b4⟩ := hB.out.five
  have P := Lib.hid (ibytes_c hB.out.un)
  go_wp2_with fail
  with_reducible refine P.out.mono ?_
  rintro e1 w2 ⟨h1, _, hb2⟩
  obtain ⟨v', rfl, hrb⟩ := h1 hr2.out
  obtain ⟨f, fcap, rfl, fc1, fc2⟩ := hrb.form
  have hbyf := Lib.hid (hrb.byv2 (bytes_bdK hB.out.un))
  replace hA := Lib.hid (hA.out.up hb2)
  replace hB := Lib.hid (hB.out.up hb2)
  replace hb := Lib.hid (hb.out.trans (hb2.mono hb.out.size))
  clear a0 a1 a2 a3 a4 b0 b1 b2 b3 b4 P h1 hrb
  replace hbyg := Lib.hid (hbyg.out.up hb2)
  clear hb2
  obtain ⟨n, hn⟩ : ∃ n, n = (bytesU U).length := ⟨_, rfl⟩
  obtain ⟨m, hm⟩ : ∃ m, m = (bytesU V).length := ⟨_, rfl⟩
  have es : szU U = n := by rw [hn]; exact szU_y hr.out
  have et : ((textOf (bytesU U)).toList == (textOf (bytesU V)).toList) = sameU U V := by
    by_cases e : U = V
    · subst e; rw [bl_eq rfl, sameU_self]
    · rw [sameU_ne e]
      exact bl_ne (fun q => e (bytes_inj hr.out hr2.out (textOf_inj (bytes_bdK hA.out.un) (bytes_bdK hB.out.un) q)))
  rw [← hn] at hbyg gc1
  rw [← hm] at hbyf fc1
  simp only [← hn, ← hm]
  replace hn := Lib.hid hn
  replace hm := Lib.hid hm
  obtain ⟨sb, hsb⟩ : ∃ b, sameU U V = b := ⟨_, rfl⟩
  rw [hsb] at et
  replace hsb := Lib.hid hsb
  go_upto_region 4 with fail
  have hd : Below w2.heap.size w2 w2.drew := (Below.refl _ _).drew
  replace hA := Lib.hid (hA.out.up hd)
  replace hB := Lib.hid (hB.out.up hd)
  replace hbyg := Lib.hid (hbyg.out.up hd)
  replace hbyf := Lib.hid (hbyf.out.up hd)
  replace hb := Lib.hid (hb.out.trans (hd.mono hb.out.size))
  clear hd
  refine wp_region_held_drew (S := (fun y => UQ y q0 (.slice na U.names.length nc) (.slice ka U.classes.length kc) (.slice ma U.methods.length mc) (.slice oa U.objects.length oc) (.int .i64 6) U ∧ UQ y q1 (.slice pa V.names.length pc) (.slice qa V.classes.length qc) (.slice ra V.methods.length rc) (.slice sa V.objects.length sc) (.int .i64 6) V ∧ ByV y (.slice (some ⟨g, 0, none⟩) n gcap) (bytesU U) ∧ ByV y (.slice (some ⟨f, 0, none⟩) m fcap) (bytesU V))) (by kernel_rfl) ?_ (fun hHeld => ?_)
  · (try dsimp only); exact ⟨hA.out, hB.out, hbyg.out, hbyf.out⟩
  try simp only [Act.put, nA]
  generalize w2.drew = y0 at *
  refine tk (i := 0) (oi := ⟨some 29, .move (.tmp 8), 44, "law.go:155", #[], none⟩) (hy := by intro w hSw; (try dsimp only at hSw); obtain ⟨⟨s0, s1, s2, s3, s4, _⟩, ⟨r0, r1, r2, r3, r4, _⟩, s5, s6⟩ := hSw; go_simp <;> with_reducible rfl) ?_
  try simp only [Act.put, nA]
  refine tk (i := 1) (oi := ⟨some 30, .binOp .eql 44 (.tmp 29) (.const (.int .i64 0)) 44, 4, "law.go:155", #[⟨0, .data⟩], none⟩) (hy := by intro w hSw; (try dsimp only at hSw); obtain ⟨⟨s0, s1, s2, s3, s4, _⟩, ⟨r0, r1, r2, r3, r4, _⟩, s5, s6⟩ := hSw; go_simp <;> with_reducible rfl) ?_
  try simp only [Act.put, nA]
  refine tk (i := 2) (oi := ⟨some 31, .move (.tmp 30), 4, "law.go:155", #[⟨1, .data⟩], none⟩) (hy := by intro w hSw; (try dsimp only at hSw); obtain ⟨⟨s0, s1, s2, s3, s4, _⟩, ⟨r0, r1, r2, r3, r4, _⟩, s5, s6⟩ := hSw; go_simp <;> with_reducible rfl) ?_
  try simp only [Act.put, nA]
  refine tk (i := 3) (oi := ⟨some 32, .move (.tmp 10), 44, "law.go:155", #[⟨2, .guard⟩], some (2, true)⟩) (hy := by intro w hSw; (try dsimp only at hSw); obtain ⟨⟨s0, s1, s2, s3, s4, _⟩, ⟨r0, r1, r2, r3, r4, _⟩, s5, s6⟩ := hSw; go_simp <;> with_reducible rfl) ?_
  try simp only [Act.put, nA]
  refine tk (i := 4) (oi := ⟨some 33, .binOp .eql 44 (.tmp 32) (.const (.int .i64 0)) 44, 4, "law.go:155", #[⟨3, .data⟩, ⟨2, .guard⟩], some (2, true)⟩) (hy := by intro w hSw; (try dsimp only at hSw); obtain ⟨⟨s0, s1, s2, s3, s4, _⟩, ⟨r0, r1, r2, r3, r4, _⟩, s5, s6⟩ := hSw; go_simp <;> with_reducible rfl) ?_
  try simp only [Act.put, nA]
  refine tk (i := 5) (oi := ⟨some 34, .pick (.tmp 31) (.tmp 33) (.const (.bool false)), 4, "law.go:155", #[⟨2, .data⟩, ⟨4, .data⟩], none⟩) (hy := by intro w hSw; (try dsimp only at hSw); obtain ⟨⟨s0, s1, s2, s3, s4, _⟩, ⟨r0, r1, r2, r3, r4, _⟩, s5, s6⟩ := hSw; go_simp <;> with_reducible rfl) ?_
  try simp only [Act.put, nA]
  refine tk (i := 6) (oi := ⟨some 35, .move (.tmp 34), 4, "law.go:155", #[⟨5, .data⟩, ⟨2, .chain⟩], none⟩) (hy := by intro w hSw; (try dsimp only at hSw); obtain ⟨⟨s0, s1, s2, s3, s4, _⟩, ⟨r0, r1, r2, r3, r4, _⟩, s5, s6⟩ := hSw; go_simp <;> with_reducible rfl) ?_
  try simp only [Act.put, nA]
  refine tk (i := 7) (oi := ⟨some 36, .move (.tmp 7), 36, "law.go:155", #[⟨6, .guard⟩], some (6, true)⟩) (hy := by intro w hSw; (try dsimp only at hSw); obtain ⟨⟨s0, s1, s2, s3, s4, _⟩, ⟨r0, r1, r2, r3, r4, _⟩, s5, s6⟩ := hSw; go_simp <;> with_reducible rfl) ?_
  try simp only [Act.put, nA]
  refine tk (i := 9) (oi := ⟨some 38, .move (.tmp 9), 36, "law.go:155", #[⟨6, .guard⟩], some (6, true)⟩) (hy := by intro w hSw; (try dsimp only at hSw); obtain ⟨⟨s0, s1, s2, s3, s4, _⟩, ⟨r0, r1, r2, r3, r4, _⟩, s5, s6⟩ := hSw; go_simp <;> with_reducible rfl) ?_
  try simp only [Act.put, nA]
  refine tk (i := 12) (oi := ⟨some 41, .load 27 (.tmp 5), 27, "law.go:155", #[⟨6, .guard⟩], some (6, true)⟩) (hy := by intro w hSw; (try dsimp only at hSw); obtain ⟨⟨s0, s1, s2, s3, s4, _⟩, ⟨r0, r1, r2, r3, r4, _⟩, s5, s6⟩ := hSw; go_simp <;> with_reducible rfl) ?_
  try simp only [Act.put, nA]
  refine tk (i := 13) (oi := ⟨some 42, .load 27 (.tmp 6), 27, "law.go:155", #[⟨6, .guard⟩], some (6, true)⟩) (hy := by intro w hSw; (try dsimp only at hSw); obtain ⟨⟨s0, s1, s2, s3, s4, _⟩, ⟨r0, r1, r2, r3, r4, _⟩, s5, s6⟩ := hSw; go_simp <;> with_reducible rfl) ?_
  try simp only [Act.put, nA]
  refine tk (i := 8) (oi := ⟨some 37, .convert 36 9 (.tmp 36), 9, "law.go:155", #[⟨7, .data⟩, ⟨6, .guard⟩], some (6, true)⟩) (hy := by intro w hSw; (try dsimp only at hSw); obtain ⟨⟨s0, s1, s2, s3, s4, _⟩, ⟨r0, r1, r2, r3, r4, _⟩, s5, s6⟩ := hSw; have s8 := by_text s5; go_simp <;> with_reducible rfl) ?_
  try simp only [Act.put, nA]
  refine tk (i := 10) (oi := ⟨some 39, .convert 36 9 (.tmp 38), 9, "law.go:155", #[⟨9, .data⟩, ⟨6, .guard⟩], some (6, true)⟩) (hy := by intro w hSw; (try dsimp only at hSw); obtain ⟨⟨s0, s1, s2, s3, s4, _⟩, ⟨r0, r1, r2, r3, r4, _⟩, s5, s6⟩ := hSw; have s8 := by_text s6; go_simp <;> with_reducible rfl) ?_
  try simp only [Act.put, nA]
  refine tk (i := 11) (oi := ⟨some 40, .binOp .eql 9 (.tmp 37) (.tmp 39) 9, 4, "law.go:155", #[⟨8, .data⟩, ⟨10, .data⟩, ⟨6, .guard⟩], some (6, true)⟩) (hy := by intro w hSw; (try dsimp only at hSw); obtain ⟨⟨s0, s1, s2, s3, s4, _⟩, ⟨r0, r1, r2, r3, r4, _⟩, s5, s6⟩ := hSw; go_simp <;> with_reducible rfl) ?_
  try simp only [Act.put, nA]
  refine wpAnyH_ready (rs := [14]) (by kernel_rfl) (by simp) ?_
  refine AllReadyH.cons (o := ⟨some 43, .call { callee := .value (.func 19), args := #[.tmp 41, .tmp 42], argTypes := #[27, 27] }, 4, "law.go:155", #[⟨12, .data⟩, ⟨13, .data⟩, ⟨6, .chain⟩, ⟨6, .guard⟩], some (6, true)⟩) rfl (fun K9 hK => ?_) AllReadyH.nil
  go_simp
  with_reducible refine (rsame_c hA.out.un hB.out.un).mono ?_
  rintro e y1 ⟨rfl, hb8⟩
  have es1 : sameU U V = sb := hsb.out
  rw [es1]
  replace hA := Lib.hid (hA.out.up hb8)
  replace hB := Lib.hid (hB.out.up hb8)
  replace hbyg := Lib.hid (hbyg.out.up hb8)
  replace hbyf := Lib.hid (hbyf.out.up hb8)
  replace hb := Lib.hid (hb.out.trans (hb8.mono hb.out.size))
  clear hb8
  go_wp2_with fail
  refine hK.out _ _ ?_ ?_
  · (try dsimp only); exact ⟨hA.out, hB.out, hbyg.out, hbyf.out⟩
  clear hK K9 hHeld; intro hHeld
  try simp only [Act.put, nA]
  refine tk (i := 15) (oi := ⟨some 44, .binOp .eql 4 (.tmp 40) (.tmp 43) 4, 4, "law.go:155", #[⟨11, .data⟩, ⟨14, .data⟩, ⟨6, .guard⟩], some (6, true)⟩) (hy := by intro w hSw; (try dsimp only at hSw); obtain ⟨⟨s0, s1, s2, s3, s4, _⟩, ⟨r0, r1, r2, r3, r4, _⟩, s5, s6⟩ := hSw; go_simp <;> with_reducible rfl) ?_
  try simp only [Act.put, nA]
  refine tk (i := 16) (oi := ⟨some 45, .pick (.tmp 35) (.tmp 44) (.const (.bool false)), 4, "law.go:155", #[⟨6, .data⟩, ⟨15, .data⟩], none⟩) (hy := by intro w hSw; (try dsimp only at hSw); obtain ⟨⟨s0, s1, s2, s3, s4, _⟩, ⟨r0, r1, r2, r3, r4, _⟩, s5, s6⟩ := hSw; go_simp <;> with_reducible rfl) ?_
  try simp only [Act.put, nA]
  refine tk (i := 17) (oi := ⟨some 46, .move (.tmp 45), 4, "law.go:155", #[⟨16, .data⟩, ⟨14, .chain⟩], none⟩) (hy := by intro w hSw; (try dsimp only at hSw); obtain ⟨⟨s0, s1, s2, s3, s4, _⟩, ⟨r0, r1, r2, r3, r4, _⟩, s5, s6⟩ := hSw; go_simp <;> with_reducible rfl) ?_
  try simp only [Act.put, nA]
  refine tk (i := 18) (oi := ⟨some 47, .load 27 (.tmp 5), 27, "law.go:155", #[⟨17, .guard⟩], some (17, true)⟩) (hy := by intro w hSw; (try dsimp only at hSw); obtain ⟨⟨s0, s1, s2, s3, s4, _⟩, ⟨r0, r1, r2, r3, r4, _⟩, s5, s6⟩ := hSw; go_simp <;> with_reducible rfl) ?_
  try simp only [Act.put, nA]
  refine tk (i := 20) (oi := ⟨some 49, .move (.tmp 7), 36, "law.go:155", #[⟨17, .guard⟩], some (17, true)⟩) (hy := by intro w hSw; (try dsimp only at hSw); obtain ⟨⟨s0, s1, s2, s3, s4, _⟩, ⟨r0, r1, r2, r3, r4, _⟩, s5, s6⟩ := hSw; go_simp <;> with_reducible rfl) ?_
  try simp only [Act.put, nA]
  refine tk (i := 21) (oi := ⟨some 50, .call { callee := .builtin .len, args := #[.tmp 49], argTypes := #[36] }, 3, "law.go:155", #[⟨20, .data⟩, ⟨17, .guard⟩], some (17, true)⟩) (hy := by intro w hSw; (try dsimp only at hSw); obtain ⟨⟨s0, s1, s2, s3, s4, _⟩, ⟨r0, r1, r2, r3, r4, _⟩, s5, s6⟩ := hSw; go_simp <;> with_reducible rfl) ?_
  try simp only [Act.put, nA]
  refine wpAnyH_ready (rs := [19]) (by kernel_rfl) (by simp) ?_
  refine AllReadyH.cons (o := ⟨some 48, .call { callee := .value (.func 20), args := #[.tmp 47], argTypes := #[27] }, 3, "law.go:155", #[⟨18, .data⟩, ⟨17, .chain⟩, ⟨17, .guard⟩], some (17, true)⟩) rfl (fun K9 hK => ?_) AllReadyH.nil
  go_simp
  with_reducible refine (isize_c hA.out.un).mono ?_
  rintro e y2 ⟨rfl, hb9⟩
  rw [es]
  replace hA := Lib.hid (hA.out.up hb9)
  replace hB := Lib.hid (hB.out.up hb9)
  replace hbyg := Lib.hid (hbyg.out.up hb9)
  replace hbyf := Lib.hid (hbyf.out.up hb9)
  replace hb := Lib.hid (hb.out.trans (hb9.mono hb.out.size))
  clear hb9
  go_wp2_with fail
  refine hK.out _ _ ?_ ?_
  · (try dsimp only); exact ⟨hA.out, hB.out, hbyg.out, hbyf.out⟩
  clear hK K9 hHeld; intro hHeld
  try simp only [Act.put, nA]
  refine tk (i := 22) (oi := ⟨some 51, .binOp .eql 3 (.tmp 48) (.tmp 50) 3, 4, "law.go:155", #[⟨19, .data⟩, ⟨21, .data⟩, ⟨17, .guard⟩], some (17, true)⟩) (hy := by intro w hSw; (try dsimp only at hSw); obtain ⟨⟨s0, s1, s2, s3, s4, _⟩, ⟨r0, r1, r2, r3, r4, _⟩, s5, s6⟩ := hSw; go_simp <;> with_reducible rfl) ?_
  try simp only [Act.put, nA]
  refine tk (i := 23) (oi := ⟨some 52, .pick (.tmp 46) (.tmp 51) (.const (.bool false)), 4, "law.go:155", #[⟨17, .data⟩, ⟨22, .data⟩], none⟩) (hy := by intro w hSw; (try dsimp only at hSw); obtain ⟨⟨s0, s1, s2, s3, s4, _⟩, ⟨r0, r1, r2, r3, r4, _⟩, s5, s6⟩ := hSw; go_simp <;> with_reducible rfl) ?_
  try simp only [Act.put, nA]
  refine tk (i := 24) (oi := ⟨some 53, .move (.tmp 52), 4, "law.go:155", #[⟨23, .data⟩, ⟨19, .chain⟩], none⟩) (hy := by intro w hSw; (try dsimp only at hSw); obtain ⟨⟨s0, s1, s2, s3, s4, _⟩, ⟨r0, r1, r2, r3, r4, _⟩, s5, s6⟩ := hSw; go_simp <;> with_reducible rfl) ?_
  try simp only [Act.put, nA]
  refine wpAnyH_ready (rs := [25]) (by kernel_rfl) (by simp) ?_
  refine AllReadyH.cons (o := ⟨some 54, .call { callee := .value (.func 14), args := #[], argTypes := #[] }, 4, "law.go:155", #[⟨24, .chain⟩, ⟨24, .guard⟩], some (24, true)⟩) rfl (fun K9 hK => ?_) AllReadyH.nil
  go_simp
  with_reducible refine (iknown_c _).mono ?_
  rintro e y3 ⟨rfl, hb10⟩
  replace hA := Lib.hid (hA.out.up hb10)
  replace hB := Lib.hid (hB.out.up hb10)
  replace hbyg := Lib.hid (hbyg.out.up hb10)
  replace hbyf := Lib.hid (hbyf.out.up hb10)
  replace hb := Lib.hid (hb.out.trans (hb10.mono hb.out.size))
  clear hb10
  go_wp2_with fail
  refine hK.out _ _ ?_ ?_
  · (try dsimp only); exact ⟨hA.out, hB.out, hbyg.out, hbyf.out⟩
  clear hK K9 hHeld; intro hHeld
  try simp only [Act.put, nA]
  refine tk (i := 26) (oi := ⟨some 55, .pick (.tmp 53) (.tmp 54) (.const (.bool false)), 4, "law.go:155", #[⟨24, .data⟩, ⟨25, .data⟩], none⟩) (hy := by intro w hSw; (try dsimp only at hSw); obtain ⟨⟨s0, s1, s2, s3, s4, _⟩, ⟨r0, r1, r2, r3, r4, _⟩, s5, s6⟩ := hSw; go_simp <;> with_reducible rfl) ?_
  try simp only [Act.put, nA]
  refine tk (i := 27) (oi := ⟨some 4, .assign (.tmp 55), 4, "law.go:155", #[⟨26, .data⟩, ⟨25, .chain⟩, ⟨0, .phase⟩, ⟨1, .phase⟩, ⟨2, .phase⟩, ⟨3, .phase⟩, ⟨4, .phase⟩, ⟨5, .phase⟩, ⟨6, .phase⟩, ⟨7, .phase⟩, ⟨8, .phase⟩, ⟨9, .phase⟩, ⟨10, .phase⟩, ⟨11, .phase⟩, ⟨12, .phase⟩, ⟨13, .phase⟩, ⟨14, .phase⟩, ⟨15, .phase⟩, ⟨16, .phase⟩, ⟨17, .phase⟩, ⟨18, .phase⟩, ⟨19, .phase⟩, ⟨20, .phase⟩, ⟨21, .phase⟩, ⟨22, .phase⟩, ⟨23, .phase⟩, ⟨24, .phase⟩, ⟨25, .phase⟩, ⟨26, .phase⟩], none⟩) (hy := by intro w hSw; (try dsimp only at hSw); obtain ⟨⟨s0, s1, s2, s3, s4, _⟩, ⟨r0, r1, r2, r3, r4, _⟩, s5, s6⟩ := hSw; go_simp <;> with_reducible rfl) ?_
  try simp only [Act.put, nA]
  refine wpAnyH_done (by kernel_rfl) ?_ _
  go_wp2
  go_ret
  exact ⟨rfl, hb.out⟩
end Wd
end Go.Proofs.YtgfnelhbdhbklaaGreat

/- ImageBack: what is read of a program's bytes is the program; fewer bytes, or more, are no program. -/
namespace Go.Proofs.YtgfnelhbdhbklaaGreat
open Go.RowKit
set_option linter.unusedVariables false
set_option maxRecDepth 20000
namespace Wd
theorem unL_body_more {U : UnitA} (h : Fit U) (Z : List Int) : unL (bodyU U ++ Z, false) = (U, (Z, false)) := by
  unfold unL bodyU
  rw [List.append_assoc, List.append_assoc, List.append_assoc, List.append_assoc, rowL_rowB U.names _ (fun s hs L => nmL_txt s L (h.ns s hs)) h.nn]
  simp only
  rw [rowL_rowB U.classes _ (fun c hc L => clL_clB (h.cs c hc) L) h.nc]
  simp only
  rw [rowL_rowB U.methods _ (fun c hc L => mtL_mtB (h.ms c hc) L) h.nm]
  simp only
  rw [rowL_rowB U.objects _ (fun c hc L => obL_obB (h.os c hc) L) h.no]
  simp only
  rw [numL_b4 h.mn Z]
/-- no program's bytes begin with another's -/
theorem no_more {U V : UnitA} (hu : unitR U = 0) (hv : unitR V = 0) {Z : List Int} (h : bytesU U = bytesU V ++ Z) : Z = [] := by
  have e : bodyU U = bodyU V ++ Z := by
    unfold bytesU at h
    rw [List.append_assoc] at h
    exact List.append_cancel_left h
  have a := unL_body (right_u hu).fit
  rw [e, unL_body_more (right_u hv).fit] at a
  exact (Prod.mk.inj (Prod.mk.inj a).2).1
theorem cut_no {V : UnitA} (hv : unitR V = 0) {k : Nat} (hk : k < (bytesU V).length) : ∀ U, ¬ Good ((bytesU V).take k) U := fun U g => by
  have h : bytesU V = bytesU U ++ (bytesU V).drop k := by rw [g.2, List.take_append_drop]
  have := congrArg List.length (no_more hv g.1 h)
  rw [List.length_drop] at this
  simp at this
  omega
theorem more_no {V : UnitA} (hv : unitR V = 0) {x : Int} : ∀ U, ¬ Good (bytesU V ++ [x]) U := fun U g => by
  have := no_more g.1 hv (g.2)
  cases this
theorem cut_err {V : UnitA} (hv : unitR V = 0) {k : Nat} : errB ((bytesU V).take k) = 12 := errB_short (by
  have := bytes_le (right_u hv)
  rw [List.length_take]; omega)
theorem bys_1 {w : World} {g : Nat} {x : Int} (h : w.cell? ⟨g, 0, none⟩ = some (.int .u8 x)) : ∀ j u, (bys [x])[j]? = some u → w.cell? ((⟨g, 0, none⟩ : Addr).add j) = some u := by
  intro j u hj
  have hl := (List.getElem?_eq_some_iff.1 hj).1
  simp only [bys, List.map_cons, List.map_nil, List.length_cons, List.length_nil] at hl
  obtain rfl : j = 0 := by omega
  simp only [bys, List.map_cons, List.map_nil, List.getElem?_cons_zero] at hj
  obtain rfl := Option.some.inj hj
  rw [Addr.add_lit]
  exact h
theorem more_err {V : UnitA} (hv : unitR V = 0) {x : Int} : errB (bytesU V ++ [x]) = 12 := errB_short (by
  have := bytes_le (right_u hv)
  rw [List.length_append]; simp; omega)
set_option maxHeartbeats 32000000 in
theorem iback_any {w : World} {ad : Option Addr} {n0 cap : Nat} (HA : NumA w ad n0) (hn : n0 ≤ 4611686018427387904) {ik im : Int} (k1 : -9223372036854775808 ≤ ik) (k2 : ik ≤ 9223372036854775807) (m1 : 0 ≤ im) (m2 : im ≤ 255) :
    Calls Tryz.prog 5 #[.slice ad n0 cap, .int .i64 ik, .int .u8 im] w fun e w' => e = .returned (.bool true) ∧ Below w.heap.size w w' := by
  have PU := Lib.hid (unit_c (tape_tp (cap := cap) HA hn))
  clear HA
  go_enter Tryz.func5, Tryz.ntmps5
  go_wp2_with fail
  with_reducible refine PU.out.mono ?_
  rintro e wu ⟨nv, cv, mv, ov, rfl, U, hU, hT, _, hcg, _⟩
  have hBu := unit_bel hcg
  obtain ⟨na, nc, ka, kc, ma, mc, oa, oc, rfl, rfl, rfl, rfl⟩ := UnV.forms hU
  have hk := UnV.k hU hT.main
  have hr := Lib.hid hT.right
  replace hk := Lib.hid hk
  clear PU hcg hU hT
  go_upto_region 2 with fail
  have hA := Lib.hid (UQ.born hk.out)
  have hb := Lib.hid (hBu.alloc hBu.size (.cells #[.slice na U.names.length nc, .slice ka U.classes.length kc, .slice ma U.methods.length mc, .slice oa U.objects.length oc, .int .i64 6] 27))
  clear hk hBu
  generalize wu.alloc (.cells #[.slice na U.names.length nc, .slice ka U.classes.length kc, .slice ma U.methods.length mc, .slice oa U.objects.length oc, .int .i64 6] 27) = W0 at *
  generalize wu.heap.size = q0 at *
  obtain ⟨a0, a1, a2, a3, a4⟩ := hA.out.five
  have P := Lib.hid (ibytes_c hA.out.un)
  go_wp2_with fail
  with_reducible refine P.out.mono ?_
  rintro e1 w1 ⟨h1, _, hb1⟩
  obtain ⟨v', rfl, hrb⟩ := h1 hr.out
  obtain ⟨g, gcap, rfl, gc1, gc2⟩ := hrb.form
  have hgb : w.heap.size ≤ g := by
    have h2 := (hrb.lt g rfl).1
    have := hb.out.size
    omega
  have hbd := Lib.hid (bytes_bdK hA.out.un)
  replace hA := Lib.hid (hA.out.up hb1)
  replace hb := Lib.hid (hb.out.trans (hb1.mono hb.out.size))
  have hz : W0.heap.size + 1 ≤ w1.heap.size := by
    have := (hrb.lt g rfl)
    omega
  obtain ⟨base, hbase⟩ : ∃ b, b = W0.heap.size + 1 := ⟨_, rfl⟩
  rw [← hbase] at hrb hz
  obtain ⟨n, hn'⟩ : ∃ n, n = (bytesU U).length := ⟨_, rfl⟩
  have hnl : n ≤ 31768 := by rw [hn']; exact bytes_le (right_u hr.out)
  have hn5 : 5 ≤ n := by
    rw [hn']
    unfold bytesU bodyU
    simp only [List.length_append, b4_len]
    simp
    omega
  rw [← hn'] at gc1
  simp only [← hn']
  replace hn' := Lib.hid hn'
  replace hrb := Lib.hid hrb
  clear a0 a1 a2 a3 a4 P h1 hb1 hbase
  have hby := Lib.hid (hrb.out.byv2 hbd.out)
  have hG : Good (bytesU U) U := ⟨hr.out, rfl⟩
  replace hG := Lib.hid hG
  rw [← hn'.out] at hby
  have P := Lib.hid (iread_c hby.out (slF_some ..))
  go_wp2_with fail
  with_reducible refine P.out.mono ?_
  rintro e1 w2 ⟨h1, hb2⟩
  obtain ⟨pa, pc, qa, qc, ra, rc, sa, sc, rfl, hk⟩ := rdA_good h1 hG.out
  have hsz2 := hb2.size
  replace hrb := Lib.hid (hrb.out.kept (fun k h => hb2.block k (hrb.out.lt k h).2))
  replace hA := Lib.hid (hA.out.up hb2)
  replace hb := Lib.hid (hb.out.trans (hb2.mono hb.out.size))
  clear P h1 hb2 hby
  obtain ⟨Z, hZ⟩ : ∃ Z, Z = U.main := ⟨_, rfl⟩
  rw [← hZ] at hk
  simp only [← hZ]
  clear hZ
  go_upto_region 4 with fail
  have hx := (Below.refl w2.heap.size w2).alloc (Nat.le_refl _) (.cells #[.slice pa U.names.length pc, .slice qa U.classes.length qc, .slice ra U.methods.length rc, .slice sa U.objects.length sc, .int .i64 Z] 27)
  have hB := Lib.hid (UQ.born hk)
  replace hrb := Lib.hid (hrb.out.kept (fun k h => hx.block k (hrb.out.lt k h).2))
  replace hA := Lib.hid (hA.out.up hx)
  replace hb := Lib.hid (hb.out.trans (hx.mono hb.out.size))
  have hsx := hx.size
  clear hk hx
  generalize w2.alloc (.cells #[.slice pa U.names.length pc, .slice qa U.classes.length qc, .slice ra U.methods.length rc, .slice sa U.objects.length sc, .int .i64 Z] 27) = W2 at *
  generalize w2.heap.size = q1 at *
  obtain ⟨a0, a1, a2, a3, a4⟩ := hA.out.five
  obtain ⟨b0, b1, b2, b3, b4⟩ := hB.out.five
  have P := Lib.hid (ibytes_c hB.out.un)
  go_wp2_with fail
  with_reducible refine P.out.mono ?_
  rintro e1 w3 ⟨h1, _, hb3⟩
  obtain ⟨v', rfl, hrb2⟩ := h1 hr.out
  obtain ⟨f, fcap, rfl, fc1, fc2⟩ := hrb2.form
  have hby2 := Lib.hid (hrb2.byv2 hbd.out)
  have hsz3 := hb3.size
  replace hrb := Lib.hid (hrb.out.kept (fun k h => hb3.block k (hrb.out.lt k h).2))
  replace hA := Lib.hid (hA.out.up hb3)
  replace hB := Lib.hid (hB.out.up hb3)
  replace hb := Lib.hid (hb.out.trans (hb3.mono hb.out.size))
  clear a0 a1 a2 a3 a4 b0 b1 b2 b3 b4 P h1 hb3 hrb2
  rw [← hn'.out] at hby2 fc1
  simp only [← hn'.out]
  have hz3 : base ≤ w3.heap.size := by omega
  clear hz hsz2 hsx hsz3
  obtain ⟨a0, a1, a2, a3, a4⟩ := hA.out.five
  obtain ⟨b0, b1, b2, b3, b4⟩ := hB.out.five
  have et : ((textOf (bytesU U)).toList == (textOf (bytesU U)).toList) = true := bl_eq rfl
  have PS := Lib.hid (rsame_c hA.out.un hB.out.un)
  have es : sameU U U = true := sameU_self U
  have hd5 : decide ((n : Int) < 5) = false := by simp; omega
  have hby := Lib.hid (hrb.out.byv2 hbd.out)
  rw [← hn'.out] at hby
  replace hn5 := Lib.hid hn5
  go_upto_region 6 with (first | (go_at_call 19; ((with_reducible refine PS.out.mono ?_); rintro e1 w4 ⟨rfl, hb4⟩; rw [es]; have hbyA := hby.out.up hb4; have hbyB := hby2.out.up hb4; have PT1 := by_text hbyA; have PT2 := by_text hbyB)))
  have hz4 : base ≤ w4.heap.size := Nat.le_trans hz3 hb4.size
  replace hrb := Lib.hid (hrb.out.kept (fun k h => hb4.block k (hrb.out.lt k h).2))
  replace hb := Lib.hid (hb.out.trans (hb4.mono hb.out.size))
  clear PT1 PT2 hbyB hby hby2 a0 a1 a2 a3 a4 b0 b1 b2 b3 b4 hA hB PS hb4 hz3 et es hd5
  replace hn5 := hn5.out
  have hk0 := within_bd ik 0 ((n : Int) - 1) (by omega)
  have PW := fun w => within_c ik 0 ((n : Int) - 1) k1 k2 (by omega) (by omega) (by omega) w
  obtain ⟨kk, hkk⟩ : ∃ k : Nat, within ik 0 ((n : Int) - 1) = (k : Int) := ⟨_, (Int.toNat_of_nonneg hk0.1).symm⟩
  rw [hkk] at hk0
  have hkn : kk < n := by omega
  simp only [hkk] at PW
  replace PW := Lib.hid PW
  have hkc : kk ≤ gcap := by omega
  have hbyT := Lib.hid (ByV.take hbyA kk (by rw [← hn'.out]; omega))
  have nT : ∀ V, ¬ Good ((bytesU U).take kk) V := cut_no hr.out (by rw [← hn'.out]; exact hkn)
  have eT : errB ((bytesU U).take kk) = 12 := cut_err hr.out
  have PR := Lib.hid (iread_c hbyT.out (slF_some ..))
  replace nT := Lib.hid nT
  clear hbyA hbyT hk0 hkk
  go_wp2_with (first | (go_at_call 15; ((with_reducible refine (PW.out _).mono ?_); rintro e1 w5 ⟨rfl, hw5⟩; subst hw5)))
  with_reducible refine PR.out.mono ?_
  rintro e1 w6 ⟨h1, hb6⟩
  obtain rfl := rdA_none h1 nT.out
  rw [eT]
  have hz6 := Nat.le_trans hz4 hb6.size
  replace hrb := Lib.hid (hrb.out.kept (fun k h => hb6.block k (hrb.out.lt k h).2))
  replace hb := Lib.hid (hb.out.trans (hb6.mono hb.out.size))
  clear h1 hb6 PR nT eT hz4 PW
  go_upto_region 8 with fail
  have hx := (Below.refl w6.heap.size w6).alloc (Nat.le_refl _) (.cells #[.slice none 0 0, .slice none 0 0, .slice none 0 0, .slice none 0 0, .int .i64 0] 27)
  have hz7 := Nat.le_trans hz6 hx.size
  have hrb7 := hrb.out.kept (fun k h => hx.block k (hrb.out.lt k h).2)
  replace hb := Lib.hid (hb.out.trans (hx.mono hb.out.size))
  clear hrb hz6 hx
  generalize w6.alloc (.cells #[.slice none 0 0, .slice none 0 0, .slice none 0 0, .slice none 0 0, .int .i64 0] 27) = W7 at *
  generalize w6.heap.size = q2 at *
  rw [← hn'.out] at hrb7
  have hbl := bys_ln (bytesU U)
  rw [← hn'.out] at hbl
  obtain ⟨i0, hi0, hz0, hz1, hz2⟩ := info_parts infoB8
  have hmx : 2000000000 ≤ maxLen := by decide
  have hrb8 := Lib.hid (hrb7.kept (fun k hk => ((Below.refl W7.heap.size W7).alloc (Nat.le_refl _) (.cells #[.int .u8 im] 5)).block k (hrb7.lt k hk).2))
  have hw7 := hb.out.size
  replace hb := Lib.hid (hb.out.alloc hb.out.size (.cells #[.int .u8 im] 5))
  clear hrb7
  go_wp2_with (first | (at_builtin; refine wpList_app_rb rfl (.tmp 77) (.tmp 79) 36 rfl base 5 i0 (.int .u8 0) Tryz.underlying36 hi0 hz0 hz1 hz2 rfl (.slice (some ⟨g, 0, none⟩) n gcap) (bys (bytesU U)) (by simp [Act.eval]) hrb8.out ⟨W7.heap.size, 0, none⟩ 1 1 (bys [im]) (by simp [Act.eval]) (by simp [bys]) (bys_1 ((World.cell?_alloc_new _ _ _ 0).trans rfl)) (bys_one _) (by omega) (by omega) (by simp only [World.size_alloc]; omega) ?_; intro v1 w8 hown1 hgrow1 hat1))
  rw [← bys_cat] at hown1
  have hbd2 : Bd8 (bytesU U ++ [im]) := fun x hx => by
    rcases List.mem_append.1 hx with h | h
    · exact hbd.out x h
    · rw [List.mem_singleton] at h; subst h; exact ⟨m1, m2⟩
  have hby := hown1.byv2 hbd2
  obtain ⟨f', fcap', rfl, gc1', gc2'⟩ := hown1.form
  replace hb := Lib.hid (hb.out.grown hgrow1 (by simp only [World.size_alloc]; exact Nat.le_trans (by omega) (Nat.le_succ _)) (fun k hk => by cases hk; exact hgb))
  have nT := more_no hr.out (x := im)
  have eT := more_err hr.out (x := im)
  clear hat1 hown1 hgrow1 hrb8
  have PR := Lib.hid (iread_c hby (slF_some ..))
  replace nT := Lib.hid nT
  clear hby hbd2
  with_reducible refine PR.out.mono ?_
  rintro e1 w9 ⟨h1, hb9⟩
  obtain rfl := rdA_none h1 nT.out
  rw [eT]
  replace hb := Lib.hid (hb.out.trans (hb9.mono hb.out.size))
  clear h1 hb9 PR nT eT
  go_upto_region 9 with fail
  replace hb := Lib.hid (hb.out.alloc hb.out.size (.cells #[.slice none 0 0, .slice none 0 0, .slice none 0 0, .slice none 0 0, .int .i64 0] 27))
  generalize w9.alloc (.cells #[.slice none 0 0, .slice none 0 0, .slice none 0 0, .slice none 0 0, .int .i64 0] 27) = W9 at *
  have PK := Lib.hid (iknown_c W9)
  go_wp2_with (first | (go_at_call 14; ((with_reducible refine PK.out.mono ?_); rintro e1 w10 ⟨rfl, hb10⟩; replace hb := Lib.hid (hb.out.trans (hb10.mono hb.out.size)))))
  go_ret
  exact ⟨rfl, hb.out⟩
end Wd
end Go.Proofs.YtgfnelhbdhbklaaGreat
