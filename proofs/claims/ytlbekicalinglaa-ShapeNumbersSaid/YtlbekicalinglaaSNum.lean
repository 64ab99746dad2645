/- ShapeNumbers, over what the laws ask of the package. -/
import Derived.Test.YtlbekicalinglaaSTapeN
import Derived.Test.YtlbekicalinglaaSTells
namespace Go.Proofs.Ytlbekicalinglaa
open Go.RowKit
set_option linter.unusedVariables false
set_option maxRecDepth 20000
namespace Wd
theorem conv_i (i : Nat) (hi : i < 14) (w : World) : Sem.run Try.prog (convert 3 21 (.int .i64 (97 + (i : Int)))) w = .ok (.int .i32 (97 + (i : Int))) w := by
  rcases (show i = 0 ∨ i = 1 ∨ i = 2 ∨ i = 3 ∨ i = 4 ∨ i = 5 ∨ i = 6 ∨ i = 7 ∨ i = 8 ∨ i = 9 ∨ i = 10 ∨ i = 11 ∨ i = 12 ∨ i = 13 by omega) with rfl | rfl | rfl | rfl | rfl | rfl | rfl | rfl | rfl | rfl | rfl | rfl | rfl | rfl <;> kernel_rfl
def kName (i : Nat) : ByteArray := ⟨#[UInt8.ofNat (97 + i)]⟩
def kkName (i : Nat) : ByteArray := ⟨#[75, UInt8.ofNat (97 + i)]⟩
theorem conv_s (i : Nat) (hi : i < 14) (w : World) : Sem.run Try.prog (convert 21 9 (.int .i32 (97 + (i : Int)))) w = .ok (.string (kName i)) w := by
  rcases (show i = 0 ∨ i = 1 ∨ i = 2 ∨ i = 3 ∨ i = 4 ∨ i = 5 ∨ i = 6 ∨ i = 7 ∨ i = 8 ∨ i = 9 ∨ i = 10 ∨ i = 11 ∨ i = 12 ∨ i = 13 by omega) with rfl | rfl | rfl | rfl | rfl | rfl | rfl | rfl | rfl | rfl | rfl | rfl | rfl | rfl <;> kernel_rfl
theorem cat_s (i : Nat) (hi : i < 14) (w : World) : Sem.run Try.prog (binOp .add 9 (.string ⟨#[75]⟩) (.string (kName i))) w = .ok (.string (kkName i)) w := by
  rcases (show i = 0 ∨ i = 1 ∨ i = 2 ∨ i = 3 ∨ i = 4 ∨ i = 5 ∨ i = 6 ∨ i = 7 ∨ i = 8 ∨ i = 9 ∨ i = 10 ∨ i = 11 ∨ i = 12 ∨ i = 13 by omega) with rfl | rfl | rfl | rfl | rfl | rfl | rfl | rfl | rfl | rfl | rfl | rfl | rfl | rfl <;> kernel_rfl
/-- the numbers that are tried -/
def n14 : List Int := [-2, -1, 0, 1, 2, 3, 5, 15, 16, 17, 31, 62, 63, 4611686018427387904]
theorem n14_in : ∀ x ∈ n14, In64 x := by
  intro x hx
  unfold n14 at hx
  simp only [List.mem_cons, List.not_mem_nil, or_false] at hx
  rcases hx with rfl | rfl | rfl | rfl | rfl | rfl | rfl | rfl | rfl | rfl | rfl | rfl | rfl | rfl <;> exact ⟨by omega, by omega⟩
theorem born14 (w : World) {j : Nat} {x : Int} (h : n14[j]? = some x) : (w.alloc (.cells #[.int .i64 (-2), .int .i64 (-1), .int .i64 0, .int .i64 1, .int .i64 2, .int .i64 3, .int .i64 5, .int .i64 15, .int .i64 16, .int .i64 17, .int .i64 31, .int .i64 62, .int .i64 63, .int .i64 4611686018427387904] 3)).cell? ⟨w.heap.size, j, none⟩ = some (.int .i64 x) := by
  have hj := (List.getElem?_eq_some_iff.1 h).1
  have hj' : j < 14 := hj
  rcases (show j = 0 ∨ j = 1 ∨ j = 2 ∨ j = 3 ∨ j = 4 ∨ j = 5 ∨ j = 6 ∨ j = 7 ∨ j = 8 ∨ j = 9 ∨ j = 10 ∨ j = 11 ∨ j = 12 ∨ j = 13 by omega) with rfl | rfl | rfl | rfl | rfl | rfl | rfl | rfl | rfl | rfl | rfl | rfl | rfl | rfl <;> (cases h; simp)
theorem n14_at {j : Nat} (h : j < 14) : ∃ x, n14[j]? = some x := by
  cases hh : n14[j]? with
  | some x => exact ⟨x, rfl⟩
  | none =>
    have h1 := List.getElem?_eq_none_iff.1 hh
    have h2 : n14.length = 14 := rfl
    omega
theorem round3 (w : World) : ClV (w.alloc (.cells #[.string ⟨#[97]⟩, .int .i64 1, .int .i64 4, .slice none 0 0, .string ⟨#[98]⟩, .int .i64 0, .int .i64 0, .slice none 0 0, .string ⟨#[99]⟩, .int .i64 2, .int .i64 0, .slice none 0 0] 38)) (.slice (some ⟨w.heap.size, 0, none⟩) 3 3) [⟨⟨#[97]⟩, 1, 4, []⟩, ⟨⟨#[98]⟩, 0, 0, []⟩, ⟨⟨#[99]⟩, 2, 0, []⟩] := by
  refine ⟨some ⟨w.heap.size, 0, none⟩, 3, rfl, by decide, by decide, fun k c hk => ?_⟩
  have hk3 : k < 3 := (List.getElem?_eq_some_iff.1 hk).1
  rcases (show k = 0 ∨ k = 1 ∨ k = 2 by omega) with rfl | rfl | rfl <;> cases hk <;> refine ⟨⟨by simp only; omega, by simp only; omega⟩, ⟨by simp only; omega, by simp only; omega⟩, _, 0, _, rfl, by simp, by simp, by simp, by simp, PrV.nil _⟩
set_option maxHeartbeats 32000000 in
theorem numbers_any (K : ShapeK) (w : World) :
    Calls Try.prog 3 #[] w fun e w' => e = .returned (.bool true) ∧ Below w.heap.size w w' := by
  obtain ⟨i0, hi0, hz0, hz1, hz2⟩ := info_parts infoCls
  have hmx : 100000 ≤ maxLen := by decide
  have z6 : In64 6 := in64_of (by omega) (by omega)
  have z9 : In64 9 := in64_of (by omega) (by omega)
  have z0 : In64 0 := in64_of (by omega) (by omega)
  have z1 : In64 1 := in64_of (by omega) (by omega)
  have B0 := Lib.hid (Below.refl w.heap.size w)
  go_enter Try.func3, Try.ntmps3
  go_wp2
  go_loopw [1] (fun v1 wr => ∃ k : Nat, k ≤ 40 ∧ v1 = .int .i64 k ∧ Hid (Below w.heap.size w wr)) (fun v1 _ => 40 - (intOf v1).toNat)
  case atStart => exact ⟨0, by omega, rfl, B0⟩
  case round =>
    clear B0
    obtain ⟨k, hk, rfl, hB⟩ := hrel
    by_cases hlt : k < 40
    · have d1 : decide ((k : Int) < 40) = true := by simp; omega
      have hwk : IntKind.i64.wrap ((k : Int) + 1) = (k : Int) + 1 := by rw [IntKind.wrap_i64]; omega
      go_wp2_with fail
      refine (tape_c (w := wr) k hlt).mono ?_
      rintro e w1 ⟨a, c, rfl, hN, hb⟩
      have hB1 := Lib.hid (hB.out.trans (hb.mono hB.out.size))
      have P := Lib.hid (unit_c (tape_tp (cap := c) hN (by omega)))
      clear hB hb hN
      go_wp2_with fail
      refine P.out.mono ?_
      clear P
      rintro e w2 ⟨nv, cv, mv, ov, rfl, U, hU, hT, _, hcg⟩
      have hb2 := unit_bel hcg
      have hB2 := Lib.hid (hB1.out.trans (hb2.mono hB1.out.size))
      obtain ⟨⟨na, nm, nc, rfl⟩, ⟨ma, mm, mc, rfl⟩, ⟨oa, om, oc, rfl⟩⟩ := hU.forms
      have hv0 := hU.c
      have hTL := Lib.hid hT.tl
      clear hcg hU hT hb2 hB1
      generalize U.classes = L at *
      obtain ⟨ca, cc, rfl, hcc, _⟩ := hv0.form
      obtain ⟨m, hm⟩ : ∃ m, m = L.length := ⟨_, rfl⟩
      rw [← hm] at hv0 hcc ⊢
      replace hm := Lib.hid hm
      have hv := Lib.hid hv0
      have hfd := unit_f1 na ca ma oa nm m mm om nc cc mc oc 6 w2
      have hLb : ∀ c ∈ L, c.binds.length ≤ 31 := fun c hc => by
        obtain ⟨j, hj⟩ := List.getElem?_of_mem hc
        have := ((hTL.out.ok j c hj).2).len
        omega
      have hL5 : L.length ≤ 5 := hTL.out.le
      replace hLb := Lib.hid hLb
      clear hv0
      go_wp2_with fail
      clear hfd
      go_loopw [3] (fun v3 wq => ∃ q : Nat, q ≤ 8 ∧ v3 = .int .i64 q ∧ Hid (ClV wq (.slice ca m cc) L) ∧ Hid (Below w.heap.size w wq)) (fun v3 _ => 8 - (intOf v3).toNat)
      case atStart => exact ⟨0, by omega, rfl, hv, hB2⟩
      case round =>
        clear hv hB2
        obtain ⟨q, hq, rfl, hv, hB⟩ := hrel
        by_cases hql : q < 8
        · have e1 : decide ((q : Int) < 8) = true := by simp; omega
          have hwq : IntKind.i64.wrap ((q : Int) + 1) = (q : Int) + 1 := by rw [IntKind.wrap_i64]; omega
          have hbz : Below wr.heap.size wr (wr.alloc (.cells #[.int .i64 (-2), .int .i64 (-1), .int .i64 0, .int .i64 1, .int .i64 2, .int .i64 3, .int .i64 5, .int .i64 15, .int .i64 16, .int .i64 17, .int .i64 31, .int .i64 62, .int .i64 63, .int .i64 4611686018427387904] 3)) := (Below.refl _ _).alloc (Nat.le_refl _) _
          have hcell := Lib.hid (fun (j : Nat) (x : Int) (h : n14[j]? = some x) => born14 wr h)
          have hv1 := Lib.hid (hv.out.up hbz)
          have hB1 := Lib.hid (hB.out.trans (hbz.mono hB.out.size))
          have hszz : wr.heap.size < (wr.alloc (.cells #[.int .i64 (-2), .int .i64 (-1), .int .i64 0, .int .i64 1, .int .i64 2, .int .i64 3, .int .i64 5, .int .i64 15, .int .i64 16, .int .i64 17, .int .i64 31, .int .i64 62, .int .i64 63, .int .i64 4611686018427387904] 3)).heap.size := by simp only [World.size_alloc]; omega
          clear hv hB hbz
          go_wp2_with fail
          generalize (wr.alloc (.cells #[.int .i64 (-2), .int .i64 (-1), .int .i64 0, .int .i64 1, .int .i64 2, .int .i64 3, .int .i64 5, .int .i64 15, .int .i64 16, .int .i64 17, .int .i64 31, .int .i64 62, .int .i64 63, .int .i64 4611686018427387904] 3)) = wz at *
          generalize wr.heap.size = gz at *
          have hBz := Lib.hid (Below.refl wz.heap.size wz)
          go_loopw [26] (fun v26 wX => ∃ j : Nat, j ≤ 14 ∧ v26 = .int .i64 j ∧ Hid (ClV wX (.slice ca m cc) L) ∧ Hid (Below w.heap.size w wX) ∧ Hid (Below wz.heap.size wz wX)) (fun v26 _ => 14 - (intOf v26).toNat)
          case atStart => exact ⟨0, by omega, rfl, hv1, hB1, hBz⟩
          case round =>
            clear hv1 hB1 hBz
            obtain ⟨j, hj, rfl, hv, hB, hBz⟩ := hrel
            by_cases hjl : j < 14
            · have f1 : decide ((j : Int) < 14) = true := by simp; omega
              have f2 : (j : Int) < 14 := by omega
              have hwj : IntKind.i64.wrap ((j : Int) + 1) = (j : Int) + 1 := by rw [IntKind.wrap_i64]; omega
              obtain ⟨x, hx⟩ : ∃ x, n14[j]? = some x := n14_at hjl
              have hxi := n14_in x (List.mem_of_getElem? hx)
              have hc := (hBz.out.cell hszz).trans (hcell.out j x hx)
              obtain ⟨y, hy, y0, y1⟩ : ∃ y, bits .and .i64 x 3 = y ∧ 0 ≤ y ∧ y ≤ 3 := ⟨_, rfl, by rw [and3]; omega, by rw [and3]; omega⟩
              have hwy : IntKind.i64.wrap ((k : Int) + y) = (k : Int) + y := by rw [IntKind.wrap_i64]; omega
              obtain ⟨u, hu, u0, u1⟩ : ∃ u, ((k : Int)).tmod 7 = u ∧ 0 ≤ u ∧ u ≤ 6 := ⟨_, rfl, Int.tmod_nonneg 7 (by omega), by have := Int.tmod_lt_of_pos (k : Int) (show (0 : Int) < 7 by omega); omega⟩
              have hwu0 : IntKind.i64.wrap u = u := by rw [IntKind.wrap_i64]; omega
              have hwu : IntKind.i64.wrap (u - 1) = u - 1 := by rw [IntKind.wrap_i64]; omega
              clear hx
              go_wp2_with fail
              refine (odd_c (b := 31) hv.out (by omega) (by omega) (by omega) hLb.out (q : Int) ((k : Int) + y) x (in64_of (by omega) (by omega)) (in64_of (by omega) (by omega)) hxi).mono ?_
              rintro e w5 ⟨v5, rfl, L5, hc5, _, _, hb⟩
              have hv5 := Lib.hid (hv.out.up hb)
              have hB5 := Lib.hid (hB.out.trans (hb.mono hB.out.size))
              have hZ5 := Lib.hid (hBz.out.trans (hb.mono hBz.out.size))
              clear hv hB hBz hb
              go_wp2_with fail
              refine (same_c K hc5 6 9 (u - 1) x z6 z9 (in64_of (by omega) (by omega)) hxi).mono ?_
              rintro e w6 ⟨rfl, hb⟩
              have hv6 := Lib.hid (hv5.out.up hb)
              have hB6 := Lib.hid (hB5.out.trans (hb.mono hB5.out.size))
              have hZ6 := Lib.hid (hZ5.out.trans (hb.mono hZ5.out.size))
              clear hv5 hB5 hZ5 hb hc5
              go_wp2_with fail
              go_roundw
              case rel => exact ⟨j + 1, by omega, by go_num, hv6, hB6, hZ6⟩
              case measure => simp [intOf]; omega
            · have f1 : decide ((j : Int) < 14) = false := by simp; omega
              go_wp2_with fail
              go_roundw
              case rel => exact ⟨q + 1, by omega, by go_num, hv, hB⟩
              case measure => simp [intOf]; omega
        · have e1 : decide ((q : Int) < 8) = false := by simp; omega
          go_wp2_with fail
          go_roundw
          case rel => exact ⟨k + 1, by omega, by go_num, hB⟩
          case measure => simp [intOf]; omega
    · have d1 : decide ((k : Int) < 40) = false := by simp; omega
      go_wp2_with fail
      have S6 := Lib.hid (Od.nil wr 0)
      have hBw := Lib.hid hB.out.size
      have hBd := hB
      generalize hwd : wr = wd at *
      clear hwd
      go_loopw [6, 7] (fun v6 v7 wX => ∃ (i : Nat) (T : List (ClassA × Value)), i ≤ 14 ∧ v7 = .int .i64 i ∧ Hid (Od wd wX v6 i 0 T)) (fun _ v7 _ => 14 - (intOf v7).toNat)
      case atStart => exact ⟨0, [], by omega, rfl, S6⟩
      case round =>
        clear S6
        obtain ⟨i, T, hi, rfl, hO⟩ := hrel
        obtain ⟨a, cf, rfl⟩ := row_shape hO.out.own
        by_cases hil : i < 14
        · have g1 : decide ((i : Int) < 14) = true := by simp; omega
          have hwi : IntKind.i64.wrap ((i : Int) + 1) = (i : Int) + 1 := by rw [IntKind.wrap_i64]; omega
          have hw97 : IntKind.i64.wrap (97 + (i : Int)) = 97 + (i : Int) := by rw [IntKind.wrap_i64]; omega
          have hwm : IntKind.i64.wrap ((i : Int) - 1) = (i : Int) - 1 := by rw [IntKind.wrap_i64]; omega
          rcases (show i = 0 ∨ i = 1 ∨ i = 2 ∨ i = 3 ∨ i = 4 ∨ i = 5 ∨ i = 6 ∨ i = 7 ∨ i = 8 ∨ i = 9 ∨ i = 10 ∨ i = 11 ∨ i = 12 ∨ i = 13 by omega) with rfl | rfl | rfl | rfl | rfl | rfl | rfl | rfl | rfl | rfl | rfl | rfl | rfl | rfl
          · go_wp2_with (first | (at_builtin; refine wpList_append_lies _ rfl (.tmp 63) (.tmp 65) 23 rfl wd.heap.size 38 i0 (.agg #[.string ByteArray.empty, .int .i64 0, .int .i64 0, .slice none 0 0]) 4 56 Try.underlying23 hi0 hz0 hz1 hz2 rfl (by decide) (.slice a 0 cf) 0 _ (by simp [Act.eval]) ((hO.out.own.alloc _).alloc _) ⟨wr.heap.size + 1, 0, none⟩ 1 1 (cl4 ⟨_, -1, 4, []⟩ (.slice none 0 0)) (by simp [Act.eval]) (by simp [cl4]) (cl4_at (c := ⟨_, -1, 4, []⟩) ((cell_two _ _ _ _ 0).trans rfl) ((cell_two _ _ _ _ 1).trans rfl) ((cell_two _ _ _ _ 2).trans rfl) ((cell_two _ _ _ _ 3).trans rfl)) (cl4_one _ _ ⟨_, _, _, rfl⟩) (by omega) (by omega) (by omega) (by simp only [World.size_alloc]; have := hO.out.bel.size; omega) _ rfl ?_; intro g4 cap4 w4 hown4 hgrow4 hat4 hlt4; have hP := Lib.hid (hO.out.push2 (d := ⟨_, -1, 4, []⟩) (bv := .slice none 0 0) (((Below.refl wr.heap.size wr).alloc (Nat.le_refl _) _).alloc (by simp) _) hown4 hgrow4 (at_hat hat4) (in64_of (by simp only; omega) (by simp only; omega)) (in64_of (by simp only; omega) (by simp only; omega)) (PrV.nil _) (by simp)); clear hown4 hgrow4 hat4 hlt4))
            refine (same_c K hP.out.fin 0 0 (0 : Int) 1 z0 z0 (in64_of (by omega) (by omega)) z1).mono ?_
            rintro e w5 ⟨rfl, hb⟩
            have hP1 := Lib.hid (hP.out.keep hb)
            clear hP hb hO
            go_wp2_with fail
            refine (same_c K hP1.out.fin 0 0 0 (0 : Int) z0 z0 z0 (in64_of (by omega) (by omega))).mono ?_
            rintro e w6 ⟨rfl, hb⟩
            have hP2 := Lib.hid (hP1.out.keep hb)
            clear hP1 hb
            go_wp2_with fail
            go_roundw
            case rel => exact ⟨1, _, by omega, by go_num, hP2⟩
            case measure => simp [intOf] <;> omega

          · go_wp2_with (first | (at_builtin; refine wpList_append_lies _ rfl (.tmp 63) (.tmp 65) 23 rfl wd.heap.size 38 i0 (.agg #[.string ByteArray.empty, .int .i64 0, .int .i64 0, .slice none 0 0]) 4 56 Try.underlying23 hi0 hz0 hz1 hz2 rfl (by decide) (.slice a 1 cf) 1 _ (by simp [Act.eval]) ((hO.out.own.alloc _).alloc _) ⟨wr.heap.size + 1, 0, none⟩ 1 1 (cl4 ⟨_, -1, 0, []⟩ (.slice none 0 0)) (by simp [Act.eval]) (by simp [cl4]) (cl4_at (c := ⟨_, -1, 0, []⟩) ((cell_two _ _ _ _ 0).trans rfl) ((cell_two _ _ _ _ 1).trans rfl) ((cell_two _ _ _ _ 2).trans rfl) ((cell_two _ _ _ _ 3).trans rfl)) (cl4_one _ _ ⟨_, _, _, rfl⟩) (by omega) (by omega) (by omega) (by simp only [World.size_alloc]; have := hO.out.bel.size; omega) _ rfl ?_; intro g4 cap4 w4 hown4 hgrow4 hat4 hlt4; have hP := Lib.hid (hO.out.push2 (d := ⟨_, -1, 0, []⟩) (bv := .slice none 0 0) (((Below.refl wr.heap.size wr).alloc (Nat.le_refl _) _).alloc (by simp) _) hown4 hgrow4 (at_hat hat4) (in64_of (by simp only; omega) (by simp only; omega)) (in64_of (by simp only; omega) (by simp only; omega)) (PrV.nil _) (by simp)); clear hown4 hgrow4 hat4 hlt4))
            refine (same_c K hP.out.fin 0 0 (1 : Int) 1 z0 z0 (in64_of (by omega) (by omega)) z1).mono ?_
            rintro e w5 ⟨rfl, hb⟩
            have hP1 := Lib.hid (hP.out.keep hb)
            clear hP hb hO
            go_wp2_with fail
            refine (same_c K hP1.out.fin 0 0 0 (1 : Int) z0 z0 z0 (in64_of (by omega) (by omega))).mono ?_
            rintro e w6 ⟨rfl, hb⟩
            have hP2 := Lib.hid (hP1.out.keep hb)
            clear hP1 hb
            go_wp2_with fail
            go_roundw
            case rel => exact ⟨2, _, by omega, by go_num, hP2⟩
            case measure => simp [intOf] <;> omega

          · go_wp2_with (first | (at_builtin; refine wpList_append_lies _ rfl (.tmp 63) (.tmp 65) 23 rfl wd.heap.size 38 i0 (.agg #[.string ByteArray.empty, .int .i64 0, .int .i64 0, .slice none 0 0]) 4 56 Try.underlying23 hi0 hz0 hz1 hz2 rfl (by decide) (.slice a 2 cf) 2 _ (by simp [Act.eval]) ((hO.out.own.alloc _).alloc _) ⟨wr.heap.size + 1, 0, none⟩ 1 1 (cl4 ⟨_, 1, 0, []⟩ (.slice none 0 0)) (by simp [Act.eval]) (by simp [cl4]) (cl4_at (c := ⟨_, 1, 0, []⟩) ((cell_two _ _ _ _ 0).trans rfl) ((cell_two _ _ _ _ 1).trans rfl) ((cell_two _ _ _ _ 2).trans rfl) ((cell_two _ _ _ _ 3).trans rfl)) (cl4_one _ _ ⟨_, _, _, rfl⟩) (by omega) (by omega) (by omega) (by simp only [World.size_alloc]; have := hO.out.bel.size; omega) _ rfl ?_; intro g4 cap4 w4 hown4 hgrow4 hat4 hlt4; have hP := Lib.hid (hO.out.push2 (d := ⟨_, 1, 0, []⟩) (bv := .slice none 0 0) (((Below.refl wr.heap.size wr).alloc (Nat.le_refl _) _).alloc (by simp) _) hown4 hgrow4 (at_hat hat4) (in64_of (by simp only; omega) (by simp only; omega)) (in64_of (by simp only; omega) (by simp only; omega)) (PrV.nil _) (by simp)); clear hown4 hgrow4 hat4 hlt4))
            refine (same_c K hP.out.fin 0 0 (2 : Int) 1 z0 z0 (in64_of (by omega) (by omega)) z1).mono ?_
            rintro e w5 ⟨rfl, hb⟩
            have hP1 := Lib.hid (hP.out.keep hb)
            clear hP hb hO
            go_wp2_with fail
            refine (same_c K hP1.out.fin 0 0 0 (2 : Int) z0 z0 z0 (in64_of (by omega) (by omega))).mono ?_
            rintro e w6 ⟨rfl, hb⟩
            have hP2 := Lib.hid (hP1.out.keep hb)
            clear hP1 hb
            go_wp2_with fail
            go_roundw
            case rel => exact ⟨3, _, by omega, by go_num, hP2⟩
            case measure => simp [intOf] <;> omega

          · go_wp2_with (first | (at_builtin; refine wpList_append_lies _ rfl (.tmp 63) (.tmp 65) 23 rfl wd.heap.size 38 i0 (.agg #[.string ByteArray.empty, .int .i64 0, .int .i64 0, .slice none 0 0]) 4 56 Try.underlying23 hi0 hz0 hz1 hz2 rfl (by decide) (.slice a 3 cf) 3 _ (by simp [Act.eval]) ((hO.out.own.alloc _).alloc _) ⟨wr.heap.size + 1, 0, none⟩ 1 1 (cl4 ⟨_, 2, 0, []⟩ (.slice none 0 0)) (by simp [Act.eval]) (by simp [cl4]) (cl4_at (c := ⟨_, 2, 0, []⟩) ((cell_two _ _ _ _ 0).trans rfl) ((cell_two _ _ _ _ 1).trans rfl) ((cell_two _ _ _ _ 2).trans rfl) ((cell_two _ _ _ _ 3).trans rfl)) (cl4_one _ _ ⟨_, _, _, rfl⟩) (by omega) (by omega) (by omega) (by simp only [World.size_alloc]; have := hO.out.bel.size; omega) _ rfl ?_; intro g4 cap4 w4 hown4 hgrow4 hat4 hlt4; have hP := Lib.hid (hO.out.push2 (d := ⟨_, 2, 0, []⟩) (bv := .slice none 0 0) (((Below.refl wr.heap.size wr).alloc (Nat.le_refl _) _).alloc (by simp) _) hown4 hgrow4 (at_hat hat4) (in64_of (by simp only; omega) (by simp only; omega)) (in64_of (by simp only; omega) (by simp only; omega)) (PrV.nil _) (by simp)); clear hown4 hgrow4 hat4 hlt4))
            refine (same_c K hP.out.fin 0 0 (3 : Int) 1 z0 z0 (in64_of (by omega) (by omega)) z1).mono ?_
            rintro e w5 ⟨rfl, hb⟩
            have hP1 := Lib.hid (hP.out.keep hb)
            clear hP hb hO
            go_wp2_with fail
            refine (same_c K hP1.out.fin 0 0 0 (3 : Int) z0 z0 z0 (in64_of (by omega) (by omega))).mono ?_
            rintro e w6 ⟨rfl, hb⟩
            have hP2 := Lib.hid (hP1.out.keep hb)
            clear hP1 hb
            go_wp2_with fail
            go_roundw
            case rel => exact ⟨4, _, by omega, by go_num, hP2⟩
            case measure => simp [intOf] <;> omega

          · go_wp2_with (first | (at_builtin; refine wpList_append_lies _ rfl (.tmp 63) (.tmp 65) 23 rfl wd.heap.size 38 i0 (.agg #[.string ByteArray.empty, .int .i64 0, .int .i64 0, .slice none 0 0]) 4 56 Try.underlying23 hi0 hz0 hz1 hz2 rfl (by decide) (.slice a 4 cf) 4 _ (by simp [Act.eval]) ((hO.out.own.alloc _).alloc _) ⟨wr.heap.size + 1, 0, none⟩ 1 1 (cl4 ⟨_, 3, 0, []⟩ (.slice none 0 0)) (by simp [Act.eval]) (by simp [cl4]) (cl4_at (c := ⟨_, 3, 0, []⟩) ((cell_two _ _ _ _ 0).trans rfl) ((cell_two _ _ _ _ 1).trans rfl) ((cell_two _ _ _ _ 2).trans rfl) ((cell_two _ _ _ _ 3).trans rfl)) (cl4_one _ _ ⟨_, _, _, rfl⟩) (by omega) (by omega) (by omega) (by simp only [World.size_alloc]; have := hO.out.bel.size; omega) _ rfl ?_; intro g4 cap4 w4 hown4 hgrow4 hat4 hlt4; have hP := Lib.hid (hO.out.push2 (d := ⟨_, 3, 0, []⟩) (bv := .slice none 0 0) (((Below.refl wr.heap.size wr).alloc (Nat.le_refl _) _).alloc (by simp) _) hown4 hgrow4 (at_hat hat4) (in64_of (by simp only; omega) (by simp only; omega)) (in64_of (by simp only; omega) (by simp only; omega)) (PrV.nil _) (by simp)); clear hown4 hgrow4 hat4 hlt4))
            refine (same_c K hP.out.fin 0 0 (4 : Int) 1 z0 z0 (in64_of (by omega) (by omega)) z1).mono ?_
            rintro e w5 ⟨rfl, hb⟩
            have hP1 := Lib.hid (hP.out.keep hb)
            clear hP hb hO
            go_wp2_with fail
            refine (same_c K hP1.out.fin 0 0 0 (4 : Int) z0 z0 z0 (in64_of (by omega) (by omega))).mono ?_
            rintro e w6 ⟨rfl, hb⟩
            have hP2 := Lib.hid (hP1.out.keep hb)
            clear hP1 hb
            go_wp2_with fail
            go_roundw
            case rel => exact ⟨5, _, by omega, by go_num, hP2⟩
            case measure => simp [intOf] <;> omega

          · go_wp2_with (first | (at_builtin; refine wpList_append_lies _ rfl (.tmp 63) (.tmp 65) 23 rfl wd.heap.size 38 i0 (.agg #[.string ByteArray.empty, .int .i64 0, .int .i64 0, .slice none 0 0]) 4 56 Try.underlying23 hi0 hz0 hz1 hz2 rfl (by decide) (.slice a 5 cf) 5 _ (by simp [Act.eval]) ((hO.out.own.alloc _).alloc _) ⟨wr.heap.size + 1, 0, none⟩ 1 1 (cl4 ⟨_, 4, 0, []⟩ (.slice none 0 0)) (by simp [Act.eval]) (by simp [cl4]) (cl4_at (c := ⟨_, 4, 0, []⟩) ((cell_two _ _ _ _ 0).trans rfl) ((cell_two _ _ _ _ 1).trans rfl) ((cell_two _ _ _ _ 2).trans rfl) ((cell_two _ _ _ _ 3).trans rfl)) (cl4_one _ _ ⟨_, _, _, rfl⟩) (by omega) (by omega) (by omega) (by simp only [World.size_alloc]; have := hO.out.bel.size; omega) _ rfl ?_; intro g4 cap4 w4 hown4 hgrow4 hat4 hlt4; have hP := Lib.hid (hO.out.push2 (d := ⟨_, 4, 0, []⟩) (bv := .slice none 0 0) (((Below.refl wr.heap.size wr).alloc (Nat.le_refl _) _).alloc (by simp) _) hown4 hgrow4 (at_hat hat4) (in64_of (by simp only; omega) (by simp only; omega)) (in64_of (by simp only; omega) (by simp only; omega)) (PrV.nil _) (by simp)); clear hown4 hgrow4 hat4 hlt4))
            refine (same_c K hP.out.fin 0 0 (5 : Int) 1 z0 z0 (in64_of (by omega) (by omega)) z1).mono ?_
            rintro e w5 ⟨rfl, hb⟩
            have hP1 := Lib.hid (hP.out.keep hb)
            clear hP hb hO
            go_wp2_with fail
            refine (same_c K hP1.out.fin 0 0 0 (5 : Int) z0 z0 z0 (in64_of (by omega) (by omega))).mono ?_
            rintro e w6 ⟨rfl, hb⟩
            have hP2 := Lib.hid (hP1.out.keep hb)
            clear hP1 hb
            go_wp2_with fail
            go_roundw
            case rel => exact ⟨6, _, by omega, by go_num, hP2⟩
            case measure => simp [intOf] <;> omega

          · go_wp2_with (first | (at_builtin; refine wpList_append_lies _ rfl (.tmp 63) (.tmp 65) 23 rfl wd.heap.size 38 i0 (.agg #[.string ByteArray.empty, .int .i64 0, .int .i64 0, .slice none 0 0]) 4 56 Try.underlying23 hi0 hz0 hz1 hz2 rfl (by decide) (.slice a 6 cf) 6 _ (by simp [Act.eval]) ((hO.out.own.alloc _).alloc _) ⟨wr.heap.size + 1, 0, none⟩ 1 1 (cl4 ⟨_, 5, 0, []⟩ (.slice none 0 0)) (by simp [Act.eval]) (by simp [cl4]) (cl4_at (c := ⟨_, 5, 0, []⟩) ((cell_two _ _ _ _ 0).trans rfl) ((cell_two _ _ _ _ 1).trans rfl) ((cell_two _ _ _ _ 2).trans rfl) ((cell_two _ _ _ _ 3).trans rfl)) (cl4_one _ _ ⟨_, _, _, rfl⟩) (by omega) (by omega) (by omega) (by simp only [World.size_alloc]; have := hO.out.bel.size; omega) _ rfl ?_; intro g4 cap4 w4 hown4 hgrow4 hat4 hlt4; have hP := Lib.hid (hO.out.push2 (d := ⟨_, 5, 0, []⟩) (bv := .slice none 0 0) (((Below.refl wr.heap.size wr).alloc (Nat.le_refl _) _).alloc (by simp) _) hown4 hgrow4 (at_hat hat4) (in64_of (by simp only; omega) (by simp only; omega)) (in64_of (by simp only; omega) (by simp only; omega)) (PrV.nil _) (by simp)); clear hown4 hgrow4 hat4 hlt4))
            refine (same_c K hP.out.fin 0 0 (6 : Int) 1 z0 z0 (in64_of (by omega) (by omega)) z1).mono ?_
            rintro e w5 ⟨rfl, hb⟩
            have hP1 := Lib.hid (hP.out.keep hb)
            clear hP hb hO
            go_wp2_with fail
            refine (same_c K hP1.out.fin 0 0 0 (6 : Int) z0 z0 z0 (in64_of (by omega) (by omega))).mono ?_
            rintro e w6 ⟨rfl, hb⟩
            have hP2 := Lib.hid (hP1.out.keep hb)
            clear hP1 hb
            go_wp2_with fail
            go_roundw
            case rel => exact ⟨7, _, by omega, by go_num, hP2⟩
            case measure => simp [intOf] <;> omega

          · go_wp2_with (first | (at_builtin; refine wpList_append_lies _ rfl (.tmp 63) (.tmp 65) 23 rfl wd.heap.size 38 i0 (.agg #[.string ByteArray.empty, .int .i64 0, .int .i64 0, .slice none 0 0]) 4 56 Try.underlying23 hi0 hz0 hz1 hz2 rfl (by decide) (.slice a 7 cf) 7 _ (by simp [Act.eval]) ((hO.out.own.alloc _).alloc _) ⟨wr.heap.size + 1, 0, none⟩ 1 1 (cl4 ⟨_, 6, 0, []⟩ (.slice none 0 0)) (by simp [Act.eval]) (by simp [cl4]) (cl4_at (c := ⟨_, 6, 0, []⟩) ((cell_two _ _ _ _ 0).trans rfl) ((cell_two _ _ _ _ 1).trans rfl) ((cell_two _ _ _ _ 2).trans rfl) ((cell_two _ _ _ _ 3).trans rfl)) (cl4_one _ _ ⟨_, _, _, rfl⟩) (by omega) (by omega) (by omega) (by simp only [World.size_alloc]; have := hO.out.bel.size; omega) _ rfl ?_; intro g4 cap4 w4 hown4 hgrow4 hat4 hlt4; have hP := Lib.hid (hO.out.push2 (d := ⟨_, 6, 0, []⟩) (bv := .slice none 0 0) (((Below.refl wr.heap.size wr).alloc (Nat.le_refl _) _).alloc (by simp) _) hown4 hgrow4 (at_hat hat4) (in64_of (by simp only; omega) (by simp only; omega)) (in64_of (by simp only; omega) (by simp only; omega)) (PrV.nil _) (by simp)); clear hown4 hgrow4 hat4 hlt4))
            refine (same_c K hP.out.fin 0 0 (7 : Int) 1 z0 z0 (in64_of (by omega) (by omega)) z1).mono ?_
            rintro e w5 ⟨rfl, hb⟩
            have hP1 := Lib.hid (hP.out.keep hb)
            clear hP hb hO
            go_wp2_with fail
            refine (same_c K hP1.out.fin 0 0 0 (7 : Int) z0 z0 z0 (in64_of (by omega) (by omega))).mono ?_
            rintro e w6 ⟨rfl, hb⟩
            have hP2 := Lib.hid (hP1.out.keep hb)
            clear hP1 hb
            go_wp2_with fail
            go_roundw
            case rel => exact ⟨8, _, by omega, by go_num, hP2⟩
            case measure => simp [intOf] <;> omega

          · go_wp2_with (first | (at_builtin; refine wpList_append_lies _ rfl (.tmp 63) (.tmp 65) 23 rfl wd.heap.size 38 i0 (.agg #[.string ByteArray.empty, .int .i64 0, .int .i64 0, .slice none 0 0]) 4 56 Try.underlying23 hi0 hz0 hz1 hz2 rfl (by decide) (.slice a 8 cf) 8 _ (by simp [Act.eval]) ((hO.out.own.alloc _).alloc _) ⟨wr.heap.size + 1, 0, none⟩ 1 1 (cl4 ⟨_, 7, 0, []⟩ (.slice none 0 0)) (by simp [Act.eval]) (by simp [cl4]) (cl4_at (c := ⟨_, 7, 0, []⟩) ((cell_two _ _ _ _ 0).trans rfl) ((cell_two _ _ _ _ 1).trans rfl) ((cell_two _ _ _ _ 2).trans rfl) ((cell_two _ _ _ _ 3).trans rfl)) (cl4_one _ _ ⟨_, _, _, rfl⟩) (by omega) (by omega) (by omega) (by simp only [World.size_alloc]; have := hO.out.bel.size; omega) _ rfl ?_; intro g4 cap4 w4 hown4 hgrow4 hat4 hlt4; have hP := Lib.hid (hO.out.push2 (d := ⟨_, 7, 0, []⟩) (bv := .slice none 0 0) (((Below.refl wr.heap.size wr).alloc (Nat.le_refl _) _).alloc (by simp) _) hown4 hgrow4 (at_hat hat4) (in64_of (by simp only; omega) (by simp only; omega)) (in64_of (by simp only; omega) (by simp only; omega)) (PrV.nil _) (by simp)); clear hown4 hgrow4 hat4 hlt4))
            refine (same_c K hP.out.fin 0 0 (8 : Int) 1 z0 z0 (in64_of (by omega) (by omega)) z1).mono ?_
            rintro e w5 ⟨rfl, hb⟩
            have hP1 := Lib.hid (hP.out.keep hb)
            clear hP hb hO
            go_wp2_with fail
            refine (same_c K hP1.out.fin 0 0 0 (8 : Int) z0 z0 z0 (in64_of (by omega) (by omega))).mono ?_
            rintro e w6 ⟨rfl, hb⟩
            have hP2 := Lib.hid (hP1.out.keep hb)
            clear hP1 hb
            go_wp2_with fail
            go_roundw
            case rel => exact ⟨9, _, by omega, by go_num, hP2⟩
            case measure => simp [intOf] <;> omega

          · go_wp2_with (first | (at_builtin; refine wpList_append_lies _ rfl (.tmp 63) (.tmp 65) 23 rfl wd.heap.size 38 i0 (.agg #[.string ByteArray.empty, .int .i64 0, .int .i64 0, .slice none 0 0]) 4 56 Try.underlying23 hi0 hz0 hz1 hz2 rfl (by decide) (.slice a 9 cf) 9 _ (by simp [Act.eval]) ((hO.out.own.alloc _).alloc _) ⟨wr.heap.size + 1, 0, none⟩ 1 1 (cl4 ⟨_, 8, 0, []⟩ (.slice none 0 0)) (by simp [Act.eval]) (by simp [cl4]) (cl4_at (c := ⟨_, 8, 0, []⟩) ((cell_two _ _ _ _ 0).trans rfl) ((cell_two _ _ _ _ 1).trans rfl) ((cell_two _ _ _ _ 2).trans rfl) ((cell_two _ _ _ _ 3).trans rfl)) (cl4_one _ _ ⟨_, _, _, rfl⟩) (by omega) (by omega) (by omega) (by simp only [World.size_alloc]; have := hO.out.bel.size; omega) _ rfl ?_; intro g4 cap4 w4 hown4 hgrow4 hat4 hlt4; have hP := Lib.hid (hO.out.push2 (d := ⟨_, 8, 0, []⟩) (bv := .slice none 0 0) (((Below.refl wr.heap.size wr).alloc (Nat.le_refl _) _).alloc (by simp) _) hown4 hgrow4 (at_hat hat4) (in64_of (by simp only; omega) (by simp only; omega)) (in64_of (by simp only; omega) (by simp only; omega)) (PrV.nil _) (by simp)); clear hown4 hgrow4 hat4 hlt4))
            refine (same_c K hP.out.fin 0 0 (9 : Int) 1 z0 z0 (in64_of (by omega) (by omega)) z1).mono ?_
            rintro e w5 ⟨rfl, hb⟩
            have hP1 := Lib.hid (hP.out.keep hb)
            clear hP hb hO
            go_wp2_with fail
            refine (same_c K hP1.out.fin 0 0 0 (9 : Int) z0 z0 z0 (in64_of (by omega) (by omega))).mono ?_
            rintro e w6 ⟨rfl, hb⟩
            have hP2 := Lib.hid (hP1.out.keep hb)
            clear hP1 hb
            go_wp2_with fail
            go_roundw
            case rel => exact ⟨10, _, by omega, by go_num, hP2⟩
            case measure => simp [intOf] <;> omega

          · go_wp2_with (first | (at_builtin; refine wpList_append_lies _ rfl (.tmp 63) (.tmp 65) 23 rfl wd.heap.size 38 i0 (.agg #[.string ByteArray.empty, .int .i64 0, .int .i64 0, .slice none 0 0]) 4 56 Try.underlying23 hi0 hz0 hz1 hz2 rfl (by decide) (.slice a 10 cf) 10 _ (by simp [Act.eval]) ((hO.out.own.alloc _).alloc _) ⟨wr.heap.size + 1, 0, none⟩ 1 1 (cl4 ⟨_, 9, 0, []⟩ (.slice none 0 0)) (by simp [Act.eval]) (by simp [cl4]) (cl4_at (c := ⟨_, 9, 0, []⟩) ((cell_two _ _ _ _ 0).trans rfl) ((cell_two _ _ _ _ 1).trans rfl) ((cell_two _ _ _ _ 2).trans rfl) ((cell_two _ _ _ _ 3).trans rfl)) (cl4_one _ _ ⟨_, _, _, rfl⟩) (by omega) (by omega) (by omega) (by simp only [World.size_alloc]; have := hO.out.bel.size; omega) _ rfl ?_; intro g4 cap4 w4 hown4 hgrow4 hat4 hlt4; have hP := Lib.hid (hO.out.push2 (d := ⟨_, 9, 0, []⟩) (bv := .slice none 0 0) (((Below.refl wr.heap.size wr).alloc (Nat.le_refl _) _).alloc (by simp) _) hown4 hgrow4 (at_hat hat4) (in64_of (by simp only; omega) (by simp only; omega)) (in64_of (by simp only; omega) (by simp only; omega)) (PrV.nil _) (by simp)); clear hown4 hgrow4 hat4 hlt4))
            refine (same_c K hP.out.fin 0 0 (10 : Int) 1 z0 z0 (in64_of (by omega) (by omega)) z1).mono ?_
            rintro e w5 ⟨rfl, hb⟩
            have hP1 := Lib.hid (hP.out.keep hb)
            clear hP hb hO
            go_wp2_with fail
            refine (same_c K hP1.out.fin 0 0 0 (10 : Int) z0 z0 z0 (in64_of (by omega) (by omega))).mono ?_
            rintro e w6 ⟨rfl, hb⟩
            have hP2 := Lib.hid (hP1.out.keep hb)
            clear hP1 hb
            go_wp2_with fail
            go_roundw
            case rel => exact ⟨11, _, by omega, by go_num, hP2⟩
            case measure => simp [intOf] <;> omega

          · go_wp2_with (first | (at_builtin; refine wpList_append_lies _ rfl (.tmp 63) (.tmp 65) 23 rfl wd.heap.size 38 i0 (.agg #[.string ByteArray.empty, .int .i64 0, .int .i64 0, .slice none 0 0]) 4 56 Try.underlying23 hi0 hz0 hz1 hz2 rfl (by decide) (.slice a 11 cf) 11 _ (by simp [Act.eval]) ((hO.out.own.alloc _).alloc _) ⟨wr.heap.size + 1, 0, none⟩ 1 1 (cl4 ⟨_, 10, 0, []⟩ (.slice none 0 0)) (by simp [Act.eval]) (by simp [cl4]) (cl4_at (c := ⟨_, 10, 0, []⟩) ((cell_two _ _ _ _ 0).trans rfl) ((cell_two _ _ _ _ 1).trans rfl) ((cell_two _ _ _ _ 2).trans rfl) ((cell_two _ _ _ _ 3).trans rfl)) (cl4_one _ _ ⟨_, _, _, rfl⟩) (by omega) (by omega) (by omega) (by simp only [World.size_alloc]; have := hO.out.bel.size; omega) _ rfl ?_; intro g4 cap4 w4 hown4 hgrow4 hat4 hlt4; have hP := Lib.hid (hO.out.push2 (d := ⟨_, 10, 0, []⟩) (bv := .slice none 0 0) (((Below.refl wr.heap.size wr).alloc (Nat.le_refl _) _).alloc (by simp) _) hown4 hgrow4 (at_hat hat4) (in64_of (by simp only; omega) (by simp only; omega)) (in64_of (by simp only; omega) (by simp only; omega)) (PrV.nil _) (by simp)); clear hown4 hgrow4 hat4 hlt4))
            refine (same_c K hP.out.fin 0 0 (11 : Int) 1 z0 z0 (in64_of (by omega) (by omega)) z1).mono ?_
            rintro e w5 ⟨rfl, hb⟩
            have hP1 := Lib.hid (hP.out.keep hb)
            clear hP hb hO
            go_wp2_with fail
            refine (same_c K hP1.out.fin 0 0 0 (11 : Int) z0 z0 z0 (in64_of (by omega) (by omega))).mono ?_
            rintro e w6 ⟨rfl, hb⟩
            have hP2 := Lib.hid (hP1.out.keep hb)
            clear hP1 hb
            go_wp2_with fail
            go_roundw
            case rel => exact ⟨12, _, by omega, by go_num, hP2⟩
            case measure => simp [intOf] <;> omega

          · go_wp2_with (first | (at_builtin; refine wpList_append_lies _ rfl (.tmp 63) (.tmp 65) 23 rfl wd.heap.size 38 i0 (.agg #[.string ByteArray.empty, .int .i64 0, .int .i64 0, .slice none 0 0]) 4 56 Try.underlying23 hi0 hz0 hz1 hz2 rfl (by decide) (.slice a 12 cf) 12 _ (by simp [Act.eval]) ((hO.out.own.alloc _).alloc _) ⟨wr.heap.size + 1, 0, none⟩ 1 1 (cl4 ⟨_, 11, 0, []⟩ (.slice none 0 0)) (by simp [Act.eval]) (by simp [cl4]) (cl4_at (c := ⟨_, 11, 0, []⟩) ((cell_two _ _ _ _ 0).trans rfl) ((cell_two _ _ _ _ 1).trans rfl) ((cell_two _ _ _ _ 2).trans rfl) ((cell_two _ _ _ _ 3).trans rfl)) (cl4_one _ _ ⟨_, _, _, rfl⟩) (by omega) (by omega) (by omega) (by simp only [World.size_alloc]; have := hO.out.bel.size; omega) _ rfl ?_; intro g4 cap4 w4 hown4 hgrow4 hat4 hlt4; have hP := Lib.hid (hO.out.push2 (d := ⟨_, 11, 0, []⟩) (bv := .slice none 0 0) (((Below.refl wr.heap.size wr).alloc (Nat.le_refl _) _).alloc (by simp) _) hown4 hgrow4 (at_hat hat4) (in64_of (by simp only; omega) (by simp only; omega)) (in64_of (by simp only; omega) (by simp only; omega)) (PrV.nil _) (by simp)); clear hown4 hgrow4 hat4 hlt4))
            refine (same_c K hP.out.fin 0 0 (12 : Int) 1 z0 z0 (in64_of (by omega) (by omega)) z1).mono ?_
            rintro e w5 ⟨rfl, hb⟩
            have hP1 := Lib.hid (hP.out.keep hb)
            clear hP hb hO
            go_wp2_with fail
            refine (same_c K hP1.out.fin 0 0 0 (12 : Int) z0 z0 z0 (in64_of (by omega) (by omega))).mono ?_
            rintro e w6 ⟨rfl, hb⟩
            have hP2 := Lib.hid (hP1.out.keep hb)
            clear hP1 hb
            go_wp2_with fail
            go_roundw
            case rel => exact ⟨13, _, by omega, by go_num, hP2⟩
            case measure => simp [intOf] <;> omega

          · go_wp2_with (first | (at_builtin; refine wpList_append_lies _ rfl (.tmp 63) (.tmp 65) 23 rfl wd.heap.size 38 i0 (.agg #[.string ByteArray.empty, .int .i64 0, .int .i64 0, .slice none 0 0]) 4 56 Try.underlying23 hi0 hz0 hz1 hz2 rfl (by decide) (.slice a 13 cf) 13 _ (by simp [Act.eval]) ((hO.out.own.alloc _).alloc _) ⟨wr.heap.size + 1, 0, none⟩ 1 1 (cl4 ⟨_, 12, 0, []⟩ (.slice none 0 0)) (by simp [Act.eval]) (by simp [cl4]) (cl4_at (c := ⟨_, 12, 0, []⟩) ((cell_two _ _ _ _ 0).trans rfl) ((cell_two _ _ _ _ 1).trans rfl) ((cell_two _ _ _ _ 2).trans rfl) ((cell_two _ _ _ _ 3).trans rfl)) (cl4_one _ _ ⟨_, _, _, rfl⟩) (by omega) (by omega) (by omega) (by simp only [World.size_alloc]; have := hO.out.bel.size; omega) _ rfl ?_; intro g4 cap4 w4 hown4 hgrow4 hat4 hlt4; have hP := Lib.hid (hO.out.push2 (d := ⟨_, 12, 0, []⟩) (bv := .slice none 0 0) (((Below.refl wr.heap.size wr).alloc (Nat.le_refl _) _).alloc (by simp) _) hown4 hgrow4 (at_hat hat4) (in64_of (by simp only; omega) (by simp only; omega)) (in64_of (by simp only; omega) (by simp only; omega)) (PrV.nil _) (by simp)); clear hown4 hgrow4 hat4 hlt4))
            refine (same_c K hP.out.fin 0 0 (13 : Int) 1 z0 z0 (in64_of (by omega) (by omega)) z1).mono ?_
            rintro e w5 ⟨rfl, hb⟩
            have hP1 := Lib.hid (hP.out.keep hb)
            clear hP hb hO
            go_wp2_with fail
            refine (same_c K hP1.out.fin 0 0 0 (13 : Int) z0 z0 z0 (in64_of (by omega) (by omega))).mono ?_
            rintro e w6 ⟨rfl, hb⟩
            have hP2 := Lib.hid (hP1.out.keep hb)
            clear hP1 hb
            go_wp2_with fail
            go_roundw
            case rel => exact ⟨14, _, by omega, by go_num, hP2⟩
            case measure => simp [intOf] <;> omega

        · obtain rfl : i = 14 := by omega
          have hbw : Below wr.heap.size wr (wr.alloc (.cells #[.string ⟨#[97]⟩, .int .i64 1, .int .i64 4, .slice none 0 0, .string ⟨#[98]⟩, .int .i64 0, .int .i64 0, .slice none 0 0, .string ⟨#[99]⟩, .int .i64 2, .int .i64 0, .slice none 0 0] 38)) := (Below.refl _ _).alloc (Nat.le_refl _) _
          have hR3 := Lib.hid (round3 wr)
          have hBl := Lib.hid (hBw.out)
          have hB7 := Lib.hid (hO.out.bel)
          have hBB := Lib.hid ((hB.out.trans (hB7.out.mono hB.out.size)).trans (hbw.mono (Nat.le_trans hB.out.size hB7.out.size)))
          clear hO hbw
          go_wp2_with fail
          generalize (wr.alloc (.cells #[.string ⟨#[97]⟩, .int .i64 1, .int .i64 4, .slice none 0 0, .string ⟨#[98]⟩, .int .i64 0, .int .i64 0, .slice none 0 0, .string ⟨#[99]⟩, .int .i64 2, .int .i64 0, .slice none 0 0] 38)) = wc at *
          generalize wr.heap.size = gc at *
          refine (same_c K hR3.out 1 1 0 1 z1 z1 z0 z1).mono ?_
          rintro e w5 ⟨rfl, hb⟩
          have hR5 := Lib.hid (hR3.out.up hb)
          have hB5 := Lib.hid (hBB.out.trans (hb.mono hBB.out.size))
          clear hR3 hBB hb
          go_wp2_with fail
          refine (same_c K hR5.out 1 1 2 2 z1 z1 (in64_of (by omega) (by omega)) (in64_of (by omega) (by omega))).mono ?_
          rintro e w6 ⟨rfl, hb⟩
          have hR6 := Lib.hid (hR5.out.up hb)
          have hB6 := Lib.hid (hB5.out.trans (hb.mono hB5.out.size))
          clear hR5 hB5 hb
          go_wp2_with fail
          refine (same_c K hR6.out (-9223372036854775808) 4611686018427387904 4611686018427387904 0 ⟨by omega, by omega⟩ ⟨by omega, by omega⟩ ⟨by omega, by omega⟩ z0).mono ?_
          rintro e w7 ⟨rfl, hb⟩
          have hB8 := Lib.hid (hB6.out.trans (hb.mono hB6.out.size))
          clear hR6 hB6 hb
          go_wp2_with fail
          refine (known_c K _).mono ?_
          rintro e w8 ⟨rfl, hb⟩
          have hB9 := Lib.hid (hB8.out.trans (hb.mono hB8.out.size))
          go_wp2
          go_ret
          exact ⟨rfl, hB9.out⟩
end Wd
end Go.Proofs.Ytlbekicalinglaa
