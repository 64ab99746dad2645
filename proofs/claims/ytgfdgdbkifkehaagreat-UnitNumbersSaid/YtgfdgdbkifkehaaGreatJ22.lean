/- Texts joined: UNM. -/
import Derived.Test.YtgfdgdbkifkehaaGreatJ1
import Derived.Test.YtgfdgdbkifkehaaGreatJ17
import Derived.Test.YtgfdgdbkifkehaaGreatJ21
/- UnitNumbers. -/
namespace Go.Proofs.YtgfdgdbkifkehaaGreat
open Go.RowKit
set_option linter.unusedVariables false
set_option maxRecDepth 20000
namespace Wd
def n12L : List Int := [-1, 0, 1, 2, 3, 4, 6, 9, 22, 62, 63, 1073741824]
theorem n12_64 : ∀ i, i < 12 → In64 (n12L.getD i 0) := by
  intro i hi
  rcases (show i = 0 ∨ i = 1 ∨ i = 2 ∨ i = 3 ∨ i = 4 ∨ i = 5 ∨ i = 6 ∨ i = 7 ∨ i = 8 ∨ i = 9 ∨ i = 10 ∨ i = 11 by omega) with rfl | rfl | rfl | rfl | rfl | rfl | rfl | rfl | rfl | rfl | rfl | rfl <;> exact in64_of (by decide) (by decide)
/-- the numbers, where they lie -/
def N12 (w : World) (q : Nat) : Prop := ∀ i, i < 12 → w.cell? ⟨q, i, none⟩ = some (.int .i64 (n12L.getD i 0))
theorem N12.up {w w1 : World} {q : Nat} (h : N12 w q) (b : Below w.heap.size w w1) : N12 w1 q := fun i hi => cell_up b (h i hi)
theorem N12.born (w : World) : N12 (w.alloc (.cells #[.int .i64 (-1), .int .i64 0, .int .i64 1, .int .i64 2, .int .i64 3, .int .i64 4, .int .i64 6, .int .i64 9, .int .i64 22, .int .i64 62, .int .i64 63, .int .i64 1073741824] 3)) w.heap.size := by
  intro i hi
  rcases (show i = 0 ∨ i = 1 ∨ i = 2 ∨ i = 3 ∨ i = 4 ∨ i = 5 ∨ i = 6 ∨ i = 7 ∨ i = 8 ∨ i = 9 ∨ i = 10 ∨ i = 11 by omega) with rfl | rfl | rfl | rfl | rfl | rfl | rfl | rfl | rfl | rfl | rfl | rfl <;> (rw [World.cell?_alloc_new]; rfl)
theorem infoOb9 : (Tryz.prog.info? 55).map (fun i => (i.zero, i.size, i.bytes)) = some (some (.agg #[.int .i64 0, .slice none 0 0]), 2, 32) := by kernel_rfl
theorem umk_mt (w : World) : (Instr.makeSlice 24 (.int .i64 1) (.int .i64 1)).run Tryz.prog w = .ok (.slice (some ⟨w.heap.size, 0, none⟩) 1 1) (w.alloc (.cells #[.int .i64 0, .int .i64 0, .slice none 0 0, .slice none 0 0] 50)) := by
  obtain ⟨i1, hi1, hy0, hy1, hy2⟩ := info_parts infoMeth
  have ec : (Value.agg #[Value.int .i64 0, Value.int .i64 0, Value.slice none 0 0, Value.slice none 0 0]).cells = #[Value.int .i64 0, Value.int .i64 0, Value.slice none 0 0, Value.slice none 0 0] := rfl
  have hq := run_make (P := Tryz.prog) w 24 50 i1 _ Tryz.underlying24 hi1 hy0 .i64 .i64 1 1 (by omega) (Int.le_refl _) (by rw [hy2]; omega) (by omega)
  rw [hy1, ec] at hq
  simp only [Int.toNat_one, Nat.one_mul, show madeCells #[Value.int IntKind.i64 0, Value.int IntKind.i64 0, Value.slice none 0 0, Value.slice none 0 0] 4 = #[Value.int IntKind.i64 0, Value.int IntKind.i64 0, Value.slice none 0 0, Value.slice none 0 0] from by kernel_rfl] at hq
  exact hq
theorem umk_ob (w : World) : (Instr.makeSlice 25 (.int .i64 1) (.int .i64 1)).run Tryz.prog w = .ok (.slice (some ⟨w.heap.size, 0, none⟩) 1 1) (w.alloc (.cells #[.int .i64 0, .slice none 0 0] 55)) := by
  obtain ⟨i1, hi1, hy0, hy1, hy2⟩ := info_parts infoOb9
  have ec : (Value.agg #[Value.int .i64 0, Value.slice none 0 0]).cells = #[Value.int .i64 0, Value.slice none 0 0] := rfl
  have hq := run_make (P := Tryz.prog) w 25 55 i1 _ Tryz.underlying25 hi1 hy0 .i64 .i64 1 1 (by omega) (Int.le_refl _) (by rw [hy2]; omega) (by omega)
  rw [hy1, ec] at hq
  simp only [Int.toNat_one, Nat.one_mul, show madeCells #[Value.int IntKind.i64 0, Value.slice none 0 0] 2 = #[Value.int IntKind.i64 0, Value.slice none 0 0] from by kernel_rfl] at hq
  exact hq
theorem umt_new (w : World) : MtV (w.alloc (.cells #[.int .i64 0, .int .i64 0, .slice none 0 0, .slice none 0 0] 50)) (.slice (some ⟨w.heap.size, 0, none⟩) 1 1) [⟨0, 0, [], []⟩] := by
  refine ⟨_, 1, rfl, by decide, by decide, fun k x hx => ?_⟩
  have hk : k < 1 := by have := (List.getElem?_eq_some_iff.1 hx).1; simpa using this
  obtain rfl : k = 0 := by omega
  simp at hx; subst hx
  exact ⟨i64s (by simp) (by simp), i64s (by simp) (by simp), _, 0, _, _, rfl, by simp, by simp, by simp, by simp, ⟨none, 0, rfl, by decide, by decide, fun k x h => by simp at h⟩, ⟨none, 0, rfl, by decide, by decide, fun k x h => by simp at h⟩⟩
theorem uob_new (w : World) : ObV (w.alloc (.cells #[.int .i64 0, .slice none 0 0] 55)) (.slice (some ⟨w.heap.size, 0, none⟩) 1 1) [⟨0, []⟩] := by
  refine ⟨_, 1, rfl, by decide, by decide, fun k x hx => ?_⟩
  have hk : k < 1 := by have := (List.getElem?_eq_some_iff.1 hx).1; simpa using this
  obtain rfl : k = 0 := by omega
  simp at hx; subst hx
  exact ⟨i64s (by simp) (by simp), _, 0, _, rfl, by simp, by simp, ⟨none, 0, rfl, by decide, by decide, fun k x h => by simp at h⟩⟩
def oneU : UnitA := ⟨[], [], [⟨0, 0, [], []⟩], [⟨0, []⟩], 0⟩
theorem oneU_k {w : World} {a b : Option Addr} (hm : MtV w (.slice a 1 1) [⟨0, 0, [], []⟩]) (ho : ObV w (.slice b 1 1) [⟨0, []⟩]) : UnK w (.agg #[.slice none 0 0, .slice none 0 0, .slice a 1 1, .slice b 1 1, .int .i64 0]) oneU :=
  UnV.unk (U := oneU) ⟨⟨none, 0, rfl, by decide, by decide, fun k x h => by simp [oneU] at h⟩, ⟨none, 0, rfl, by decide, by decide, fun k x h => by simp [oneU] at h⟩, hm, ho⟩
theorem oneU_sz : Sz oneU := ⟨by decide, by decide, by decide, by decide, by decide, by decide, by decide, by decide, by decide⟩
theorem zU_sz : Sz zU := ⟨by decide, by decide, by decide, by decide, by decide, by decide, by decide, by decide, by decide⟩
/-- as far as the loops went -/
structure NmS (w wr : World) : Prop where
  bel : Below w.heap.size w wr
theorem NmS.up {w wr w1 : World} (h : NmS w wr) (b : Below wr.heap.size wr w1) : NmS w w1 := ⟨h.bel.trans (b.mono h.bel.size)⟩
set_option maxHeartbeats 64000000 in
theorem unumbers_any (K : UnitK) (w : World) : Calls Tryz.prog 3 #[] w fun e w' => e = .returned (.bool true) ∧ Below w.heap.size w w' := by
  have PN := Lib.hid (fun w => uknown_c K w)
  have hS0 : Hid (NmS w w) := Lib.hid ⟨Below.refl _ _⟩
  go_enter Tryz.func3, Tryz.ntmps3
  go_wp2
  go_loopw [1] (fun i1 wr => ∃ k : Nat, k ≤ 40 ∧ i1 = .int .i64 k ∧ Hid (NmS w wr)) (fun i1 _ => 40 - (intOf i1).toNat)
  case atStart => exact ⟨0, by omega, rfl, hS0⟩
  case round =>
    clear hS0
    obtain ⟨k, hk, rfl, hS⟩ := hrel
    by_cases hk40 : k < 40
    · have d1 : decide ((k : Int) < 40) = true := by simp; omega
      have PT := Lib.hid (tape_c (w := wr) k hk40)
      have hm7 : Int.tmod (k : Int) 7 = ((k % 7 : Nat) : Int) := by
        show Int.tmod _ ((7 : Nat) : Int) = _
        rw [← Int.ofNat_tmod]
      have hq7 : k % 7 < 7 := Nat.mod_lt _ (by omega)
      generalize k % 7 = k7 at *
      have wm7 : IntKind.i64.wrap ((k7 : Int) - 1) = (k7 : Int) - 1 := by rw [IntKind.wrap_i64]; omega
      go_wp2_with fail
      with_reducible refine PT.out.mono ?_
      rintro e wt ⟨ta, tc, rfl, hN, hb⟩
      replace hS := Lib.hid (hS.out.up hb)
      have PU := Lib.hid (unit_c (tape_tp (cap := tc) hN (by omega)))
      clear PT hb hN
      go_wp2_with fail
      with_reducible refine PU.out.mono ?_
      rintro e wu ⟨nv, cv, mv, ov, rfl, U, hU, hT, _, hcg, _⟩
      have hBu := unit_bel hcg
      obtain ⟨na, nc, ka, kc, ma, mc, oa, oc, rfl, rfl, rfl, rfl, hB⟩ := tpb_born hU hT (hS.out.bel.trans (hBu.mono hS.out.bel.size))
      have hzu := Lib.hid hT.zb
      have hri := hT.right
      clear PU hcg hU hBu hS hT
      replace hB := Lib.hid hB
      go_upto_region 5 with fail
      generalize wu.alloc (.cells #[.slice na 6 nc, .slice ka U.classes.length kc, .slice ma 9 mc, .slice oa U.objects.length oc, .int .i64 6] 27) = W at *
      generalize wu.heap.size = Q at *
      have c0 := hB.out.c0
      have c1 := hB.out.c1
      have c2 := hB.out.c2
      have c3 := hB.out.c3
      have c4 := hB.out.c4
      have PR := K.right hB.out.k6'
      rw [hri] at PR
      replace PR := Lib.hid PR
      go_wp2_with fail
      with_reducible refine PR.out.mono ?_
      rintro e w1 ⟨rfl, hb⟩
      replace hB := Lib.hid (hB.out.up hb)
      clear c0 c1 c2 c3 c4 PR hb hri
      go_wp2
      go_loopw [3] (fun i3 wr => ∃ m : Nat, m ≤ 14 ∧ i3 = .int .i64 m ∧ Hid (TpB w wr Q U na ka ma oa nc kc mc oc 6)) (fun i3 _ => 14 - (intOf i3).toNat)
      case atStart => exact ⟨0, by omega, rfl, hB⟩
      case round =>
        clear hB
        obtain ⟨m, hm, rfl, hB⟩ := hrel
        by_cases hm14 : m < 14
        · have d2 : decide ((m : Int) < 14) = true := by simp; omega
          go_upto_region 10 with fail
          have hN := Lib.hid (N12.born wr)
          replace hB := Lib.hid (hB.out.up ((Below.refl _ _).alloc (Nat.le_refl _) (.cells #[.int .i64 (-1), .int .i64 0, .int .i64 1, .int .i64 2, .int .i64 3, .int .i64 4, .int .i64 6, .int .i64 9, .int .i64 22, .int .i64 62, .int .i64 63, .int .i64 1073741824] 3)))
          go_wp2
          go_loopw [24] (fun i24 wy => ∃ i : Nat, i ≤ 12 ∧ i24 = .int .i64 i ∧ Hid (TpB w wy Q U na ka ma oa nc kc mc oc 6) ∧ Hid (N12 wy wr.heap.size)) (fun i24 _ => 12 - (intOf i24).toNat)
          case atStart => exact ⟨0, by omega, rfl, hB, hN⟩
          case round =>
            clear hB hN
            obtain ⟨i, hi, rfl, hB, hN⟩ := hrel
            by_cases hi12 : i < 12
            · have d3 : decide ((i : Int) < 12) = true := by simp; omega
              have i0 : (0 : Int) ≤ (i : Int) := by omega
              have i1 : (i : Int) < 12 := by omega
              have xc := hN.out i hi12
              have hnx := n12_64 i hi12
              generalize n12L.getD i 0 = nx at *
              have wkm : IntKind.i64.wrap ((k : Int) + (m : Int)) = (k : Int) + (m : Int) := by rw [IntKind.wrap_i64]; omega
              have c0 := hB.out.c0
              have c1 := hB.out.c1
              have c2 := hB.out.c2
              have c3 := hB.out.c3
              have c4 := hB.out.c4
              have PO := Lib.hid (oddu_c hB.out.k6' hzu.out (by omega) (m : Int) ((k : Int) + (m : Int)) nx (in64_of (by omega) (by omega)) (in64_of (by omega) (by omega)) hnx)
              go_wp2_with fail
              with_reducible refine PO.out.mono ?_
              rintro e y1 ⟨v, V, rfl, hv, hz, hb⟩
              replace hB := Lib.hid (hB.out.up hb)
              replace hN := Lib.hid (hN.out.up hb)
              have PS := Lib.hid (usame_c K hv (hz.sz (by omega)) ((k7 : Int) - 1) nx (in64_of (by omega) (by omega)) hnx)
              clear c0 c1 c2 c3 c4 PO hb xc hv hz
              go_wp2_with fail
              with_reducible refine PS.out.mono ?_
              rintro e y2 ⟨rfl, hb⟩
              replace hB := Lib.hid (hB.out.up hb)
              replace hN := Lib.hid (hN.out.up hb)
              clear PS hb
              go_wp2
              go_roundw
              case rel => exact ⟨i + 1, by omega, by go_num, hB, hN⟩
              case measure => simp [intOf]; omega
            · have d3 : decide ((i : Int) < 12) = false := by simp; omega
              clear hN
              go_wp2
              go_roundw
              case rel => exact ⟨m + 1, by omega, by go_num, hB⟩
              case measure => simp [intOf]; omega
        · have d2 : decide ((m : Int) < 14) = false := by simp; omega
          have hS : Hid (NmS w wr) := Lib.hid ⟨hB.out.bel⟩
          clear hB hzu
          go_wp2
          go_roundw
          case rel => exact ⟨k + 1, by omega, by go_num, hS⟩
          case measure => simp [intOf]; omega
    · have d1 : decide ((k : Int) < 40) = false := by simp; omega
      go_upto_region 16 with fail
      replace hS := Lib.hid (hS.out.up ((Below.refl _ _).drew))
      have P1 := Lib.hid (fun w' : World => usame_c K (zU_k w') zU_sz 0 0 (i64s (by omega) (by omega)) (i64s (by omega) (by omega)))
      have P6 := Lib.hid (fun (w' : World) (a b : Option Addr) (hm : MtV w' (.slice a 1 1) [⟨0, 0, [], []⟩]) (ho : ObV w' (.slice b 1 1) [⟨0, []⟩]) => usame_c K (oneU_k hm ho) oneU_sz (-9223372036854775808) 4611686018427387904 ⟨by omega, by omega⟩ ⟨by omega, by omega⟩)
      have hmm : ∀ w, (Instr.makeSlice 24 (.int .i64 1) (.int .i64 1)).run Tryz.prog w = .ok (.slice (some ⟨w.heap.size, 0, none⟩) 1 1) (w.alloc (.cells #[.int .i64 0, .int .i64 0, .slice none 0 0, .slice none 0 0] 50)) := umk_mt
      have hmo : ∀ w, (Instr.makeSlice 25 (.int .i64 1) (.int .i64 1)).run Tryz.prog w = .ok (.slice (some ⟨w.heap.size, 0, none⟩) 1 1) (w.alloc (.cells #[.int .i64 0, .slice none 0 0] 55)) := umk_ob
      refine wp_region_held_drew (S := (fun wr' => NmS w wr')) (by kernel_rfl) ?_ (fun hHeld => ?_)
      · (try dsimp only); exact hS.out
      try simp only [Act.put, nA]
      refine tk (i := 0) (oi := ⟨some 42, .build 27 #[], 27, "law.go:103", #[], none⟩) ?_
      try simp only [Act.put, nA]
      refine wpAnyH_ready (rs := [1]) (by kernel_rfl) (by simp) ?_
      refine AllReadyH.cons (o := ⟨some 43, .call { callee := .value (.func 8), args := #[.tmp 42, .const (.int .i64 0), .const (.int .i64 0)], argTypes := #[27, 3, 3] }, 4, "law.go:103", #[⟨0, .data⟩], none⟩) rfl (fun K9 hK => ?_) ?_
      · go_simp
        with_reducible refine (P1.out _).mono ?_
        rintro e y1 ⟨rfl, hb⟩
        replace hS := Lib.hid (hS.out.up hb)
        clear hb
        go_wp2_with fail
        refine hK.out _ _ ?_ ?_
        · (try dsimp only); exact hS.out
        clear hK K9 hHeld; intro hHeld
        try simp only [Act.put, nA]
        refine tk (i := 2) (oi := ⟨some 44, .move (.tmp 43), 4, "law.go:103", #[⟨1, .data⟩, ⟨1, .chain⟩], none⟩) ?_
        try simp only [Act.put, nA]
        refine wpAnyH_ready (rs := [3, 4]) (by kernel_rfl) (by simp) ?_
        refine AllReadyH.cons (o := ⟨some 45, .makeSlice 24 (.const (.int .i64 1)) (.const (.int .i64 1)), 24, "law.go:103", #[⟨2, .guard⟩], some (2, true)⟩) rfl (fun K9 hK => ?_) ?_
        · go_simp
          have hn3 := Lib.hid (umt_new y1)
          have hba := (Below.refl y1.heap.size y1).alloc (Nat.le_refl _) (.cells #[.int .i64 0, .int .i64 0, .slice none 0 0, .slice none 0 0] 50)
          replace hS := Lib.hid (hS.out.up hba)
          clear hba
          generalize hgy : y1.alloc (.cells #[.int .i64 0, .int .i64 0, .slice none 0 0, .slice none 0 0] 50) = y2 at *
          clear hgy
          generalize y1.heap.size = bm at *
          refine hK.out _ _ ?_ ?_
          · (try dsimp only); exact hS.out
          clear hK K9 hHeld; intro hHeld
          try simp only [Act.put, nA]
          refine wpAnyH_ready (rs := [4]) (by kernel_rfl) (by simp) ?_
          refine AllReadyH.cons (o := ⟨some 46, .makeSlice 25 (.const (.int .i64 1)) (.const (.int .i64 1)), 25, "law.go:103", #[⟨2, .guard⟩], some (2, true)⟩) rfl (fun K9 hK => ?_) ?_
          · go_simp
            have hn4 := Lib.hid (uob_new y2)
            have hba := (Below.refl y2.heap.size y2).alloc (Nat.le_refl _) (.cells #[.int .i64 0, .slice none 0 0] 55)
            replace hS := Lib.hid (hS.out.up hba)
            replace hn3 := Lib.hid (hn3.out.up hba)
            clear hba
            generalize hgy : y2.alloc (.cells #[.int .i64 0, .slice none 0 0] 55) = y3 at *
            clear hgy
            generalize y2.heap.size = bo at *
            refine hK.out _ _ ?_ ?_
            · (try dsimp only); exact hS.out
            clear hK K9 hHeld; intro hHeld
            try simp only [Act.put, nA]
            refine tk (i := 5) (oi := ⟨some 47, .build 27 #[(2, .tmp 45), (3, .tmp 46)], 27, "law.go:103", #[⟨3, .data⟩, ⟨4, .data⟩, ⟨2, .guard⟩], some (2, true)⟩) ?_
            try simp only [Act.put, nA]
            refine wpAnyH_ready (rs := [6]) (by kernel_rfl) (by simp) ?_
            refine AllReadyH.cons (o := ⟨some 48, .call { callee := .value (.func 8), args := #[.tmp 47, .const (.int .i64 (-9223372036854775808)), .const (.int .i64 4611686018427387904)], argTypes := #[27, 3, 3] }, 4, "law.go:103", #[⟨5, .data⟩, ⟨2, .chain⟩, ⟨2, .guard⟩], some (2, true)⟩) rfl (fun K9 hK => ?_) ?_
            · go_simp
              with_reducible refine (P6.out _ _ _ hn3.out hn4.out).mono ?_
              rintro e y4 ⟨rfl, hb⟩
              replace hS := Lib.hid (hS.out.up hb)
              clear hb
              go_wp2_with fail
              refine hK.out _ _ ?_ ?_
              · (try dsimp only); exact hS.out
              clear hK K9 hHeld; intro hHeld
              try simp only [Act.put, nA]
              refine tk (i := 7) (oi := ⟨some 49, .pick (.tmp 44) (.tmp 48) (.const (.bool false)), 4, "law.go:103", #[⟨2, .data⟩, ⟨6, .data⟩], none⟩) ?_
              try simp only [Act.put, nA]
              refine tk (i := 8) (oi := ⟨some 50, .move (.tmp 49), 4, "law.go:103", #[⟨7, .data⟩, ⟨6, .chain⟩], none⟩) ?_
              try simp only [Act.put, nA]
              refine wpAnyH_ready (rs := [9]) (by kernel_rfl) (by simp) ?_
              refine AllReadyH.cons (o := ⟨some 51, .call { callee := .value (.func 10), args := #[], argTypes := #[] }, 4, "law.go:103", #[⟨8, .chain⟩, ⟨8, .guard⟩], some (8, true)⟩) rfl (fun K9 hK => ?_) ?_
              · go_simp
                with_reducible refine (PN.out _).mono ?_
                rintro e y5 ⟨rfl, hb⟩
                replace hS := Lib.hid (hS.out.up hb)
                clear hb
                go_wp2_with fail
                refine hK.out _ _ ?_ ?_
                · (try dsimp only); exact hS.out
                clear hK K9 hHeld; intro hHeld
                try simp only [Act.put, nA]
                refine tk (i := 10) (oi := ⟨some 52, .pick (.tmp 50) (.tmp 51) (.const (.bool false)), 4, "law.go:103", #[⟨8, .data⟩, ⟨9, .data⟩], none⟩) ?_
                try simp only [Act.put, nA]
                refine tk (i := 11) (oi := ⟨some 0, .assign (.tmp 52), 4, "law.go:103", #[⟨10, .data⟩, ⟨9, .chain⟩, ⟨0, .phase⟩, ⟨1, .phase⟩, ⟨2, .phase⟩, ⟨3, .phase⟩, ⟨4, .phase⟩, ⟨5, .phase⟩, ⟨6, .phase⟩, ⟨7, .phase⟩, ⟨8, .phase⟩, ⟨9, .phase⟩, ⟨10, .phase⟩], none⟩) ?_
                try simp only [Act.put, List.setIfInBounds_toArray, List.set_cons_zero]
                refine wpAnyH_done (by kernel_rfl) ?_ _
                go_wp2_with fail
                go_ret
                exact ⟨by simp, hS.out.bel⟩
              exact AllReadyH.nil
            exact AllReadyH.nil
          exact AllReadyH.nil
        refine AllReadyH.cons (o := ⟨some 46, .makeSlice 25 (.const (.int .i64 1)) (.const (.int .i64 1)), 25, "law.go:103", #[⟨2, .guard⟩], some (2, true)⟩) rfl (fun K9 hK => ?_) ?_
        · go_simp
          have hn4 := Lib.hid (uob_new y1)
          have hba := (Below.refl y1.heap.size y1).alloc (Nat.le_refl _) (.cells #[.int .i64 0, .slice none 0 0] 55)
          replace hS := Lib.hid (hS.out.up hba)
          clear hba
          generalize hgy : y1.alloc (.cells #[.int .i64 0, .slice none 0 0] 55) = y2 at *
          clear hgy
          generalize y1.heap.size = bo at *
          refine hK.out _ _ ?_ ?_
          · (try dsimp only); exact hS.out
          clear hK K9 hHeld; intro hHeld
          try simp only [Act.put, nA]
          refine wpAnyH_ready (rs := [3]) (by kernel_rfl) (by simp) ?_
          refine AllReadyH.cons (o := ⟨some 45, .makeSlice 24 (.const (.int .i64 1)) (.const (.int .i64 1)), 24, "law.go:103", #[⟨2, .guard⟩], some (2, true)⟩) rfl (fun K9 hK => ?_) ?_
          · go_simp
            have hn3 := Lib.hid (umt_new y2)
            have hba := (Below.refl y2.heap.size y2).alloc (Nat.le_refl _) (.cells #[.int .i64 0, .int .i64 0, .slice none 0 0, .slice none 0 0] 50)
            replace hS := Lib.hid (hS.out.up hba)
            replace hn4 := Lib.hid (hn4.out.up hba)
            clear hba
            generalize hgy : y2.alloc (.cells #[.int .i64 0, .int .i64 0, .slice none 0 0, .slice none 0 0] 50) = y3 at *
            clear hgy
            generalize y2.heap.size = bm at *
            refine hK.out _ _ ?_ ?_
            · (try dsimp only); exact hS.out
            clear hK K9 hHeld; intro hHeld
            try simp only [Act.put, nA]
            refine tk (i := 5) (oi := ⟨some 47, .build 27 #[(2, .tmp 45), (3, .tmp 46)], 27, "law.go:103", #[⟨3, .data⟩, ⟨4, .data⟩, ⟨2, .guard⟩], some (2, true)⟩) ?_
            try simp only [Act.put, nA]
            refine wpAnyH_ready (rs := [6]) (by kernel_rfl) (by simp) ?_
            refine AllReadyH.cons (o := ⟨some 48, .call { callee := .value (.func 8), args := #[.tmp 47, .const (.int .i64 (-9223372036854775808)), .const (.int .i64 4611686018427387904)], argTypes := #[27, 3, 3] }, 4, "law.go:103", #[⟨5, .data⟩, ⟨2, .chain⟩, ⟨2, .guard⟩], some (2, true)⟩) rfl (fun K9 hK => ?_) ?_
            · go_simp
              with_reducible refine (P6.out _ _ _ hn3.out hn4.out).mono ?_
              rintro e y4 ⟨rfl, hb⟩
              replace hS := Lib.hid (hS.out.up hb)
              clear hb
              go_wp2_with fail
              refine hK.out _ _ ?_ ?_
              · (try dsimp only); exact hS.out
              clear hK K9 hHeld; intro hHeld
              try simp only [Act.put, nA]
              refine tk (i := 7) (oi := ⟨some 49, .pick (.tmp 44) (.tmp 48) (.const (.bool false)), 4, "law.go:103", #[⟨2, .data⟩, ⟨6, .data⟩], none⟩) ?_
              try simp only [Act.put, nA]
              refine tk (i := 8) (oi := ⟨some 50, .move (.tmp 49), 4, "law.go:103", #[⟨7, .data⟩, ⟨6, .chain⟩], none⟩) ?_
              try simp only [Act.put, nA]
              refine wpAnyH_ready (rs := [9]) (by kernel_rfl) (by simp) ?_
              refine AllReadyH.cons (o := ⟨some 51, .call { callee := .value (.func 10), args := #[], argTypes := #[] }, 4, "law.go:103", #[⟨8, .chain⟩, ⟨8, .guard⟩], some (8, true)⟩) rfl (fun K9 hK => ?_) ?_
              · go_simp
                with_reducible refine (PN.out _).mono ?_
                rintro e y5 ⟨rfl, hb⟩
                replace hS := Lib.hid (hS.out.up hb)
                clear hb
                go_wp2_with fail
                refine hK.out _ _ ?_ ?_
                · (try dsimp only); exact hS.out
                clear hK K9 hHeld; intro hHeld
                try simp only [Act.put, nA]
                refine tk (i := 10) (oi := ⟨some 52, .pick (.tmp 50) (.tmp 51) (.const (.bool false)), 4, "law.go:103", #[⟨8, .data⟩, ⟨9, .data⟩], none⟩) ?_
                try simp only [Act.put, nA]
                refine tk (i := 11) (oi := ⟨some 0, .assign (.tmp 52), 4, "law.go:103", #[⟨10, .data⟩, ⟨9, .chain⟩, ⟨0, .phase⟩, ⟨1, .phase⟩, ⟨2, .phase⟩, ⟨3, .phase⟩, ⟨4, .phase⟩, ⟨5, .phase⟩, ⟨6, .phase⟩, ⟨7, .phase⟩, ⟨8, .phase⟩, ⟨9, .phase⟩, ⟨10, .phase⟩], none⟩) ?_
                try simp only [Act.put, List.setIfInBounds_toArray, List.set_cons_zero]
                refine wpAnyH_done (by kernel_rfl) ?_ _
                go_wp2_with fail
                go_ret
                exact ⟨by simp, hS.out.bel⟩
              exact AllReadyH.nil
            exact AllReadyH.nil
          exact AllReadyH.nil
        exact AllReadyH.nil
      exact AllReadyH.nil
end Wd
end Go.Proofs.YtgfdgdbkifkehaaGreat
