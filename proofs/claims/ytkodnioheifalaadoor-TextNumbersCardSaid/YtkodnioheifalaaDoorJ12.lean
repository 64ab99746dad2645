/- Texts joined: TLS, TLT. -/
import Derived.Test.YtkodnioheifalaaDoorJ11
import Derived.Deep.RegionHeld3
/- The laws of text: known. -/
namespace Go.Proofs.YtkodnioheifalaaDoor
open Go.RowKit
set_option linter.unusedVariables false
set_option maxRecDepth 20000
namespace Wd
theorem bs_toL (l : Bs) : (bs l).toList = l := by rw [Lib.toList_data, bs_list]
set_option maxHeartbeats 16000000 in
theorem known_c {w : World} (hG : Gl w) : Calls Tryd.prog 13 #[] w fun e w' => e = .returned (.bool true) ∧ Below w.heap.size w w' := by
  have hM : Hid (Mb (((w.alloc (.cells #[.int .i64 3, .int .i64 (-5)] 49)).alloc (.cells #[.int .u8 7, .int .u8 255, .int .u8 99, .int .u8 1, .int .u8 14, .int .u8 0, .int .u8 7] 5)).alloc (.cells #[.int .i64 1, .int .i64 2, .slice (some ⟨w.heap.size, 0, none⟩) 1 1, .slice (some ⟨w.heap.size + 1, 0, none⟩) 7 7] 37)) (w.heap.size + 1 + 1) (some ⟨w.heap.size, 0, none⟩) 1 (some ⟨w.heap.size + 1, 0, none⟩) 7 kM) := by
    have := Mb.born (m := kM) (kM_v w)
    simp only [World.size_alloc] at this
    exact Lib.hid this
  have hB : Hid (Below w.heap.size w (((w.alloc (.cells #[.int .i64 3, .int .i64 (-5)] 49)).alloc (.cells #[.int .u8 7, .int .u8 255, .int .u8 99, .int .u8 1, .int .u8 14, .int .u8 0, .int .u8 7] 5)).alloc (.cells #[.int .i64 1, .int .i64 2, .slice (some ⟨w.heap.size, 0, none⟩) 1 1, .slice (some ⟨w.heap.size + 1, 0, none⟩) 7 7] 37))) := Lib.hid (((((Below.refl _ _).alloc (Nat.le_refl _) _).alloc (by simp) _).alloc (by simp; omega) _))
  have hG' := Lib.hid hG
  clear hG
  go_enter Tryd.func13, Tryd.ntmps13
  go_upto_region 2 with fail
  generalize ((w.alloc (.cells #[.int .i64 3, .int .i64 (-5)] 49)).alloc (.cells #[.int .u8 7, .int .u8 255, .int .u8 99, .int .u8 1, .int .u8 14, .int .u8 0, .int .u8 7] 5)).alloc (.cells #[.int .i64 1, .int .i64 2, .slice (some ⟨w.heap.size, 0, none⟩) 1 1, .slice (some ⟨w.heap.size + 1, 0, none⟩) 7 7] 37) = W at *
  obtain ⟨a0, a1, a2, a3⟩ : W.cell? ⟨w.heap.size + 1 + 1, 0, none⟩ = some (.int .i64 1) ∧ W.cell? ⟨w.heap.size + 1 + 1, 1, none⟩ = some (.int .i64 2) ∧ W.cell? ⟨w.heap.size + 1 + 1, 2, none⟩ = some (.slice (some ⟨w.heap.size, 0, none⟩) 1 1) ∧ W.cell? ⟨w.heap.size + 1 + 1, 3, none⟩ = some (.slice (some ⟨w.heap.size + 1, 0, none⟩) 7 7) := hM.out.c
  have C1 : Hid (Calls Tryd.prog 15 #[.agg #[.int .i64 1, .int .i64 2, .slice (some ⟨w.heap.size, 0, none⟩) 1 1, .slice (some ⟨w.heap.size + 1, 0, none⟩) 7 7]] W fun e w' => e = .returned (.string (bs kT)) ∧ Below W.heap.size W w') := by
    have := print_c hM.out.v (hG'.out.up hB.out) (by decide) (by decide)
    rw [show printR kM.args kM.temps kM.lits kM.code = kT from kT_eq] at this
    exact Lib.hid this
  go_upto_region 3 with (go_at_call 15; (with_reducible refine C1.out.mono ?_); rintro e y1 ⟨rfl, hb⟩)
  clear a0 a1 a2 a3 C1
  replace hM := Lib.hid (hM.out.up hb)
  replace hB := Lib.hid (hB.out.trans (hb.mono hB.out.size))
  clear hb
  obtain ⟨kk, hkk⟩ := kT_par
  have C2 := parse_c kT (by decide) y1
  rw [hkk] at C2
  replace C2 := Lib.hid C2
  clear hkk
  go_upto_region 4 with (go_at_call 12; (with_reducible refine C2.out.mono ?_); rintro e y2 ⟨⟨xv, rfl, hxv⟩, hb⟩; obtain ⟨la, lc, ca, cc, rfl, hX⟩ := me_form hxv)
  replace hM := Lib.hid (hM.out.up hb)
  replace hB := Lib.hid (hB.out.trans (hb.mono hB.out.size))
  clear hb
  have hX1 : Hid (Mb (y2.alloc (.cells #[.int .i64 1, .int .i64 2, .slice la 1 lc, .slice ca 7 cc] 37)) y2.heap.size la lc ca cc kM) := Lib.hid (Mb.born (m := kM) hX)
  have hba := (Below.refl y2.heap.size y2).alloc (Nat.le_refl _) (.cells #[.int .i64 1, .int .i64 2, .slice la 1 lc, .slice ca 7 cc] 37)
  replace hM := Lib.hid (hM.out.up hba)
  replace hB := Lib.hid (hB.out.trans (hba.mono hB.out.size))
  clear hba hX hxv C2
  generalize y2.alloc (.cells #[.int .i64 1, .int .i64 2, .slice la 1 lc, .slice ca 7 cc] 37) = W2 at *
  obtain ⟨q3, hq3⟩ : ∃ q, y2.heap.size = q := ⟨_, rfl⟩
  simp only [hq3] at hX1 ⊢
  clear hq3
  have C3 : Hid (Calls Tryd.prog 12 #[.string (bs [])] W2 fun e w' => (∃ v, e = .returned (.tuple #[v, .int .i64 1]) ∧ MeV w' v ⟨0, 0, [], []⟩) ∧ Below W2.heap.size W2 w') := by
    have := parse_c [] (by decide) W2
    rw [k_nil] at this
    exact Lib.hid this
  go_upto_region 5 with (go_at_call 12; (refine C3.out.mono ?_); rintro e y3 ⟨⟨zv, rfl, hzv⟩, hb⟩; obtain ⟨lz, nz, cz, dz, rfl, _⟩ := me_form hzv)
  replace hM := Lib.hid (hM.out.up hb)
  replace hB := Lib.hid (hB.out.trans (hb.mono hB.out.size))
  replace hX1 := Lib.hid (hX1.out.up hb)
  clear hb
  clear C3 hzv
  have hba := (Below.refl y3.heap.size y3).alloc (Nat.le_refl _) (.cells #[.int .i64 0, .int .i64 0, .slice lz 0 nz, .slice cz 0 dz] 37)
  replace hM := Lib.hid (hM.out.up hba)
  replace hX1 := Lib.hid (hX1.out.up hba)
  replace hB := Lib.hid (hB.out.trans (hba.mono hB.out.size))
  clear hba
  generalize y3.alloc (.cells #[.int .i64 0, .int .i64 0, .slice lz 0 nz, .slice cz 0 dz] 37) = W3 at *
  have C4 := value_c [110, 117, 109, 32, 48, 53] (by decide) W3
  rw [k_bad] at C4
  replace C4 := Lib.hid C4
  go_upto_region 6 with (go_at_call 18; (refine C4.out.mono ?_); rintro e y4 ⟨rfl, hb⟩)
  replace hM := Lib.hid (hM.out.up hb)
  replace hB := Lib.hid (hB.out.trans (hb.mono hB.out.size))
  replace hX1 := Lib.hid (hX1.out.up hb)
  clear hb
  clear C4
  have hba := (Below.refl y4.heap.size y4).alloc (Nat.le_refl _) (.cells #[.int .i64 0, .int .i64 0] 49)
  replace hM := Lib.hid (hM.out.up hba)
  replace hX1 := Lib.hid (hX1.out.up hba)
  replace hB := Lib.hid (hB.out.trans (hba.mono hB.out.size))
  clear hba
  generalize y4.alloc (.cells #[.int .i64 0, .int .i64 0] 49) = W4 at *
  have C5 := value_c [98, 108, 107, 32, 51] (by decide) W4
  rw [k_blk] at C5
  replace C5 := Lib.hid C5
  go_upto_region 7 with (go_at_call 18; (refine C5.out.mono ?_); rintro e y5 ⟨rfl, hb⟩)
  replace hM := Lib.hid (hM.out.up hb)
  replace hB := Lib.hid (hB.out.trans (hb.mono hB.out.size))
  replace hX1 := Lib.hid (hX1.out.up hb)
  clear hb
  clear C5
  have hba := (Below.refl y5.heap.size y5).alloc (Nat.le_refl _) (.cells #[.int .i64 7, .int .i64 3] 49)
  have hV := Lib.hid (heap_alloc_new y5 (.cells #[.int .i64 7, .int .i64 3] 49))
  replace hM := Lib.hid (hM.out.up hba)
  replace hX1 := Lib.hid (hX1.out.up hba)
  replace hB := Lib.hid (hB.out.trans (hba.mono hB.out.size))
  clear hba
  generalize y5.alloc (.cells #[.int .i64 7, .int .i64 3] 49) = W5 at *
  obtain ⟨q9, hq9⟩ : ∃ q, y5.heap.size = q := ⟨_, rfl⟩
  simp only [hq9] at hV ⊢
  clear hq9
  obtain ⟨a0, a1, a2, a3⟩ : W5.cell? ⟨w.heap.size + 1 + 1, 0, none⟩ = some (.int .i64 1) ∧ W5.cell? ⟨w.heap.size + 1 + 1, 1, none⟩ = some (.int .i64 2) ∧ W5.cell? ⟨w.heap.size + 1 + 1, 2, none⟩ = some (.slice (some ⟨w.heap.size, 0, none⟩) 1 1) ∧ W5.cell? ⟨w.heap.size + 1 + 1, 3, none⟩ = some (.slice (some ⟨w.heap.size + 1, 0, none⟩) 7 7) := hM.out.c
  obtain ⟨b0, b1, b2, b3⟩ : W5.cell? ⟨q3, 0, none⟩ = some (.int .i64 1) ∧ W5.cell? ⟨q3, 1, none⟩ = some (.int .i64 2) ∧ W5.cell? ⟨q3, 2, none⟩ = some (.slice la 1 lc) ∧ W5.cell? ⟨q3, 3, none⟩ = some (.slice ca 7 cc) := hX1.out.c
  have g1 : ((bs kT).toList == ([109, 101, 116, 104, 111, 100, 32, 49, 32, 50, 10, 108, 105, 116, 32, 110, 117, 109, 32, 45, 53, 10, 32, 32, 112, 117, 115, 104, 110, 117, 109, 32, 45, 49, 10, 32, 32, 111, 112, 57, 57, 32, 49, 10, 32, 32, 114, 101, 116, 117, 114, 110, 32, 48, 10, 98, 121, 116, 101, 32, 55, 10] : List UInt8)) = true := by rw [bs_toL]; rfl
  have C6 : Hid (Calls Tryd.prog 16 #[.agg #[.int .i64 1, .int .i64 2, .slice (some ⟨w.heap.size, 0, none⟩) 1 1, .slice (some ⟨w.heap.size + 1, 0, none⟩) 7 7], .agg #[.int .i64 1, .int .i64 2, .slice la 1 lc, .slice ca 7 cc]] W5 fun e w' => e = .returned (.bool true) ∧ Below W5.heap.size W5 w') := Lib.hid (rsamem_c hM.out.v hX1.out.v)
  have C7 : Hid (∀ y, Gl y → Calls Tryd.prog 17 #[.agg #[.int .i64 3, .int .i64 5]] y fun e w' => e = .returned (.string (bs [110, 117, 109, 32, 53])) ∧ Below y.heap.size y w') := Lib.hid (fun y hy => by
    have := lit_c (w := y) (k := 3) (n := 5) ⟨by decide, by decide⟩ hy
    rw [k_num] at this
    exact this)
  have C8 : Hid (∀ y, Gl y → Calls Tryd.prog 17 #[.agg #[.int .i64 0, .int .i64 0]] y fun e w' => e = .returned (.string (bs [])) ∧ Below y.heap.size y w') := Lib.hid (fun y hy => by
    have := lit_c (w := y) (k := 0) (n := 0) ⟨by decide, by decide⟩ hy
    rw [k_no] at this
    exact this)
  have g2 : ((bs [110, 117, 109, 32, 53]).toList == ([110, 117, 109, 32, 53] : List UInt8)) = true := by rw [bs_toL]; rfl
  have g3 := bs_em
  generalize bs kT = T1 at *
  go_wp2_with (first
    | (go_at_call 16; (with_reducible refine C6.out.mono ?_); rintro e y6 ⟨rfl, hb⟩; (replace hB := Lib.hid (hB.out.trans (hb.mono hB.out.size))); (replace hV := Lib.hid (blk_up hV.out hb)); clear hb; (have v0 : y6.cell? ⟨q9, 0, none⟩ = some (.int .i64 7) := by rw [Lib.cell_of_heap hV.out]; rfl); (have v1 : y6.cell? ⟨q9, 1, none⟩ = some (.int .i64 3) := by rw [Lib.cell_of_heap hV.out]; rfl))
    | (go_at_call 17; (with_reducible refine (C7.out _ (hG'.out.up hB.out)).mono ?_); rintro e y7 ⟨rfl, hb⟩; (replace hB := Lib.hid (hB.out.trans (hb.mono hB.out.size))); clear hb)
    | (go_at_call 17; (with_reducible refine (C8.out _ (hG'.out.up hB.out)).mono ?_); rintro e y8 ⟨rfl, hb⟩; (replace hB := Lib.hid (hB.out.trans (hb.mono hB.out.size))); clear hb))
  go_ret
  exact ⟨rfl, hB.out⟩
end Wd
end Go.Proofs.YtkodnioheifalaaDoor

/- TextLits. -/
namespace Go.Proofs.YtkodnioheifalaaDoor
open Go.RowKit
set_option linter.unusedVariables false
set_option maxRecDepth 20000
namespace Wd
theorem i64_and3 (n : Int) : bits .and .i64 n 3 = n % 4 := by
  have h : (BitVec.ofInt 64 3).toNat = 2 ^ 2 - 1 := by decide
  have key : (BitVec.ofInt 64 n &&& BitVec.ofInt 64 3).toNat = (n % ((2 ^ 64 : Nat) : Int)).toNat % 2 ^ 2 := by
    rw [BitVec.toNat_and, BitVec.toNat_ofInt, h, Nat.and_two_pow_sub_one_eq_mod]
  show IntKind.i64.wrap ((BitVec.ofInt 64 n &&& BitVec.ofInt 64 3).toNat : Nat) = n % 4
  rw [key, IntKind.wrap_i64]
  omega
def kAt (j : Nat) : Int := [3, 5, 6, 7].getD j 0
theorem kAt_ok {j : Nat} (h : j < 4) : knd (kAt j) ≠ [] ∧ In64 (kAt j) := by
  rcases (show j = 0 ∨ j = 1 ∨ j = 2 ∨ j = 3 by omega) with rfl | rfl | rfl | rfl <;> exact ⟨by decide, by decide, by decide⟩
theorem val_some {l : Bs} {v : Int × Int} (h : valR l = some v) : valP l = (v, true) := by rw [val_eq, h]
theorem val_none {l : Bs} (h : valR l = none) : valP l = ((0, 0), false) := by rw [val_eq, h]
set_option maxHeartbeats 16000000 in
theorem lits_s {w : World} (hG : Gl w) (k : Int) (hk : In64 k) (n : Int) (hn : In64 n) (s : ByteArray) : Calls Tryd.prog 5 #[.int .i64 k, .int .i64 n, .string s] w fun e w' => e = .returned (.bool true) ∧ Below w.heap.size w w' := by
  obtain ⟨j, hj, hj4⟩ : ∃ j : Nat, bits .and .i64 k 3 = j ∧ j < 4 := ⟨(k % 4).toNat, by rw [i64_and3]; omega, by omega⟩
  have hr0 := Int.natAbs_tmod n 1073741824
  have hr1 : -1073741824 < Int.tmod n 1073741824 ∧ Int.tmod n 1073741824 < 1073741824 := by
    have : n.natAbs % (1073741824 : Int).natAbs < 1073741824 := Nat.mod_lt _ (by decide)
    omega
  obtain ⟨r1, r2⟩ := hr1
  clear hr0
  obtain ⟨hkk, hk64⟩ := kAt_ok hj4
  obtain ⟨r, hrn⟩ : ∃ r, Int.tmod n 1073741824 = r := ⟨_, rfl⟩
  rw [hrn] at r1 r2
  have hgo : goV (kAt j, r) = true := goV_iff.2 ⟨hkk, by omega, by omega⟩
  have v1 := val_some (valR_iff.2 ⟨hgo, rfl⟩)
  have v2 := val_none (valR_more hgo)
  have v3 := val_none (valR_ahead (litB (kAt j, r)))
  have hne := litB_ne hgo
  have hlen := litB_len (kAt j, r)
  have g1 := bs_nem hne
  have CL := Lib.hid (fun y (hy : Gl y) => lit_c (w := y) (k := kAt j) (n := r) ⟨by omega, by omega⟩ hy)
  have C1 := Lib.hid (fun y => value_c (litB (kAt j, r)) (by omega) y)
  rw [v1] at C1
  simp only at C1
  have C2 : Hid (∀ y, Calls Tryd.prog 18 #[.string (bs (litB (kAt j, r)) ++ ⟨#[32]⟩)] y fun e w' => e = .returned (.tuple #[.agg #[.int .i64 0, .int .i64 0], .bool false]) ∧ Below y.heap.size y w') := Lib.hid (fun y => by
    have := value_c (litB (kAt j, r) ++ [32]) (by rw [List.length_append]; simp; omega) y
    rw [v2, ← bs_app] at this
    exact this)
  have C3 : Hid (∀ y, Calls Tryd.prog 18 #[.string (⟨#[32]⟩ ++ bs (litB (kAt j, r)))] y fun e w' => e = .returned (.tuple #[.agg #[.int .i64 0, .int .i64 0], .bool false]) ∧ Below y.heap.size y w') := Lib.hid (fun y => by
    have := value_c ([32] ++ litB (kAt j, r)) (by simp; omega) y
    rw [show valP ([32] ++ litB (kAt j, r)) = _ from v3, ← bs_app] at this
    exact this)
  have s1 : ¬ (9223372036854775807 : Nat) < (bs (litB (kAt j, r))).size + 1 := by rw [bs_size]; omega
  have s2 : ¬ (9223372036854775807 : Nat) < 1 + (bs (litB (kAt j, r))).size := by rw [bs_size]; omega
  have C4 := Lib.hid (fun y => value_c (s.data.toList.take 20) (by rw [List.length_take]; omega) y)
  have CY : Hid (∀ v, valP (s.data.toList.take 20) = (v, true) → In64 v.2 ∧ s.data.toList.take 20 = litB v) := Lib.hid (fun v h => by
    obtain ⟨h1, h2⟩ := valR_iff.1 (val_sound h)
    obtain ⟨_, h3, h4⟩ := goV_iff.1 h1
    exact ⟨⟨by omega, by omega⟩, h2⟩)
  have hs20 : s.size ≤ 20 → bs (s.data.toList.take 20) = s := fun h => by
    rw [List.take_of_length_le (by rw [← Lib.size_eq]; exact h), bs_eta]
  have hx20 : bs (s.data.toList.take 20) = s.extract 0 20 := by
    rw [← bs_take, bs_eta]
  clear v1 v2 v3 hne hlen hgo hkk hk64 r1 r2 hk hn
  replace hG := Lib.hid hG
  generalize litB (kAt j, r) = X at *
  have KnC := Lib.hid (fun y (hy : Gl y) => known_c hy)
  by_cases h20 : s.size ≤ 20
  · have d20 : decide ((s.size : Int) > 20) = false := by simp; omega
    replace hs20 := Lib.hid (hs20 h20)
    rw [hs20.out] at C4
    clear hx20
    rcases (show j = 0 ∨ j = 1 ∨ j = 2 ∨ j = 3 by omega) with rfl | rfl | rfl | rfl
    · change Hid (∀ y, Gl y → Calls _ _ #[.agg #[.int .i64 3, .int .i64 r]] y _) at CL
      change Hid (∀ y, Calls _ _ _ y (fun e w' => e = .returned (.tuple #[.agg #[.int .i64 3, .int .i64 r], .bool true]) ∧ _)) at C1
      go_enter Tryd.func5, Tryd.ntmps5
      have hV : Hid (((w.alloc (.cells #[.int .i64 3, .int .i64 5, .int .i64 6, .int .i64 7] 3)).alloc (.cells #[.int .i64 3, .int .i64 r] 49)).heap[w.heap.size + 1]? = some (.cells #[.int .i64 3, .int .i64 r] 49 (0, 0))) := by
        have := heap_alloc_new (w.alloc (.cells #[.int .i64 3, .int .i64 5, .int .i64 6, .int .i64 7] 3)) (.cells #[.int .i64 3, .int .i64 r] 49)
        simp only [World.size_alloc] at this
        exact Lib.hid this
      have hB : Hid (Below w.heap.size w ((w.alloc (.cells #[.int .i64 3, .int .i64 5, .int .i64 6, .int .i64 7] 3)).alloc (.cells #[.int .i64 3, .int .i64 r] 49))) := Lib.hid (((Below.refl _ _).alloc (Nat.le_refl _) _).alloc (by simp) _)
      go_upto_region 2 with fail
      generalize (w.alloc (.cells #[.int .i64 3, .int .i64 5, .int .i64 6, .int .i64 7] 3)).alloc (.cells #[.int .i64 3, .int .i64 r] 49) = W at *
      clear hrn hj
      have c0 : W.cell? ⟨w.heap.size + 1, 0, none⟩ = some (.int .i64 3) := by rw [Lib.cell_of_heap hV.out]; rfl
      have c1 : W.cell? ⟨w.heap.size + 1, 1, none⟩ = some (.int .i64 r) := by rw [Lib.cell_of_heap hV.out]; rfl
      go_upto_region 3 with (go_at_call 17; (with_reducible refine (CL.out _ (hG.out.up hB.out)).mono ?_); rintro e y1 ⟨rfl, hb⟩)
      replace hB := Lib.hid (hB.out.trans (hb.mono hB.out.size))
      replace hV := Lib.hid (blk_up hV.out hb)
      clear hb c0 c1
      go_upto_region 4 with (go_at_call 18; (with_reducible refine (C1.out _).mono ?_); rintro e y2 ⟨rfl, hb⟩)
      replace hB := Lib.hid (hB.out.trans (hb.mono hB.out.size))
      replace hV := Lib.hid (blk_up hV.out hb)
      clear hb
      have hb := (Below.refl y2.heap.size y2).alloc (Nat.le_refl _) (.cells #[.int .i64 3, .int .i64 r] 49)
      replace hB := Lib.hid (hB.out.trans (hb.mono hB.out.size))
      replace hV := Lib.hid (blk_up hV.out hb)
      have hV9 := Lib.hid (heap_alloc_new y2 (.cells #[.int .i64 3, .int .i64 r] 49))
      clear hb
      generalize y2.alloc (.cells #[.int .i64 3, .int .i64 r] 49) = W2 at *
      obtain ⟨q9, hq9⟩ : ∃ q, y2.heap.size = q := ⟨_, rfl⟩
      simp only [hq9] at hV9 ⊢
      clear hq9
      go_upto_region 5 with (go_at_call 18; (with_reducible refine (C2.out _).mono ?_); rintro e y3 ⟨rfl, hb⟩)
      replace hB := Lib.hid (hB.out.trans (hb.mono hB.out.size))
      replace hV := Lib.hid (blk_up hV.out hb)
      replace hV9 := Lib.hid (blk_up hV9.out hb)
      clear hb
      have hb := (Below.refl y3.heap.size y3).alloc (Nat.le_refl _) (.cells #[.int .i64 0, .int .i64 0] 49)
      replace hB := Lib.hid (hB.out.trans (hb.mono hB.out.size))
      replace hV := Lib.hid (blk_up hV.out hb)
      replace hV9 := Lib.hid (blk_up hV9.out hb)
      clear hb
      generalize y3.alloc (.cells #[.int .i64 0, .int .i64 0] 49) = W3 at *
      go_upto_region 6 with (go_at_call 18; (with_reducible refine (C3.out _).mono ?_); rintro e y4 ⟨rfl, hb⟩)
      replace hB := Lib.hid (hB.out.trans (hb.mono hB.out.size))
      replace hV := Lib.hid (blk_up hV.out hb)
      replace hV9 := Lib.hid (blk_up hV9.out hb)
      clear hb
      have hb := (Below.refl y4.heap.size y4).alloc (Nat.le_refl _) (.cells #[.int .i64 0, .int .i64 0] 49)
      replace hB := Lib.hid (hB.out.trans (hb.mono hB.out.size))
      replace hV := Lib.hid (blk_up hV.out hb)
      replace hV9 := Lib.hid (blk_up hV9.out hb)
      clear hb
      generalize y4.alloc (.cells #[.int .i64 0, .int .i64 0] 49) = W4 at *
      generalize hu : valP (s.data.toList.take 20) = u at *
      obtain ⟨⟨ua, ub⟩, uc⟩ := u
      simp only at C4
      go_upto_region 9 with (go_at_call 18; (with_reducible refine (C4.out _).mono ?_); rintro e y5 ⟨rfl, hb⟩)
      replace hB := Lib.hid (hB.out.trans (hb.mono hB.out.size))
      replace hV := Lib.hid (blk_up hV.out hb)
      replace hV9 := Lib.hid (blk_up hV9.out hb)
      clear hb
      have hb := (Below.refl y5.heap.size y5).alloc (Nat.le_refl _) (.cells #[.int .i64 ua, .int .i64 ub] 49)
      replace hB := Lib.hid (hB.out.trans (hb.mono hB.out.size))
      replace hV := Lib.hid (blk_up hV.out hb)
      replace hV9 := Lib.hid (blk_up hV9.out hb)
      have hU := Lib.hid (heap_alloc_new y5 (.cells #[.int .i64 ua, .int .i64 ub] 49))
      clear hb
      generalize y5.alloc (.cells #[.int .i64 ua, .int .i64 ub] 49) = W5 at *
      obtain ⟨qu, hqu⟩ : ∃ q, y5.heap.size = q := ⟨_, rfl⟩
      simp only [hqu] at hU ⊢
      clear hqu
      have c0 : W5.cell? ⟨w.heap.size + 1, 0, none⟩ = some (.int .i64 3) := by rw [Lib.cell_of_heap hV.out]; rfl
      have c1 : W5.cell? ⟨w.heap.size + 1, 1, none⟩ = some (.int .i64 r) := by rw [Lib.cell_of_heap hV.out]; rfl
      have e0 : W5.cell? ⟨q9, 0, none⟩ = some (.int .i64 3) := by rw [Lib.cell_of_heap hV9.out]; rfl
      have e1 : W5.cell? ⟨q9, 1, none⟩ = some (.int .i64 r) := by rw [Lib.cell_of_heap hV9.out]; rfl
      have u0 : W5.cell? ⟨qu, 0, none⟩ = some (.int .i64 ua) := by rw [Lib.cell_of_heap hU.out]; rfl
      have u1 : W5.cell? ⟨qu, 1, none⟩ = some (.int .i64 ub) := by rw [Lib.cell_of_heap hU.out]; rfl
      have rr : (r == r) = true := by simp
      cases uc with
      | false =>
        clear hu CY
        go_wp2_with (go_at_call 13; (with_reducible refine (KnC.out _ (hG.out.up hB.out)).mono ?_); rintro e y7 ⟨rfl, hb⟩; (replace hB := Lib.hid (hB.out.trans (hb.mono hB.out.size))); clear hb)
        go_ret
        exact ⟨rfl, hB.out⟩
      | true =>
        obtain ⟨hb64, hsl⟩ := CY.out (ua, ub) rfl
        simp only at hb64
        have CS := Lib.hid (lit_c (w := W5) (k := ua) (n := ub) hb64 (hG.out.up hB.out))
        rw [← hsl] at CS
        rw [hs20.out] at CS
        have gs : (s.toList == s.toList) = true := by simp
        clear hu CY hsl hb64
        go_wp2_with (first | (go_at_call 17; (with_reducible refine CS.out.mono ?_); rintro e y6 ⟨rfl, hb⟩; (replace hB := Lib.hid (hB.out.trans (hb.mono hB.out.size))); clear hb) | (go_at_call 13; (with_reducible refine (KnC.out _ (hG.out.up hB.out)).mono ?_); rintro e y7 ⟨rfl, hb⟩; (replace hB := Lib.hid (hB.out.trans (hb.mono hB.out.size))); clear hb))
        go_ret
        exact ⟨rfl, hB.out⟩
    · change Hid (∀ y, Gl y → Calls _ _ #[.agg #[.int .i64 5, .int .i64 r]] y _) at CL
      change Hid (∀ y, Calls _ _ _ y (fun e w' => e = .returned (.tuple #[.agg #[.int .i64 5, .int .i64 r], .bool true]) ∧ _)) at C1
      go_enter Tryd.func5, Tryd.ntmps5
      have hV : Hid (((w.alloc (.cells #[.int .i64 3, .int .i64 5, .int .i64 6, .int .i64 7] 3)).alloc (.cells #[.int .i64 5, .int .i64 r] 49)).heap[w.heap.size + 1]? = some (.cells #[.int .i64 5, .int .i64 r] 49 (0, 0))) := by
        have := heap_alloc_new (w.alloc (.cells #[.int .i64 3, .int .i64 5, .int .i64 6, .int .i64 7] 3)) (.cells #[.int .i64 5, .int .i64 r] 49)
        simp only [World.size_alloc] at this
        exact Lib.hid this
      have hB : Hid (Below w.heap.size w ((w.alloc (.cells #[.int .i64 3, .int .i64 5, .int .i64 6, .int .i64 7] 3)).alloc (.cells #[.int .i64 5, .int .i64 r] 49))) := Lib.hid (((Below.refl _ _).alloc (Nat.le_refl _) _).alloc (by simp) _)
      go_upto_region 2 with fail
      generalize (w.alloc (.cells #[.int .i64 3, .int .i64 5, .int .i64 6, .int .i64 7] 3)).alloc (.cells #[.int .i64 5, .int .i64 r] 49) = W at *
      clear hrn hj
      have c0 : W.cell? ⟨w.heap.size + 1, 0, none⟩ = some (.int .i64 5) := by rw [Lib.cell_of_heap hV.out]; rfl
      have c1 : W.cell? ⟨w.heap.size + 1, 1, none⟩ = some (.int .i64 r) := by rw [Lib.cell_of_heap hV.out]; rfl
      go_upto_region 3 with (go_at_call 17; (with_reducible refine (CL.out _ (hG.out.up hB.out)).mono ?_); rintro e y1 ⟨rfl, hb⟩)
      replace hB := Lib.hid (hB.out.trans (hb.mono hB.out.size))
      replace hV := Lib.hid (blk_up hV.out hb)
      clear hb c0 c1
      go_upto_region 4 with (go_at_call 18; (with_reducible refine (C1.out _).mono ?_); rintro e y2 ⟨rfl, hb⟩)
      replace hB := Lib.hid (hB.out.trans (hb.mono hB.out.size))
      replace hV := Lib.hid (blk_up hV.out hb)
      clear hb
      have hb := (Below.refl y2.heap.size y2).alloc (Nat.le_refl _) (.cells #[.int .i64 5, .int .i64 r] 49)
      replace hB := Lib.hid (hB.out.trans (hb.mono hB.out.size))
      replace hV := Lib.hid (blk_up hV.out hb)
      have hV9 := Lib.hid (heap_alloc_new y2 (.cells #[.int .i64 5, .int .i64 r] 49))
      clear hb
      generalize y2.alloc (.cells #[.int .i64 5, .int .i64 r] 49) = W2 at *
      obtain ⟨q9, hq9⟩ : ∃ q, y2.heap.size = q := ⟨_, rfl⟩
      simp only [hq9] at hV9 ⊢
      clear hq9
      go_upto_region 5 with (go_at_call 18; (with_reducible refine (C2.out _).mono ?_); rintro e y3 ⟨rfl, hb⟩)
      replace hB := Lib.hid (hB.out.trans (hb.mono hB.out.size))
      replace hV := Lib.hid (blk_up hV.out hb)
      replace hV9 := Lib.hid (blk_up hV9.out hb)
      clear hb
      have hb := (Below.refl y3.heap.size y3).alloc (Nat.le_refl _) (.cells #[.int .i64 0, .int .i64 0] 49)
      replace hB := Lib.hid (hB.out.trans (hb.mono hB.out.size))
      replace hV := Lib.hid (blk_up hV.out hb)
      replace hV9 := Lib.hid (blk_up hV9.out hb)
      clear hb
      generalize y3.alloc (.cells #[.int .i64 0, .int .i64 0] 49) = W3 at *
      go_upto_region 6 with (go_at_call 18; (with_reducible refine (C3.out _).mono ?_); rintro e y4 ⟨rfl, hb⟩)
      replace hB := Lib.hid (hB.out.trans (hb.mono hB.out.size))
      replace hV := Lib.hid (blk_up hV.out hb)
      replace hV9 := Lib.hid (blk_up hV9.out hb)
      clear hb
      have hb := (Below.refl y4.heap.size y4).alloc (Nat.le_refl _) (.cells #[.int .i64 0, .int .i64 0] 49)
      replace hB := Lib.hid (hB.out.trans (hb.mono hB.out.size))
      replace hV := Lib.hid (blk_up hV.out hb)
      replace hV9 := Lib.hid (blk_up hV9.out hb)
      clear hb
      generalize y4.alloc (.cells #[.int .i64 0, .int .i64 0] 49) = W4 at *
      generalize hu : valP (s.data.toList.take 20) = u at *
      obtain ⟨⟨ua, ub⟩, uc⟩ := u
      simp only at C4
      go_upto_region 9 with (go_at_call 18; (with_reducible refine (C4.out _).mono ?_); rintro e y5 ⟨rfl, hb⟩)
      replace hB := Lib.hid (hB.out.trans (hb.mono hB.out.size))
      replace hV := Lib.hid (blk_up hV.out hb)
      replace hV9 := Lib.hid (blk_up hV9.out hb)
      clear hb
      have hb := (Below.refl y5.heap.size y5).alloc (Nat.le_refl _) (.cells #[.int .i64 ua, .int .i64 ub] 49)
      replace hB := Lib.hid (hB.out.trans (hb.mono hB.out.size))
      replace hV := Lib.hid (blk_up hV.out hb)
      replace hV9 := Lib.hid (blk_up hV9.out hb)
      have hU := Lib.hid (heap_alloc_new y5 (.cells #[.int .i64 ua, .int .i64 ub] 49))
      clear hb
      generalize y5.alloc (.cells #[.int .i64 ua, .int .i64 ub] 49) = W5 at *
      obtain ⟨qu, hqu⟩ : ∃ q, y5.heap.size = q := ⟨_, rfl⟩
      simp only [hqu] at hU ⊢
      clear hqu
      have c0 : W5.cell? ⟨w.heap.size + 1, 0, none⟩ = some (.int .i64 5) := by rw [Lib.cell_of_heap hV.out]; rfl
      have c1 : W5.cell? ⟨w.heap.size + 1, 1, none⟩ = some (.int .i64 r) := by rw [Lib.cell_of_heap hV.out]; rfl
      have e0 : W5.cell? ⟨q9, 0, none⟩ = some (.int .i64 5) := by rw [Lib.cell_of_heap hV9.out]; rfl
      have e1 : W5.cell? ⟨q9, 1, none⟩ = some (.int .i64 r) := by rw [Lib.cell_of_heap hV9.out]; rfl
      have u0 : W5.cell? ⟨qu, 0, none⟩ = some (.int .i64 ua) := by rw [Lib.cell_of_heap hU.out]; rfl
      have u1 : W5.cell? ⟨qu, 1, none⟩ = some (.int .i64 ub) := by rw [Lib.cell_of_heap hU.out]; rfl
      have rr : (r == r) = true := by simp
      cases uc with
      | false =>
        clear hu CY
        go_wp2_with (go_at_call 13; (with_reducible refine (KnC.out _ (hG.out.up hB.out)).mono ?_); rintro e y7 ⟨rfl, hb⟩; (replace hB := Lib.hid (hB.out.trans (hb.mono hB.out.size))); clear hb)
        go_ret
        exact ⟨rfl, hB.out⟩
      | true =>
        obtain ⟨hb64, hsl⟩ := CY.out (ua, ub) rfl
        simp only at hb64
        have CS := Lib.hid (lit_c (w := W5) (k := ua) (n := ub) hb64 (hG.out.up hB.out))
        rw [← hsl] at CS
        rw [hs20.out] at CS
        have gs : (s.toList == s.toList) = true := by simp
        clear hu CY hsl hb64
        go_wp2_with (first | (go_at_call 17; (with_reducible refine CS.out.mono ?_); rintro e y6 ⟨rfl, hb⟩; (replace hB := Lib.hid (hB.out.trans (hb.mono hB.out.size))); clear hb) | (go_at_call 13; (with_reducible refine (KnC.out _ (hG.out.up hB.out)).mono ?_); rintro e y7 ⟨rfl, hb⟩; (replace hB := Lib.hid (hB.out.trans (hb.mono hB.out.size))); clear hb))
        go_ret
        exact ⟨rfl, hB.out⟩
    · change Hid (∀ y, Gl y → Calls _ _ #[.agg #[.int .i64 6, .int .i64 r]] y _) at CL
      change Hid (∀ y, Calls _ _ _ y (fun e w' => e = .returned (.tuple #[.agg #[.int .i64 6, .int .i64 r], .bool true]) ∧ _)) at C1
      go_enter Tryd.func5, Tryd.ntmps5
      have hV : Hid (((w.alloc (.cells #[.int .i64 3, .int .i64 5, .int .i64 6, .int .i64 7] 3)).alloc (.cells #[.int .i64 6, .int .i64 r] 49)).heap[w.heap.size + 1]? = some (.cells #[.int .i64 6, .int .i64 r] 49 (0, 0))) := by
        have := heap_alloc_new (w.alloc (.cells #[.int .i64 3, .int .i64 5, .int .i64 6, .int .i64 7] 3)) (.cells #[.int .i64 6, .int .i64 r] 49)
        simp only [World.size_alloc] at this
        exact Lib.hid this
      have hB : Hid (Below w.heap.size w ((w.alloc (.cells #[.int .i64 3, .int .i64 5, .int .i64 6, .int .i64 7] 3)).alloc (.cells #[.int .i64 6, .int .i64 r] 49))) := Lib.hid (((Below.refl _ _).alloc (Nat.le_refl _) _).alloc (by simp) _)
      go_upto_region 2 with fail
      generalize (w.alloc (.cells #[.int .i64 3, .int .i64 5, .int .i64 6, .int .i64 7] 3)).alloc (.cells #[.int .i64 6, .int .i64 r] 49) = W at *
      clear hrn hj
      have c0 : W.cell? ⟨w.heap.size + 1, 0, none⟩ = some (.int .i64 6) := by rw [Lib.cell_of_heap hV.out]; rfl
      have c1 : W.cell? ⟨w.heap.size + 1, 1, none⟩ = some (.int .i64 r) := by rw [Lib.cell_of_heap hV.out]; rfl
      go_upto_region 3 with (go_at_call 17; (with_reducible refine (CL.out _ (hG.out.up hB.out)).mono ?_); rintro e y1 ⟨rfl, hb⟩)
      replace hB := Lib.hid (hB.out.trans (hb.mono hB.out.size))
      replace hV := Lib.hid (blk_up hV.out hb)
      clear hb c0 c1
      go_upto_region 4 with (go_at_call 18; (with_reducible refine (C1.out _).mono ?_); rintro e y2 ⟨rfl, hb⟩)
      replace hB := Lib.hid (hB.out.trans (hb.mono hB.out.size))
      replace hV := Lib.hid (blk_up hV.out hb)
      clear hb
      have hb := (Below.refl y2.heap.size y2).alloc (Nat.le_refl _) (.cells #[.int .i64 6, .int .i64 r] 49)
      replace hB := Lib.hid (hB.out.trans (hb.mono hB.out.size))
      replace hV := Lib.hid (blk_up hV.out hb)
      have hV9 := Lib.hid (heap_alloc_new y2 (.cells #[.int .i64 6, .int .i64 r] 49))
      clear hb
      generalize y2.alloc (.cells #[.int .i64 6, .int .i64 r] 49) = W2 at *
      obtain ⟨q9, hq9⟩ : ∃ q, y2.heap.size = q := ⟨_, rfl⟩
      simp only [hq9] at hV9 ⊢
      clear hq9
      go_upto_region 5 with (go_at_call 18; (with_reducible refine (C2.out _).mono ?_); rintro e y3 ⟨rfl, hb⟩)
      replace hB := Lib.hid (hB.out.trans (hb.mono hB.out.size))
      replace hV := Lib.hid (blk_up hV.out hb)
      replace hV9 := Lib.hid (blk_up hV9.out hb)
      clear hb
      have hb := (Below.refl y3.heap.size y3).alloc (Nat.le_refl _) (.cells #[.int .i64 0, .int .i64 0] 49)
      replace hB := Lib.hid (hB.out.trans (hb.mono hB.out.size))
      replace hV := Lib.hid (blk_up hV.out hb)
      replace hV9 := Lib.hid (blk_up hV9.out hb)
      clear hb
      generalize y3.alloc (.cells #[.int .i64 0, .int .i64 0] 49) = W3 at *
      go_upto_region 6 with (go_at_call 18; (with_reducible refine (C3.out _).mono ?_); rintro e y4 ⟨rfl, hb⟩)
      replace hB := Lib.hid (hB.out.trans (hb.mono hB.out.size))
      replace hV := Lib.hid (blk_up hV.out hb)
      replace hV9 := Lib.hid (blk_up hV9.out hb)
      clear hb
      have hb := (Below.refl y4.heap.size y4).alloc (Nat.le_refl _) (.cells #[.int .i64 0, .int .i64 0] 49)
      replace hB := Lib.hid (hB.out.trans (hb.mono hB.out.size))
      replace hV := Lib.hid (blk_up hV.out hb)
      replace hV9 := Lib.hid (blk_up hV9.out hb)
      clear hb
      generalize y4.alloc (.cells #[.int .i64 0, .int .i64 0] 49) = W4 at *
      generalize hu : valP (s.data.toList.take 20) = u at *
      obtain ⟨⟨ua, ub⟩, uc⟩ := u
      simp only at C4
      go_upto_region 9 with (go_at_call 18; (with_reducible refine (C4.out _).mono ?_); rintro e y5 ⟨rfl, hb⟩)
      replace hB := Lib.hid (hB.out.trans (hb.mono hB.out.size))
      replace hV := Lib.hid (blk_up hV.out hb)
      replace hV9 := Lib.hid (blk_up hV9.out hb)
      clear hb
      have hb := (Below.refl y5.heap.size y5).alloc (Nat.le_refl _) (.cells #[.int .i64 ua, .int .i64 ub] 49)
      replace hB := Lib.hid (hB.out.trans (hb.mono hB.out.size))
      replace hV := Lib.hid (blk_up hV.out hb)
      replace hV9 := Lib.hid (blk_up hV9.out hb)
      have hU := Lib.hid (heap_alloc_new y5 (.cells #[.int .i64 ua, .int .i64 ub] 49))
      clear hb
      generalize y5.alloc (.cells #[.int .i64 ua, .int .i64 ub] 49) = W5 at *
      obtain ⟨qu, hqu⟩ : ∃ q, y5.heap.size = q := ⟨_, rfl⟩
      simp only [hqu] at hU ⊢
      clear hqu
      have c0 : W5.cell? ⟨w.heap.size + 1, 0, none⟩ = some (.int .i64 6) := by rw [Lib.cell_of_heap hV.out]; rfl
      have c1 : W5.cell? ⟨w.heap.size + 1, 1, none⟩ = some (.int .i64 r) := by rw [Lib.cell_of_heap hV.out]; rfl
      have e0 : W5.cell? ⟨q9, 0, none⟩ = some (.int .i64 6) := by rw [Lib.cell_of_heap hV9.out]; rfl
      have e1 : W5.cell? ⟨q9, 1, none⟩ = some (.int .i64 r) := by rw [Lib.cell_of_heap hV9.out]; rfl
      have u0 : W5.cell? ⟨qu, 0, none⟩ = some (.int .i64 ua) := by rw [Lib.cell_of_heap hU.out]; rfl
      have u1 : W5.cell? ⟨qu, 1, none⟩ = some (.int .i64 ub) := by rw [Lib.cell_of_heap hU.out]; rfl
      have rr : (r == r) = true := by simp
      cases uc with
      | false =>
        clear hu CY
        go_wp2_with (go_at_call 13; (with_reducible refine (KnC.out _ (hG.out.up hB.out)).mono ?_); rintro e y7 ⟨rfl, hb⟩; (replace hB := Lib.hid (hB.out.trans (hb.mono hB.out.size))); clear hb)
        go_ret
        exact ⟨rfl, hB.out⟩
      | true =>
        obtain ⟨hb64, hsl⟩ := CY.out (ua, ub) rfl
        simp only at hb64
        have CS := Lib.hid (lit_c (w := W5) (k := ua) (n := ub) hb64 (hG.out.up hB.out))
        rw [← hsl] at CS
        rw [hs20.out] at CS
        have gs : (s.toList == s.toList) = true := by simp
        clear hu CY hsl hb64
        go_wp2_with (first | (go_at_call 17; (with_reducible refine CS.out.mono ?_); rintro e y6 ⟨rfl, hb⟩; (replace hB := Lib.hid (hB.out.trans (hb.mono hB.out.size))); clear hb) | (go_at_call 13; (with_reducible refine (KnC.out _ (hG.out.up hB.out)).mono ?_); rintro e y7 ⟨rfl, hb⟩; (replace hB := Lib.hid (hB.out.trans (hb.mono hB.out.size))); clear hb))
        go_ret
        exact ⟨rfl, hB.out⟩
    · change Hid (∀ y, Gl y → Calls _ _ #[.agg #[.int .i64 7, .int .i64 r]] y _) at CL
      change Hid (∀ y, Calls _ _ _ y (fun e w' => e = .returned (.tuple #[.agg #[.int .i64 7, .int .i64 r], .bool true]) ∧ _)) at C1
      go_enter Tryd.func5, Tryd.ntmps5
      have hV : Hid (((w.alloc (.cells #[.int .i64 3, .int .i64 5, .int .i64 6, .int .i64 7] 3)).alloc (.cells #[.int .i64 7, .int .i64 r] 49)).heap[w.heap.size + 1]? = some (.cells #[.int .i64 7, .int .i64 r] 49 (0, 0))) := by
        have := heap_alloc_new (w.alloc (.cells #[.int .i64 3, .int .i64 5, .int .i64 6, .int .i64 7] 3)) (.cells #[.int .i64 7, .int .i64 r] 49)
        simp only [World.size_alloc] at this
        exact Lib.hid this
      have hB : Hid (Below w.heap.size w ((w.alloc (.cells #[.int .i64 3, .int .i64 5, .int .i64 6, .int .i64 7] 3)).alloc (.cells #[.int .i64 7, .int .i64 r] 49))) := Lib.hid (((Below.refl _ _).alloc (Nat.le_refl _) _).alloc (by simp) _)
      go_upto_region 2 with fail
      generalize (w.alloc (.cells #[.int .i64 3, .int .i64 5, .int .i64 6, .int .i64 7] 3)).alloc (.cells #[.int .i64 7, .int .i64 r] 49) = W at *
      clear hrn hj
      have c0 : W.cell? ⟨w.heap.size + 1, 0, none⟩ = some (.int .i64 7) := by rw [Lib.cell_of_heap hV.out]; rfl
      have c1 : W.cell? ⟨w.heap.size + 1, 1, none⟩ = some (.int .i64 r) := by rw [Lib.cell_of_heap hV.out]; rfl
      go_upto_region 3 with (go_at_call 17; (with_reducible refine (CL.out _ (hG.out.up hB.out)).mono ?_); rintro e y1 ⟨rfl, hb⟩)
      replace hB := Lib.hid (hB.out.trans (hb.mono hB.out.size))
      replace hV := Lib.hid (blk_up hV.out hb)
      clear hb c0 c1
      go_upto_region 4 with (go_at_call 18; (with_reducible refine (C1.out _).mono ?_); rintro e y2 ⟨rfl, hb⟩)
      replace hB := Lib.hid (hB.out.trans (hb.mono hB.out.size))
      replace hV := Lib.hid (blk_up hV.out hb)
      clear hb
      have hb := (Below.refl y2.heap.size y2).alloc (Nat.le_refl _) (.cells #[.int .i64 7, .int .i64 r] 49)
      replace hB := Lib.hid (hB.out.trans (hb.mono hB.out.size))
      replace hV := Lib.hid (blk_up hV.out hb)
      have hV9 := Lib.hid (heap_alloc_new y2 (.cells #[.int .i64 7, .int .i64 r] 49))
      clear hb
      generalize y2.alloc (.cells #[.int .i64 7, .int .i64 r] 49) = W2 at *
      obtain ⟨q9, hq9⟩ : ∃ q, y2.heap.size = q := ⟨_, rfl⟩
      simp only [hq9] at hV9 ⊢
      clear hq9
      go_upto_region 5 with (go_at_call 18; (with_reducible refine (C2.out _).mono ?_); rintro e y3 ⟨rfl, hb⟩)
      replace hB := Lib.hid (hB.out.trans (hb.mono hB.out.size))
      replace hV := Lib.hid (blk_up hV.out hb)
      replace hV9 := Lib.hid (blk_up hV9.out hb)
      clear hb
      have hb := (Below.refl y3.heap.size y3).alloc (Nat.le_refl _) (.cells #[.int .i64 0, .int .i64 0] 49)
      replace hB := Lib.hid (hB.out.trans (hb.mono hB.out.size))
      replace hV := Lib.hid (blk_up hV.out hb)
      replace hV9 := Lib.hid (blk_up hV9.out hb)
      clear hb
      generalize y3.alloc (.cells #[.int .i64 0, .int .i64 0] 49) = W3 at *
      go_upto_region 6 with (go_at_call 18; (with_reducible refine (C3.out _).mono ?_); rintro e y4 ⟨rfl, hb⟩)
      replace hB := Lib.hid (hB.out.trans (hb.mono hB.out.size))
      replace hV := Lib.hid (blk_up hV.out hb)
      replace hV9 := Lib.hid (blk_up hV9.out hb)
      clear hb
      have hb := (Below.refl y4.heap.size y4).alloc (Nat.le_refl _) (.cells #[.int .i64 0, .int .i64 0] 49)
      replace hB := Lib.hid (hB.out.trans (hb.mono hB.out.size))
      replace hV := Lib.hid (blk_up hV.out hb)
      replace hV9 := Lib.hid (blk_up hV9.out hb)
      clear hb
      generalize y4.alloc (.cells #[.int .i64 0, .int .i64 0] 49) = W4 at *
      generalize hu : valP (s.data.toList.take 20) = u at *
      obtain ⟨⟨ua, ub⟩, uc⟩ := u
      simp only at C4
      go_upto_region 9 with (go_at_call 18; (with_reducible refine (C4.out _).mono ?_); rintro e y5 ⟨rfl, hb⟩)
      replace hB := Lib.hid (hB.out.trans (hb.mono hB.out.size))
      replace hV := Lib.hid (blk_up hV.out hb)
      replace hV9 := Lib.hid (blk_up hV9.out hb)
      clear hb
      have hb := (Below.refl y5.heap.size y5).alloc (Nat.le_refl _) (.cells #[.int .i64 ua, .int .i64 ub] 49)
      replace hB := Lib.hid (hB.out.trans (hb.mono hB.out.size))
      replace hV := Lib.hid (blk_up hV.out hb)
      replace hV9 := Lib.hid (blk_up hV9.out hb)
      have hU := Lib.hid (heap_alloc_new y5 (.cells #[.int .i64 ua, .int .i64 ub] 49))
      clear hb
      generalize y5.alloc (.cells #[.int .i64 ua, .int .i64 ub] 49) = W5 at *
      obtain ⟨qu, hqu⟩ : ∃ q, y5.heap.size = q := ⟨_, rfl⟩
      simp only [hqu] at hU ⊢
      clear hqu
      have c0 : W5.cell? ⟨w.heap.size + 1, 0, none⟩ = some (.int .i64 7) := by rw [Lib.cell_of_heap hV.out]; rfl
      have c1 : W5.cell? ⟨w.heap.size + 1, 1, none⟩ = some (.int .i64 r) := by rw [Lib.cell_of_heap hV.out]; rfl
      have e0 : W5.cell? ⟨q9, 0, none⟩ = some (.int .i64 7) := by rw [Lib.cell_of_heap hV9.out]; rfl
      have e1 : W5.cell? ⟨q9, 1, none⟩ = some (.int .i64 r) := by rw [Lib.cell_of_heap hV9.out]; rfl
      have u0 : W5.cell? ⟨qu, 0, none⟩ = some (.int .i64 ua) := by rw [Lib.cell_of_heap hU.out]; rfl
      have u1 : W5.cell? ⟨qu, 1, none⟩ = some (.int .i64 ub) := by rw [Lib.cell_of_heap hU.out]; rfl
      have rr : (r == r) = true := by simp
      cases uc with
      | false =>
        clear hu CY
        go_wp2_with (go_at_call 13; (with_reducible refine (KnC.out _ (hG.out.up hB.out)).mono ?_); rintro e y7 ⟨rfl, hb⟩; (replace hB := Lib.hid (hB.out.trans (hb.mono hB.out.size))); clear hb)
        go_ret
        exact ⟨rfl, hB.out⟩
      | true =>
        obtain ⟨hb64, hsl⟩ := CY.out (ua, ub) rfl
        simp only at hb64
        have CS := Lib.hid (lit_c (w := W5) (k := ua) (n := ub) hb64 (hG.out.up hB.out))
        rw [← hsl] at CS
        rw [hs20.out] at CS
        have gs : (s.toList == s.toList) = true := by simp
        clear hu CY hsl hb64
        go_wp2_with (first | (go_at_call 17; (with_reducible refine CS.out.mono ?_); rintro e y6 ⟨rfl, hb⟩; (replace hB := Lib.hid (hB.out.trans (hb.mono hB.out.size))); clear hb) | (go_at_call 13; (with_reducible refine (KnC.out _ (hG.out.up hB.out)).mono ?_); rintro e y7 ⟨rfl, hb⟩; (replace hB := Lib.hid (hB.out.trans (hb.mono hB.out.size))); clear hb))
        go_ret
        exact ⟨rfl, hB.out⟩
  · have d20 : decide ((s.size : Int) > 20) = true := by simp; omega
    replace hx20 := Lib.hid hx20
    rw [hx20.out] at C4
    clear hs20
    have h20' : (20 : Int) ≤ (s.size : Int) := by omega
    rcases (show j = 0 ∨ j = 1 ∨ j = 2 ∨ j = 3 by omega) with rfl | rfl | rfl | rfl
    · change Hid (∀ y, Gl y → Calls _ _ #[.agg #[.int .i64 3, .int .i64 r]] y _) at CL
      change Hid (∀ y, Calls _ _ _ y (fun e w' => e = .returned (.tuple #[.agg #[.int .i64 3, .int .i64 r], .bool true]) ∧ _)) at C1
      go_enter Tryd.func5, Tryd.ntmps5
      have hV : Hid (((w.alloc (.cells #[.int .i64 3, .int .i64 5, .int .i64 6, .int .i64 7] 3)).alloc (.cells #[.int .i64 3, .int .i64 r] 49)).heap[w.heap.size + 1]? = some (.cells #[.int .i64 3, .int .i64 r] 49 (0, 0))) := by
        have := heap_alloc_new (w.alloc (.cells #[.int .i64 3, .int .i64 5, .int .i64 6, .int .i64 7] 3)) (.cells #[.int .i64 3, .int .i64 r] 49)
        simp only [World.size_alloc] at this
        exact Lib.hid this
      have hB : Hid (Below w.heap.size w ((w.alloc (.cells #[.int .i64 3, .int .i64 5, .int .i64 6, .int .i64 7] 3)).alloc (.cells #[.int .i64 3, .int .i64 r] 49))) := Lib.hid (((Below.refl _ _).alloc (Nat.le_refl _) _).alloc (by simp) _)
      go_upto_region 2 with fail
      generalize (w.alloc (.cells #[.int .i64 3, .int .i64 5, .int .i64 6, .int .i64 7] 3)).alloc (.cells #[.int .i64 3, .int .i64 r] 49) = W at *
      clear hrn hj
      have c0 : W.cell? ⟨w.heap.size + 1, 0, none⟩ = some (.int .i64 3) := by rw [Lib.cell_of_heap hV.out]; rfl
      have c1 : W.cell? ⟨w.heap.size + 1, 1, none⟩ = some (.int .i64 r) := by rw [Lib.cell_of_heap hV.out]; rfl
      go_upto_region 3 with (go_at_call 17; (with_reducible refine (CL.out _ (hG.out.up hB.out)).mono ?_); rintro e y1 ⟨rfl, hb⟩)
      replace hB := Lib.hid (hB.out.trans (hb.mono hB.out.size))
      replace hV := Lib.hid (blk_up hV.out hb)
      clear hb c0 c1
      go_upto_region 4 with (go_at_call 18; (with_reducible refine (C1.out _).mono ?_); rintro e y2 ⟨rfl, hb⟩)
      replace hB := Lib.hid (hB.out.trans (hb.mono hB.out.size))
      replace hV := Lib.hid (blk_up hV.out hb)
      clear hb
      have hb := (Below.refl y2.heap.size y2).alloc (Nat.le_refl _) (.cells #[.int .i64 3, .int .i64 r] 49)
      replace hB := Lib.hid (hB.out.trans (hb.mono hB.out.size))
      replace hV := Lib.hid (blk_up hV.out hb)
      have hV9 := Lib.hid (heap_alloc_new y2 (.cells #[.int .i64 3, .int .i64 r] 49))
      clear hb
      generalize y2.alloc (.cells #[.int .i64 3, .int .i64 r] 49) = W2 at *
      obtain ⟨q9, hq9⟩ : ∃ q, y2.heap.size = q := ⟨_, rfl⟩
      simp only [hq9] at hV9 ⊢
      clear hq9
      go_upto_region 5 with (go_at_call 18; (with_reducible refine (C2.out _).mono ?_); rintro e y3 ⟨rfl, hb⟩)
      replace hB := Lib.hid (hB.out.trans (hb.mono hB.out.size))
      replace hV := Lib.hid (blk_up hV.out hb)
      replace hV9 := Lib.hid (blk_up hV9.out hb)
      clear hb
      have hb := (Below.refl y3.heap.size y3).alloc (Nat.le_refl _) (.cells #[.int .i64 0, .int .i64 0] 49)
      replace hB := Lib.hid (hB.out.trans (hb.mono hB.out.size))
      replace hV := Lib.hid (blk_up hV.out hb)
      replace hV9 := Lib.hid (blk_up hV9.out hb)
      clear hb
      generalize y3.alloc (.cells #[.int .i64 0, .int .i64 0] 49) = W3 at *
      go_upto_region 6 with (go_at_call 18; (with_reducible refine (C3.out _).mono ?_); rintro e y4 ⟨rfl, hb⟩)
      replace hB := Lib.hid (hB.out.trans (hb.mono hB.out.size))
      replace hV := Lib.hid (blk_up hV.out hb)
      replace hV9 := Lib.hid (blk_up hV9.out hb)
      clear hb
      have hb := (Below.refl y4.heap.size y4).alloc (Nat.le_refl _) (.cells #[.int .i64 0, .int .i64 0] 49)
      replace hB := Lib.hid (hB.out.trans (hb.mono hB.out.size))
      replace hV := Lib.hid (blk_up hV.out hb)
      replace hV9 := Lib.hid (blk_up hV9.out hb)
      clear hb
      generalize y4.alloc (.cells #[.int .i64 0, .int .i64 0] 49) = W4 at *
      generalize hu : valP (s.data.toList.take 20) = u at *
      obtain ⟨⟨ua, ub⟩, uc⟩ := u
      simp only at C4
      go_upto_region 9 with (go_at_call 18; (with_reducible refine (C4.out _).mono ?_); rintro e y5 ⟨rfl, hb⟩)
      replace hB := Lib.hid (hB.out.trans (hb.mono hB.out.size))
      replace hV := Lib.hid (blk_up hV.out hb)
      replace hV9 := Lib.hid (blk_up hV9.out hb)
      clear hb
      have hb := (Below.refl y5.heap.size y5).alloc (Nat.le_refl _) (.cells #[.int .i64 ua, .int .i64 ub] 49)
      replace hB := Lib.hid (hB.out.trans (hb.mono hB.out.size))
      replace hV := Lib.hid (blk_up hV.out hb)
      replace hV9 := Lib.hid (blk_up hV9.out hb)
      have hU := Lib.hid (heap_alloc_new y5 (.cells #[.int .i64 ua, .int .i64 ub] 49))
      clear hb
      generalize y5.alloc (.cells #[.int .i64 ua, .int .i64 ub] 49) = W5 at *
      obtain ⟨qu, hqu⟩ : ∃ q, y5.heap.size = q := ⟨_, rfl⟩
      simp only [hqu] at hU ⊢
      clear hqu
      have c0 : W5.cell? ⟨w.heap.size + 1, 0, none⟩ = some (.int .i64 3) := by rw [Lib.cell_of_heap hV.out]; rfl
      have c1 : W5.cell? ⟨w.heap.size + 1, 1, none⟩ = some (.int .i64 r) := by rw [Lib.cell_of_heap hV.out]; rfl
      have e0 : W5.cell? ⟨q9, 0, none⟩ = some (.int .i64 3) := by rw [Lib.cell_of_heap hV9.out]; rfl
      have e1 : W5.cell? ⟨q9, 1, none⟩ = some (.int .i64 r) := by rw [Lib.cell_of_heap hV9.out]; rfl
      have u0 : W5.cell? ⟨qu, 0, none⟩ = some (.int .i64 ua) := by rw [Lib.cell_of_heap hU.out]; rfl
      have u1 : W5.cell? ⟨qu, 1, none⟩ = some (.int .i64 ub) := by rw [Lib.cell_of_heap hU.out]; rfl
      have rr : (r == r) = true := by simp
      cases uc with
      | false =>
        clear hu CY
        go_wp2_with (go_at_call 13; (with_reducible refine (KnC.out _ (hG.out.up hB.out)).mono ?_); rintro e y7 ⟨rfl, hb⟩; (replace hB := Lib.hid (hB.out.trans (hb.mono hB.out.size))); clear hb)
        go_ret
        exact ⟨rfl, hB.out⟩
      | true =>
        obtain ⟨hb64, hsl⟩ := CY.out (ua, ub) rfl
        simp only at hb64
        have CS := Lib.hid (lit_c (w := W5) (k := ua) (n := ub) hb64 (hG.out.up hB.out))
        rw [← hsl] at CS
        rw [hx20.out] at CS
        have gs : ((s.extract 0 20).toList == (s.extract 0 20).toList) = true := by simp
        clear hu CY hsl hb64
        go_wp2_with (first | (go_at_call 17; (with_reducible refine CS.out.mono ?_); rintro e y6 ⟨rfl, hb⟩; (replace hB := Lib.hid (hB.out.trans (hb.mono hB.out.size))); clear hb) | (go_at_call 13; (with_reducible refine (KnC.out _ (hG.out.up hB.out)).mono ?_); rintro e y7 ⟨rfl, hb⟩; (replace hB := Lib.hid (hB.out.trans (hb.mono hB.out.size))); clear hb))
        go_ret
        exact ⟨rfl, hB.out⟩
    · change Hid (∀ y, Gl y → Calls _ _ #[.agg #[.int .i64 5, .int .i64 r]] y _) at CL
      change Hid (∀ y, Calls _ _ _ y (fun e w' => e = .returned (.tuple #[.agg #[.int .i64 5, .int .i64 r], .bool true]) ∧ _)) at C1
      go_enter Tryd.func5, Tryd.ntmps5
      have hV : Hid (((w.alloc (.cells #[.int .i64 3, .int .i64 5, .int .i64 6, .int .i64 7] 3)).alloc (.cells #[.int .i64 5, .int .i64 r] 49)).heap[w.heap.size + 1]? = some (.cells #[.int .i64 5, .int .i64 r] 49 (0, 0))) := by
        have := heap_alloc_new (w.alloc (.cells #[.int .i64 3, .int .i64 5, .int .i64 6, .int .i64 7] 3)) (.cells #[.int .i64 5, .int .i64 r] 49)
        simp only [World.size_alloc] at this
        exact Lib.hid this
      have hB : Hid (Below w.heap.size w ((w.alloc (.cells #[.int .i64 3, .int .i64 5, .int .i64 6, .int .i64 7] 3)).alloc (.cells #[.int .i64 5, .int .i64 r] 49))) := Lib.hid (((Below.refl _ _).alloc (Nat.le_refl _) _).alloc (by simp) _)
      go_upto_region 2 with fail
      generalize (w.alloc (.cells #[.int .i64 3, .int .i64 5, .int .i64 6, .int .i64 7] 3)).alloc (.cells #[.int .i64 5, .int .i64 r] 49) = W at *
      clear hrn hj
      have c0 : W.cell? ⟨w.heap.size + 1, 0, none⟩ = some (.int .i64 5) := by rw [Lib.cell_of_heap hV.out]; rfl
      have c1 : W.cell? ⟨w.heap.size + 1, 1, none⟩ = some (.int .i64 r) := by rw [Lib.cell_of_heap hV.out]; rfl
      go_upto_region 3 with (go_at_call 17; (with_reducible refine (CL.out _ (hG.out.up hB.out)).mono ?_); rintro e y1 ⟨rfl, hb⟩)
      replace hB := Lib.hid (hB.out.trans (hb.mono hB.out.size))
      replace hV := Lib.hid (blk_up hV.out hb)
      clear hb c0 c1
      go_upto_region 4 with (go_at_call 18; (with_reducible refine (C1.out _).mono ?_); rintro e y2 ⟨rfl, hb⟩)
      replace hB := Lib.hid (hB.out.trans (hb.mono hB.out.size))
      replace hV := Lib.hid (blk_up hV.out hb)
      clear hb
      have hb := (Below.refl y2.heap.size y2).alloc (Nat.le_refl _) (.cells #[.int .i64 5, .int .i64 r] 49)
      replace hB := Lib.hid (hB.out.trans (hb.mono hB.out.size))
      replace hV := Lib.hid (blk_up hV.out hb)
      have hV9 := Lib.hid (heap_alloc_new y2 (.cells #[.int .i64 5, .int .i64 r] 49))
      clear hb
      generalize y2.alloc (.cells #[.int .i64 5, .int .i64 r] 49) = W2 at *
      obtain ⟨q9, hq9⟩ : ∃ q, y2.heap.size = q := ⟨_, rfl⟩
      simp only [hq9] at hV9 ⊢
      clear hq9
      go_upto_region 5 with (go_at_call 18; (with_reducible refine (C2.out _).mono ?_); rintro e y3 ⟨rfl, hb⟩)
      replace hB := Lib.hid (hB.out.trans (hb.mono hB.out.size))
      replace hV := Lib.hid (blk_up hV.out hb)
      replace hV9 := Lib.hid (blk_up hV9.out hb)
      clear hb
      have hb := (Below.refl y3.heap.size y3).alloc (Nat.le_refl _) (.cells #[.int .i64 0, .int .i64 0] 49)
      replace hB := Lib.hid (hB.out.trans (hb.mono hB.out.size))
      replace hV := Lib.hid (blk_up hV.out hb)
      replace hV9 := Lib.hid (blk_up hV9.out hb)
      clear hb
      generalize y3.alloc (.cells #[.int .i64 0, .int .i64 0] 49) = W3 at *
      go_upto_region 6 with (go_at_call 18; (with_reducible refine (C3.out _).mono ?_); rintro e y4 ⟨rfl, hb⟩)
      replace hB := Lib.hid (hB.out.trans (hb.mono hB.out.size))
      replace hV := Lib.hid (blk_up hV.out hb)
      replace hV9 := Lib.hid (blk_up hV9.out hb)
      clear hb
      have hb := (Below.refl y4.heap.size y4).alloc (Nat.le_refl _) (.cells #[.int .i64 0, .int .i64 0] 49)
      replace hB := Lib.hid (hB.out.trans (hb.mono hB.out.size))
      replace hV := Lib.hid (blk_up hV.out hb)
      replace hV9 := Lib.hid (blk_up hV9.out hb)
      clear hb
      generalize y4.alloc (.cells #[.int .i64 0, .int .i64 0] 49) = W4 at *
      generalize hu : valP (s.data.toList.take 20) = u at *
      obtain ⟨⟨ua, ub⟩, uc⟩ := u
      simp only at C4
      go_upto_region 9 with (go_at_call 18; (with_reducible refine (C4.out _).mono ?_); rintro e y5 ⟨rfl, hb⟩)
      replace hB := Lib.hid (hB.out.trans (hb.mono hB.out.size))
      replace hV := Lib.hid (blk_up hV.out hb)
      replace hV9 := Lib.hid (blk_up hV9.out hb)
      clear hb
      have hb := (Below.refl y5.heap.size y5).alloc (Nat.le_refl _) (.cells #[.int .i64 ua, .int .i64 ub] 49)
      replace hB := Lib.hid (hB.out.trans (hb.mono hB.out.size))
      replace hV := Lib.hid (blk_up hV.out hb)
      replace hV9 := Lib.hid (blk_up hV9.out hb)
      have hU := Lib.hid (heap_alloc_new y5 (.cells #[.int .i64 ua, .int .i64 ub] 49))
      clear hb
      generalize y5.alloc (.cells #[.int .i64 ua, .int .i64 ub] 49) = W5 at *
      obtain ⟨qu, hqu⟩ : ∃ q, y5.heap.size = q := ⟨_, rfl⟩
      simp only [hqu] at hU ⊢
      clear hqu
      have c0 : W5.cell? ⟨w.heap.size + 1, 0, none⟩ = some (.int .i64 5) := by rw [Lib.cell_of_heap hV.out]; rfl
      have c1 : W5.cell? ⟨w.heap.size + 1, 1, none⟩ = some (.int .i64 r) := by rw [Lib.cell_of_heap hV.out]; rfl
      have e0 : W5.cell? ⟨q9, 0, none⟩ = some (.int .i64 5) := by rw [Lib.cell_of_heap hV9.out]; rfl
      have e1 : W5.cell? ⟨q9, 1, none⟩ = some (.int .i64 r) := by rw [Lib.cell_of_heap hV9.out]; rfl
      have u0 : W5.cell? ⟨qu, 0, none⟩ = some (.int .i64 ua) := by rw [Lib.cell_of_heap hU.out]; rfl
      have u1 : W5.cell? ⟨qu, 1, none⟩ = some (.int .i64 ub) := by rw [Lib.cell_of_heap hU.out]; rfl
      have rr : (r == r) = true := by simp
      cases uc with
      | false =>
        clear hu CY
        go_wp2_with (go_at_call 13; (with_reducible refine (KnC.out _ (hG.out.up hB.out)).mono ?_); rintro e y7 ⟨rfl, hb⟩; (replace hB := Lib.hid (hB.out.trans (hb.mono hB.out.size))); clear hb)
        go_ret
        exact ⟨rfl, hB.out⟩
      | true =>
        obtain ⟨hb64, hsl⟩ := CY.out (ua, ub) rfl
        simp only at hb64
        have CS := Lib.hid (lit_c (w := W5) (k := ua) (n := ub) hb64 (hG.out.up hB.out))
        rw [← hsl] at CS
        rw [hx20.out] at CS
        have gs : ((s.extract 0 20).toList == (s.extract 0 20).toList) = true := by simp
        clear hu CY hsl hb64
        go_wp2_with (first | (go_at_call 17; (with_reducible refine CS.out.mono ?_); rintro e y6 ⟨rfl, hb⟩; (replace hB := Lib.hid (hB.out.trans (hb.mono hB.out.size))); clear hb) | (go_at_call 13; (with_reducible refine (KnC.out _ (hG.out.up hB.out)).mono ?_); rintro e y7 ⟨rfl, hb⟩; (replace hB := Lib.hid (hB.out.trans (hb.mono hB.out.size))); clear hb))
        go_ret
        exact ⟨rfl, hB.out⟩
    · change Hid (∀ y, Gl y → Calls _ _ #[.agg #[.int .i64 6, .int .i64 r]] y _) at CL
      change Hid (∀ y, Calls _ _ _ y (fun e w' => e = .returned (.tuple #[.agg #[.int .i64 6, .int .i64 r], .bool true]) ∧ _)) at C1
      go_enter Tryd.func5, Tryd.ntmps5
      have hV : Hid (((w.alloc (.cells #[.int .i64 3, .int .i64 5, .int .i64 6, .int .i64 7] 3)).alloc (.cells #[.int .i64 6, .int .i64 r] 49)).heap[w.heap.size + 1]? = some (.cells #[.int .i64 6, .int .i64 r] 49 (0, 0))) := by
        have := heap_alloc_new (w.alloc (.cells #[.int .i64 3, .int .i64 5, .int .i64 6, .int .i64 7] 3)) (.cells #[.int .i64 6, .int .i64 r] 49)
        simp only [World.size_alloc] at this
        exact Lib.hid this
      have hB : Hid (Below w.heap.size w ((w.alloc (.cells #[.int .i64 3, .int .i64 5, .int .i64 6, .int .i64 7] 3)).alloc (.cells #[.int .i64 6, .int .i64 r] 49))) := Lib.hid (((Below.refl _ _).alloc (Nat.le_refl _) _).alloc (by simp) _)
      go_upto_region 2 with fail
      generalize (w.alloc (.cells #[.int .i64 3, .int .i64 5, .int .i64 6, .int .i64 7] 3)).alloc (.cells #[.int .i64 6, .int .i64 r] 49) = W at *
      clear hrn hj
      have c0 : W.cell? ⟨w.heap.size + 1, 0, none⟩ = some (.int .i64 6) := by rw [Lib.cell_of_heap hV.out]; rfl
      have c1 : W.cell? ⟨w.heap.size + 1, 1, none⟩ = some (.int .i64 r) := by rw [Lib.cell_of_heap hV.out]; rfl
      go_upto_region 3 with (go_at_call 17; (with_reducible refine (CL.out _ (hG.out.up hB.out)).mono ?_); rintro e y1 ⟨rfl, hb⟩)
      replace hB := Lib.hid (hB.out.trans (hb.mono hB.out.size))
      replace hV := Lib.hid (blk_up hV.out hb)
      clear hb c0 c1
      go_upto_region 4 with (go_at_call 18; (with_reducible refine (C1.out _).mono ?_); rintro e y2 ⟨rfl, hb⟩)
      replace hB := Lib.hid (hB.out.trans (hb.mono hB.out.size))
      replace hV := Lib.hid (blk_up hV.out hb)
      clear hb
      have hb := (Below.refl y2.heap.size y2).alloc (Nat.le_refl _) (.cells #[.int .i64 6, .int .i64 r] 49)
      replace hB := Lib.hid (hB.out.trans (hb.mono hB.out.size))
      replace hV := Lib.hid (blk_up hV.out hb)
      have hV9 := Lib.hid (heap_alloc_new y2 (.cells #[.int .i64 6, .int .i64 r] 49))
      clear hb
      generalize y2.alloc (.cells #[.int .i64 6, .int .i64 r] 49) = W2 at *
      obtain ⟨q9, hq9⟩ : ∃ q, y2.heap.size = q := ⟨_, rfl⟩
      simp only [hq9] at hV9 ⊢
      clear hq9
      go_upto_region 5 with (go_at_call 18; (with_reducible refine (C2.out _).mono ?_); rintro e y3 ⟨rfl, hb⟩)
      replace hB := Lib.hid (hB.out.trans (hb.mono hB.out.size))
      replace hV := Lib.hid (blk_up hV.out hb)
      replace hV9 := Lib.hid (blk_up hV9.out hb)
      clear hb
      have hb := (Below.refl y3.heap.size y3).alloc (Nat.le_refl _) (.cells #[.int .i64 0, .int .i64 0] 49)
      replace hB := Lib.hid (hB.out.trans (hb.mono hB.out.size))
      replace hV := Lib.hid (blk_up hV.out hb)
      replace hV9 := Lib.hid (blk_up hV9.out hb)
      clear hb
      generalize y3.alloc (.cells #[.int .i64 0, .int .i64 0] 49) = W3 at *
      go_upto_region 6 with (go_at_call 18; (with_reducible refine (C3.out _).mono ?_); rintro e y4 ⟨rfl, hb⟩)
      replace hB := Lib.hid (hB.out.trans (hb.mono hB.out.size))
      replace hV := Lib.hid (blk_up hV.out hb)
      replace hV9 := Lib.hid (blk_up hV9.out hb)
      clear hb
      have hb := (Below.refl y4.heap.size y4).alloc (Nat.le_refl _) (.cells #[.int .i64 0, .int .i64 0] 49)
      replace hB := Lib.hid (hB.out.trans (hb.mono hB.out.size))
      replace hV := Lib.hid (blk_up hV.out hb)
      replace hV9 := Lib.hid (blk_up hV9.out hb)
      clear hb
      generalize y4.alloc (.cells #[.int .i64 0, .int .i64 0] 49) = W4 at *
      generalize hu : valP (s.data.toList.take 20) = u at *
      obtain ⟨⟨ua, ub⟩, uc⟩ := u
      simp only at C4
      go_upto_region 9 with (go_at_call 18; (with_reducible refine (C4.out _).mono ?_); rintro e y5 ⟨rfl, hb⟩)
      replace hB := Lib.hid (hB.out.trans (hb.mono hB.out.size))
      replace hV := Lib.hid (blk_up hV.out hb)
      replace hV9 := Lib.hid (blk_up hV9.out hb)
      clear hb
      have hb := (Below.refl y5.heap.size y5).alloc (Nat.le_refl _) (.cells #[.int .i64 ua, .int .i64 ub] 49)
      replace hB := Lib.hid (hB.out.trans (hb.mono hB.out.size))
      replace hV := Lib.hid (blk_up hV.out hb)
      replace hV9 := Lib.hid (blk_up hV9.out hb)
      have hU := Lib.hid (heap_alloc_new y5 (.cells #[.int .i64 ua, .int .i64 ub] 49))
      clear hb
      generalize y5.alloc (.cells #[.int .i64 ua, .int .i64 ub] 49) = W5 at *
      obtain ⟨qu, hqu⟩ : ∃ q, y5.heap.size = q := ⟨_, rfl⟩
      simp only [hqu] at hU ⊢
      clear hqu
      have c0 : W5.cell? ⟨w.heap.size + 1, 0, none⟩ = some (.int .i64 6) := by rw [Lib.cell_of_heap hV.out]; rfl
      have c1 : W5.cell? ⟨w.heap.size + 1, 1, none⟩ = some (.int .i64 r) := by rw [Lib.cell_of_heap hV.out]; rfl
      have e0 : W5.cell? ⟨q9, 0, none⟩ = some (.int .i64 6) := by rw [Lib.cell_of_heap hV9.out]; rfl
      have e1 : W5.cell? ⟨q9, 1, none⟩ = some (.int .i64 r) := by rw [Lib.cell_of_heap hV9.out]; rfl
      have u0 : W5.cell? ⟨qu, 0, none⟩ = some (.int .i64 ua) := by rw [Lib.cell_of_heap hU.out]; rfl
      have u1 : W5.cell? ⟨qu, 1, none⟩ = some (.int .i64 ub) := by rw [Lib.cell_of_heap hU.out]; rfl
      have rr : (r == r) = true := by simp
      cases uc with
      | false =>
        clear hu CY
        go_wp2_with (go_at_call 13; (with_reducible refine (KnC.out _ (hG.out.up hB.out)).mono ?_); rintro e y7 ⟨rfl, hb⟩; (replace hB := Lib.hid (hB.out.trans (hb.mono hB.out.size))); clear hb)
        go_ret
        exact ⟨rfl, hB.out⟩
      | true =>
        obtain ⟨hb64, hsl⟩ := CY.out (ua, ub) rfl
        simp only at hb64
        have CS := Lib.hid (lit_c (w := W5) (k := ua) (n := ub) hb64 (hG.out.up hB.out))
        rw [← hsl] at CS
        rw [hx20.out] at CS
        have gs : ((s.extract 0 20).toList == (s.extract 0 20).toList) = true := by simp
        clear hu CY hsl hb64
        go_wp2_with (first | (go_at_call 17; (with_reducible refine CS.out.mono ?_); rintro e y6 ⟨rfl, hb⟩; (replace hB := Lib.hid (hB.out.trans (hb.mono hB.out.size))); clear hb) | (go_at_call 13; (with_reducible refine (KnC.out _ (hG.out.up hB.out)).mono ?_); rintro e y7 ⟨rfl, hb⟩; (replace hB := Lib.hid (hB.out.trans (hb.mono hB.out.size))); clear hb))
        go_ret
        exact ⟨rfl, hB.out⟩
    · change Hid (∀ y, Gl y → Calls _ _ #[.agg #[.int .i64 7, .int .i64 r]] y _) at CL
      change Hid (∀ y, Calls _ _ _ y (fun e w' => e = .returned (.tuple #[.agg #[.int .i64 7, .int .i64 r], .bool true]) ∧ _)) at C1
      go_enter Tryd.func5, Tryd.ntmps5
      have hV : Hid (((w.alloc (.cells #[.int .i64 3, .int .i64 5, .int .i64 6, .int .i64 7] 3)).alloc (.cells #[.int .i64 7, .int .i64 r] 49)).heap[w.heap.size + 1]? = some (.cells #[.int .i64 7, .int .i64 r] 49 (0, 0))) := by
        have := heap_alloc_new (w.alloc (.cells #[.int .i64 3, .int .i64 5, .int .i64 6, .int .i64 7] 3)) (.cells #[.int .i64 7, .int .i64 r] 49)
        simp only [World.size_alloc] at this
        exact Lib.hid this
      have hB : Hid (Below w.heap.size w ((w.alloc (.cells #[.int .i64 3, .int .i64 5, .int .i64 6, .int .i64 7] 3)).alloc (.cells #[.int .i64 7, .int .i64 r] 49))) := Lib.hid (((Below.refl _ _).alloc (Nat.le_refl _) _).alloc (by simp) _)
      go_upto_region 2 with fail
      generalize (w.alloc (.cells #[.int .i64 3, .int .i64 5, .int .i64 6, .int .i64 7] 3)).alloc (.cells #[.int .i64 7, .int .i64 r] 49) = W at *
      clear hrn hj
      have c0 : W.cell? ⟨w.heap.size + 1, 0, none⟩ = some (.int .i64 7) := by rw [Lib.cell_of_heap hV.out]; rfl
      have c1 : W.cell? ⟨w.heap.size + 1, 1, none⟩ = some (.int .i64 r) := by rw [Lib.cell_of_heap hV.out]; rfl
      go_upto_region 3 with (go_at_call 17; (with_reducible refine (CL.out _ (hG.out.up hB.out)).mono ?_); rintro e y1 ⟨rfl, hb⟩)
      replace hB := Lib.hid (hB.out.trans (hb.mono hB.out.size))
      replace hV := Lib.hid (blk_up hV.out hb)
      clear hb c0 c1
      go_upto_region 4 with (go_at_call 18; (with_reducible refine (C1.out _).mono ?_); rintro e y2 ⟨rfl, hb⟩)
      replace hB := Lib.hid (hB.out.trans (hb.mono hB.out.size))
      replace hV := Lib.hid (blk_up hV.out hb)
      clear hb
      have hb := (Below.refl y2.heap.size y2).alloc (Nat.le_refl _) (.cells #[.int .i64 7, .int .i64 r] 49)
      replace hB := Lib.hid (hB.out.trans (hb.mono hB.out.size))
      replace hV := Lib.hid (blk_up hV.out hb)
      have hV9 := Lib.hid (heap_alloc_new y2 (.cells #[.int .i64 7, .int .i64 r] 49))
      clear hb
      generalize y2.alloc (.cells #[.int .i64 7, .int .i64 r] 49) = W2 at *
      obtain ⟨q9, hq9⟩ : ∃ q, y2.heap.size = q := ⟨_, rfl⟩
      simp only [hq9] at hV9 ⊢
      clear hq9
      go_upto_region 5 with (go_at_call 18; (with_reducible refine (C2.out _).mono ?_); rintro e y3 ⟨rfl, hb⟩)
      replace hB := Lib.hid (hB.out.trans (hb.mono hB.out.size))
      replace hV := Lib.hid (blk_up hV.out hb)
      replace hV9 := Lib.hid (blk_up hV9.out hb)
      clear hb
      have hb := (Below.refl y3.heap.size y3).alloc (Nat.le_refl _) (.cells #[.int .i64 0, .int .i64 0] 49)
      replace hB := Lib.hid (hB.out.trans (hb.mono hB.out.size))
      replace hV := Lib.hid (blk_up hV.out hb)
      replace hV9 := Lib.hid (blk_up hV9.out hb)
      clear hb
      generalize y3.alloc (.cells #[.int .i64 0, .int .i64 0] 49) = W3 at *
      go_upto_region 6 with (go_at_call 18; (with_reducible refine (C3.out _).mono ?_); rintro e y4 ⟨rfl, hb⟩)
      replace hB := Lib.hid (hB.out.trans (hb.mono hB.out.size))
      replace hV := Lib.hid (blk_up hV.out hb)
      replace hV9 := Lib.hid (blk_up hV9.out hb)
      clear hb
      have hb := (Below.refl y4.heap.size y4).alloc (Nat.le_refl _) (.cells #[.int .i64 0, .int .i64 0] 49)
      replace hB := Lib.hid (hB.out.trans (hb.mono hB.out.size))
      replace hV := Lib.hid (blk_up hV.out hb)
      replace hV9 := Lib.hid (blk_up hV9.out hb)
      clear hb
      generalize y4.alloc (.cells #[.int .i64 0, .int .i64 0] 49) = W4 at *
      generalize hu : valP (s.data.toList.take 20) = u at *
      obtain ⟨⟨ua, ub⟩, uc⟩ := u
      simp only at C4
      go_upto_region 9 with (go_at_call 18; (with_reducible refine (C4.out _).mono ?_); rintro e y5 ⟨rfl, hb⟩)
      replace hB := Lib.hid (hB.out.trans (hb.mono hB.out.size))
      replace hV := Lib.hid (blk_up hV.out hb)
      replace hV9 := Lib.hid (blk_up hV9.out hb)
      clear hb
      have hb := (Below.refl y5.heap.size y5).alloc (Nat.le_refl _) (.cells #[.int .i64 ua, .int .i64 ub] 49)
      replace hB := Lib.hid (hB.out.trans (hb.mono hB.out.size))
      replace hV := Lib.hid (blk_up hV.out hb)
      replace hV9 := Lib.hid (blk_up hV9.out hb)
      have hU := Lib.hid (heap_alloc_new y5 (.cells #[.int .i64 ua, .int .i64 ub] 49))
      clear hb
      generalize y5.alloc (.cells #[.int .i64 ua, .int .i64 ub] 49) = W5 at *
      obtain ⟨qu, hqu⟩ : ∃ q, y5.heap.size = q := ⟨_, rfl⟩
      simp only [hqu] at hU ⊢
      clear hqu
      have c0 : W5.cell? ⟨w.heap.size + 1, 0, none⟩ = some (.int .i64 7) := by rw [Lib.cell_of_heap hV.out]; rfl
      have c1 : W5.cell? ⟨w.heap.size + 1, 1, none⟩ = some (.int .i64 r) := by rw [Lib.cell_of_heap hV.out]; rfl
      have e0 : W5.cell? ⟨q9, 0, none⟩ = some (.int .i64 7) := by rw [Lib.cell_of_heap hV9.out]; rfl
      have e1 : W5.cell? ⟨q9, 1, none⟩ = some (.int .i64 r) := by rw [Lib.cell_of_heap hV9.out]; rfl
      have u0 : W5.cell? ⟨qu, 0, none⟩ = some (.int .i64 ua) := by rw [Lib.cell_of_heap hU.out]; rfl
      have u1 : W5.cell? ⟨qu, 1, none⟩ = some (.int .i64 ub) := by rw [Lib.cell_of_heap hU.out]; rfl
      have rr : (r == r) = true := by simp
      cases uc with
      | false =>
        clear hu CY
        go_wp2_with (go_at_call 13; (with_reducible refine (KnC.out _ (hG.out.up hB.out)).mono ?_); rintro e y7 ⟨rfl, hb⟩; (replace hB := Lib.hid (hB.out.trans (hb.mono hB.out.size))); clear hb)
        go_ret
        exact ⟨rfl, hB.out⟩
      | true =>
        obtain ⟨hb64, hsl⟩ := CY.out (ua, ub) rfl
        simp only at hb64
        have CS := Lib.hid (lit_c (w := W5) (k := ua) (n := ub) hb64 (hG.out.up hB.out))
        rw [← hsl] at CS
        rw [hx20.out] at CS
        have gs : ((s.extract 0 20).toList == (s.extract 0 20).toList) = true := by simp
        clear hu CY hsl hb64
        go_wp2_with (first | (go_at_call 17; (with_reducible refine CS.out.mono ?_); rintro e y6 ⟨rfl, hb⟩; (replace hB := Lib.hid (hB.out.trans (hb.mono hB.out.size))); clear hb) | (go_at_call 13; (with_reducible refine (KnC.out _ (hG.out.up hB.out)).mono ?_); rintro e y7 ⟨rfl, hb⟩; (replace hB := Lib.hid (hB.out.trans (hb.mono hB.out.size))); clear hb))
        go_ret
        exact ⟨rfl, hB.out⟩
end Wd
end Go.Proofs.YtkodnioheifalaaDoor
