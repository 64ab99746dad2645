/- Texts joined: ENum. -/
import Derived.Test.YtdaojohdmidemaaGreatJ8
import Derived.OpenShut
/- What the laws ask of a memory, whoever keeps it: HeapNumbers. -/
namespace Go.Proofs.YtdaojohdmidemaaGreat
open Go.RowKit Go.Maps
set_option linter.unusedVariables false
namespace Wd
theorem msk1 (n : Int) : bits .and .i64 n 1 = n % 2 := by
  have h127 : (BitVec.ofInt 64 1).toNat = 2 ^ 1 - 1 := by decide
  have key : (BitVec.ofInt 64 n &&& BitVec.ofInt 64 1).toNat = (n % ((2 ^ 64 : Nat) : Int)).toNat % 2 ^ 1 := by
    rw [BitVec.toNat_and, BitVec.toNat_ofInt, h127, Nat.and_two_pow_sub_one_eq_mod]
  show IntKind.i64.wrap ((BitVec.ofInt 64 n &&& BitVec.ofInt 64 1).toNat : Nat) = n % 2
  rw [key, IntKind.wrap_i64]
  omega
theorem akb_lit (T : List Ak) (h : T.all (fun t => decide (-9223372036854775808 ≤ t.1 ∧ t.1 ≤ 9223372036854775807) && decide (-9223372036854775808 ≤ t.2.1 ∧ t.2.1 ≤ 9223372036854775807) && decide (-9223372036854775808 ≤ t.2.2.1 ∧ t.2.2.1 ≤ 9223372036854775807) && decide (-9223372036854775808 ≤ t.2.2.2 ∧ t.2.2.2 ≤ 9223372036854775807)) = true) : ∀ t, t ∈ T → akB t := by
  intro t ht
  have := List.all_eq_true.1 h t ht
  simp only [Bool.and_eq_true, decide_eq_true_eq] at this
  exact ⟨this.1.1.1, this.1.1.2, this.1.2, this.2⟩
theorem asks_lit (w : World) (cs : Array Value) (T : List Ak) (hc : cs.toList = quad T) (hs : cs.size = T.length * 4) (hm : T.length ≤ maxLen) (hb : ∀ t, t ∈ T → akB t) :
    Asks (w.alloc (.cells cs 24)) (some ⟨w.heap.size, 0, none⟩) T.length := by
  have h := World.ownsRow_lit (base := 0) (e := 24) (size := 4) w cs T.length (by omega) hm hs
  rw [hc] at h
  obtain ⟨ad, cap, e, HB⟩ := asks_own h rfl hb
  cases e
  exact HB
/-- the asks that were made so far -/
structure SQ (w wr : World) (k : Nat) (v : Value) (T : List Ak) : Prop where
  own : wr.ownsRow w.heap.size 24 4 v k (quad T)
  len : T.length = k
  bd : ∀ t, t ∈ T → akB t
  bel : Below w.heap.size w wr
theorem SQ.next {w wr w1 : World} {k g cap : Nat} {v : Value} {T : List Ak} {t : Ak} {c : Array Value} {ty : TypeId} (h : SQ w wr k v T) (ht : akB t)
    (hown : w1.ownsRow w.heap.size 24 4 (.slice (some ⟨g, 0, none⟩) (k + 1) cap) (k + 1) (quad T ++ quad [t])) (hg : (wr.alloc (.cells c ty)).grownBy w1 v.ownBlock) : SQ w w1 (k + 1) (.slice (some ⟨g, 0, none⟩) (k + 1) cap) (T ++ [t]) := by
  refine ⟨by rw [quad_app]; exact hown, by simp [h.len], fun s hs => ?_, ?_⟩
  · rcases List.mem_append.1 hs with hs | hs
    · exact h.bd s hs
    · simp only [List.mem_singleton] at hs; subst hs; exact ht
  · have b1 : Below w.heap.size w (wr.alloc (.cells c ty)) := h.bel.alloc h.bel.size _
    exact b1.grown hg b1.size (fun q hq => (h.own.lt q hq).1)
set_option maxRecDepth 20000 in
theorem play_zero {HA : HAt} (K : HeapK HA) (v : Value) (w : World) :
    Calls Tryz.prog 6 #[cfgV (fun _ => 0) 0, v] w fun e w' => e = .returned (.bool true) ∧ Below w.heap.size w w' := by
  have KZ := Lib.hid (fun (wX : World) => K.none' (w := wX) 0 (by unfold i64; omega))
  have RC := Lib.hid (fun (wX : World) => rconfig_c 0 0 0 0 0 0 (by omega) (by omega) (by omega) (by omega) (by omega) (by omega) (by omega) (by omega) (by omega) (by omega) (by omega) (by omega) wX)
  have eR : rt 0 0 0 0 0 0 = 18 := by decide
  rw [eR] at RC
  have eZ : cfgV (fun _ => 0) 0 = .agg #[.int .i64 0, .int .i64 0, .int .i64 0, .int .i64 0, .int .i64 0, .int .i64 0] := rfl
  rw [eZ] at KZ ⊢
  clear eZ eR
  go_enter Tryz.func6, Tryz.ntmps6
  go_wp2_with fail
  refine (KZ.out _).mono ?_
  rintro e w1 ⟨rfl, hb⟩
  have b1 := Lib.hid (((Below.refl w.heap.size w).alloc (Nat.le_refl _) (.cells #[.int .i64 0, .int .i64 0, .int .i64 0, .int .i64 0, .int .i64 0, .int .i64 0] 28)).trans (hb.mono (by simp)))
  have hcell : ∀ j v, (#[Value.int .i64 0, .int .i64 0, .int .i64 0, .int .i64 0, .int .i64 0, .int .i64 0] : Array Value)[j]? = some v → w1.cell? ⟨w.heap.size, j, none⟩ = some v := (fun j v hv => by
    have e1 : w1.heap[w.heap.size]? = some (.cells #[.int .i64 0, .int .i64 0, .int .i64 0, .int .i64 0, .int .i64 0, .int .i64 0] 28 (0, 0)) := (hb.block w.heap.size (by simp)).trans (heap_alloc_new _ _)
    simp [World.cell?, e1, hv])
  have g0 := hcell 0 _ rfl
  have g1 := hcell 1 _ rfl
  have g2 := hcell 2 _ rfl
  have g3 := hcell 3 _ rfl
  have g4 := hcell 4 _ rfl
  have g5 := hcell 5 _ rfl
  clear hcell hb KZ
  go_wp2_with fail
  refine (RC.out _).mono ?_
  rintro e w2 ⟨rfl, hw2⟩
  have b2 := Lib.hid (show Below w.heap.size w w2 by rw [hw2]; exact b1.out.alloc b1.out.size _)
  clear hw2 RC b1 g0 g1 g2 g3 g4 g5
  go_wp2
  go_ret
  exact ⟨rfl, b2.out⟩
set_option maxHeartbeats 32000000 in
set_option maxRecDepth 20000 in
theorem numbers_any {HA : HAt} (K : HeapK HA) (w : World) :
    Calls Tryz.prog 3 #[] w fun e w' => e = .returned (.bool true) ∧ Below w.heap.size w w' := by
  obtain ⟨i0, hi0, hz0, hz1, hz2⟩ := info_parts infoA9
  have hmx : Hid (1000 ≤ maxLen) := Lib.hid (by decide)
  have PK : Hid (∀ (k : Nat) (ad : Option Addr) (len cap : Nat) (wX : World), k < 30 → Asks wX ad len → len ≤ 1000 → Calls Tryz.prog 6 #[.agg #[.int .i64 (k : Nat), .int .i64 6, .int .i64 3, .int .i64 1, .int .i64 ((k % 2 : Nat) : Int), .int .i64 1], .slice ad len cap] wX fun e w' => e = .returned (.bool true) ∧ Below wX.heap.size wX w') := Lib.hid (fun k ad len cap wX hk hA hl => by
    have h := play_any K (fun s => if s = 0 then k else if s = 1 then 6 else if s = 2 then 3 else if s = 3 then 1 else k % 2) (fun s hs => by show (if s = 0 then k else if s = 1 then 6 else if s = 2 then 3 else if s = 3 then 1 else k % 2) ≤ 512; (repeat' split) <;> omega) (by show 1 ≤ k + (6 + (3 + (1 + k % 2))); omega) (by show k + (6 + (3 + (1 + k % 2))) ≤ 1020; omega) ad len cap wX hA (by omega)
    exact h)
  have P2 : Hid (∀ (ad : Option Addr) (len cap : Nat) (wX : World), Asks wX ad len → len ≤ 1000 → Calls Tryz.prog 6 #[.agg #[.int .i64 0, .int .i64 0, .int .i64 0, .int .i64 0, .int .i64 2, .int .i64 1], .slice ad len cap] wX fun e w' => e = .returned (.bool true) ∧ Below wX.heap.size wX w') := Lib.hid (fun ad len cap wX hA hl => by
    have h := play_any K (fun s => if s = 4 then 2 else 0) (fun s hs => by show (if s = 4 then 2 else 0) ≤ 512; split <;> omega) (by decide) (by decide) ad len cap wX hA (by omega)
    exact h)
  have PZ : Hid (∀ (v : Value) (wX : World), Calls Tryz.prog 6 #[.agg #[.int .i64 0, .int .i64 0, .int .i64 0, .int .i64 0, .int .i64 0, .int .i64 0], v] wX fun e w' => e = .returned (.bool true) ∧ Below wX.heap.size wX w') := Lib.hid (fun v wX => play_zero K v wX)
  go_enter Tryz.func3, Tryz.ntmps3
  go_wp2
  go_loopw [1] (fun i wr => ∃ k : Nat, 1 ≤ k ∧ k ≤ 30 ∧ i = .int .i64 k ∧ Hid (Below w.heap.size w wr)) (fun i _ => 30 - (intOf i).toNat)
  case atStart => exact ⟨1, by omega, by omega, rfl, Lib.hid (Below.refl _ _)⟩
  case round =>
    obtain ⟨k, k1, k2, rfl, hbel⟩ := hrel
    by_cases hlt : k < 30
    · have d1 : decide ((k : Int) < 30) = true := by simp; omega
      have hk1 : bits .and .i64 (k : Int) 1 = ((k % 2 : Nat) : Int) := by rw [msk1]; omega
      have hwk : IntKind.i64.wrap ((k : Int) + 1) = (k : Int) + 1 := by rw [IntKind.wrap_i64]; omega
      go_wp2
      have s0 : Hid (SQ wr wr 0 (.slice none 0 0) []) := Lib.hid ⟨World.ownsRow_nil _ _ _ _, rfl, fun _ h => (by cases h), Below.refl _ _⟩
      go_loopw [2, 3] (fun v i w2 => ∃ j : Nat, j ≤ 110 ∧ i = .int .i64 j ∧ ∃ vv T, v = vv ∧ Hid (SQ wr w2 j vv T)) (fun _ i _ => 110 - (intOf i).toNat)
      case atStart => exact ⟨0, by omega, rfl, _, [], rfl, s0⟩
      case round =>
        rename World => w2
        clear s0
        obtain ⟨j, hj, rfl, vv, T, rfl, hst⟩ := hrel
        by_cases hj2 : j < 110
        · have d2 : decide ((j : Int) < 110) = true := by simp; omega
          obtain ⟨P, hP, P0, P1⟩ : ∃ P : Int, (j : Int) * (j : Int) = P ∧ 0 ≤ P ∧ P ≤ 12100 := ⟨_, rfl, Int.mul_nonneg (by omega) (by omega), by have := Nat.mul_le_mul (show j ≤ 110 by omega) (show j ≤ 110 by omega); have e : ((j * j : Nat) : Int) = (j : Int) * j := (by simp); omega⟩
          obtain ⟨Q, hQ, Q0, Q1⟩ : ∃ Q : Int, (k : Int) * (j : Int) = Q ∧ 0 ≤ Q ∧ Q ≤ 3300 := ⟨_, rfl, Int.mul_nonneg (by omega) (by omega), by have := Nat.mul_le_mul (show k ≤ 30 by omega) (show j ≤ 110 by omega); have e : ((k * j : Nat) : Int) = (k : Int) * (j : Int) := (by simp); omega⟩
          have hQ2 : (j : Int) * (k : Int) = Q := by rw [Int.mul_comm]; exact hQ
          obtain ⟨A, hA, A0, A1, _⟩ := tmod_split (P + Q + k) 11 (by omega)
          obtain ⟨B, hB, B0, B1, _⟩ := tmod_split ((j : Int) * 7 + k) 40 (by omega)
          obtain ⟨C, hC, C0, C1, _⟩ := tmod_split ((j : Int) * 3 + k) 9 (by omega)
          obtain ⟨D, hD, D0, D1, _⟩ := tmod_split Q 60 (by omega)
          have g1 : IntKind.i64.wrap P = P := by rw [IntKind.wrap_i64]; omega
          have g2 : IntKind.i64.wrap Q = Q := by rw [IntKind.wrap_i64]; omega
          have g3 : IntKind.i64.wrap (P + Q) = P + Q := by rw [IntKind.wrap_i64]; omega
          have g4 : IntKind.i64.wrap (P + Q + k) = P + Q + k := by rw [IntKind.wrap_i64]; omega
          have g5 : IntKind.i64.wrap ((j : Int) * 7) = (j : Int) * 7 := by rw [IntKind.wrap_i64]; omega
          have g6 : IntKind.i64.wrap ((j : Int) * 7 + k) = (j : Int) * 7 + k := by rw [IntKind.wrap_i64]; omega
          have g7 : IntKind.i64.wrap ((j : Int) * 3) = (j : Int) * 3 := by rw [IntKind.wrap_i64]; omega
          have g8 : IntKind.i64.wrap ((j : Int) * 3 + k) = (j : Int) * 3 + k := by rw [IntKind.wrap_i64]; omega
          have a1 : IntKind.i64.wrap A = A := by rw [IntKind.wrap_i64]; omega
          have a2 : IntKind.i64.wrap B = B := by rw [IntKind.wrap_i64]; omega
          have a3 : IntKind.i64.wrap C = C := by rw [IntKind.wrap_i64]; omega
          have a4 : IntKind.i64.wrap D = D := by rw [IntKind.wrap_i64]; omega
          have hnw : Hid (∀ q u, (quad [(A, B, C, D)])[q]? = some u → (w2.alloc (.cells #[.int .i64 A, .int .i64 B, .int .i64 C, .int .i64 D] 24)).cell? ((⟨w2.heap.size, 0, none⟩ : Addr).add q) = some u) := Lib.hid (World.news_of_block (heap_alloc_new w2 _))
          have tb : Hid (akB (A, B, C, D)) := Lib.hid ⟨⟨by show -9223372036854775808 ≤ A; omega, by show A ≤ 9223372036854775807; omega⟩, ⟨by show -9223372036854775808 ≤ B; omega, by show B ≤ 9223372036854775807; omega⟩, ⟨by show -9223372036854775808 ≤ C; omega, by show C ≤ 9223372036854775807; omega⟩, ⟨by show -9223372036854775808 ≤ D; omega, by show D ≤ 9223372036854775807; omega⟩⟩
          go_wp2_with (first | (at_builtin; refine wpList_append_lies _ rfl (.tmp 12) (.tmp 38) 22 rfl wr.heap.size 24 i0 (.agg #[.int .i64 0, .int .i64 0, .int .i64 0, .int .i64 0]) 4 32 Tryz.underlying22 hi0 hz0 hz1 hz2 rfl (by decide) u2 j _ (by simp [Act.eval]) (hst.out.own.alloc _) ⟨w2.heap.size, 0, none⟩ 1 1 (quad [(A, B, C, D)]) (by simp [Act.eval]) rfl hnw.out (quad_one _) (by omega) (by have := hmx.out; omega) (by omega) (by have := hst.out.bel.size; simp; omega) _ rfl ?_; intro g2' cap2 w5 hown hgrow hat hlt2))
          go_roundw
          case rel => exact ⟨j + 1, by omega, by go_num, _, _, rfl, Lib.hid (hst.out.next tb.out hown hgrow)⟩
          case measure => simp [intOf]; omega
        · have d2 : decide ((j : Int) < 110) = false := by simp; omega
          obtain ⟨ad2, cap2, e2, HB⟩ := asks_own hst.out.own hst.out.len hst.out.bd
          subst e2
          have hb2 := Lib.hid (hbel.out.trans (hst.out.bel.mono hbel.out.size))
          replace HB := Lib.hid HB
          clear hst
          go_wp2_with fail
          refine (PK.out k ad2 j cap2 w2 hlt HB.out (by omega)).mono ?_
          rintro e w5 ⟨rfl, hd⟩
          replace hb2 := Lib.hid (hb2.out.trans (hd.mono hb2.out.size))
          clear hd
          go_wp2
          go_roundw
          case rel => exact ⟨k + 1, by omega, by omega, by go_num, hb2⟩
          case measure => simp [intOf]; omega
    · have d1 : decide ((k : Int) < 30) = false := by simp; omega
      go_wp2_with fail
      refine (P2.out _ 12 12 _ (asks_lit wr #[.int .i64 (0), .int .i64 (4095), .int .i64 (62), .int .i64 (0), .int .i64 (0), .int .i64 (4096), .int .i64 (62), .int .i64 (0), .int .i64 (0), .int .i64 (1), .int .i64 (63), .int .i64 (0), .int .i64 (0), .int .i64 (1), .int .i64 (-1), .int .i64 (0), .int .i64 (0), .int .i64 (1), .int .i64 (50), .int .i64 (0), .int .i64 (0), .int .i64 (1), .int .i64 (50), .int .i64 (0), .int .i64 (8), .int .i64 (0), .int .i64 (0), .int .i64 (-9223372036854775808), .int .i64 (10), .int .i64 (0), .int .i64 (0), .int .i64 (0), .int .i64 (7), .int .i64 (0), .int .i64 (0), .int .i64 (-1), .int .i64 (8), .int .i64 (0), .int .i64 (0), .int .i64 (9223372036854775807), .int .i64 (10), .int .i64 (0), .int .i64 (0), .int .i64 (0), .int .i64 (10), .int .i64 (0), .int .i64 (0), .int .i64 (0)] [((0 : Int), (4095 : Int), (62 : Int), (0 : Int)), ((0 : Int), (4096 : Int), (62 : Int), (0 : Int)), ((0 : Int), (1 : Int), (63 : Int), (0 : Int)), ((0 : Int), (1 : Int), (-1 : Int), (0 : Int)), ((0 : Int), (1 : Int), (50 : Int), (0 : Int)), ((0 : Int), (1 : Int), (50 : Int), (0 : Int)), ((8 : Int), (0 : Int), (0 : Int), (-9223372036854775808 : Int)), ((10 : Int), (0 : Int), (0 : Int), (0 : Int)), ((7 : Int), (0 : Int), (0 : Int), (-1 : Int)), ((8 : Int), (0 : Int), (0 : Int), (9223372036854775807 : Int)), ((10 : Int), (0 : Int), (0 : Int), (0 : Int)), ((10 : Int), (0 : Int), (0 : Int), (0 : Int))] rfl rfl (by decide) (akb_lit _ (by decide))) (by omega)).mono ?_
      rintro e w8 ⟨rfl, hd⟩
      replace hbel := Lib.hid ((hbel.out.alloc hbel.out.size _).trans (hd.mono (by have := hbel.out.size; simp; omega)))
      clear hd
      go_wp2_with fail
      refine (PZ.out _ w8).mono ?_
      rintro e w10 ⟨rfl, hd⟩
      replace hbel := Lib.hid (hbel.out.trans (hd.mono hbel.out.size))
      clear hd
      go_wp2_with fail
      refine (known_c K w10).mono ?_
      rintro e w9 ⟨rfl, hd⟩
      replace hbel := Lib.hid (hbel.out.trans (hd.mono hbel.out.size))
      clear hd
      go_wp2
      go_ret
      exact ⟨rfl, hbel.out⟩
end Wd
end Go.Proofs.YtdaojohdmidemaaGreat
