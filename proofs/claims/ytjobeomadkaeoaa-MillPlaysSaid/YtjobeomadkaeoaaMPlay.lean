/- What the laws ask of a mill, whoever keeps it: play. -/
import Derived.Test.YtjobeomadkaeoaaMKnown
namespace Go.Proofs.Ytjobeomadkaeoaa
open Go.RowKit
namespace Wd
/-- the asks, as a play reads them: in the world at hand and in any that only grew -/
def Asks (w0 : World) (ad : Option Addr) (len : Nat) : Prop := ∀ wr, Below w0.heap.size w0 wr → ∀ k, k < len → ∃ (g off : Nat) (x y : Int), ad = some ⟨g, off, none⟩ ∧ (-9223372036854775808 ≤ x ∧ x ≤ 9223372036854775807) ∧ (-9223372036854775808 ≤ y ∧ y ≤ 9223372036854775807) ∧
  wr.cell? ⟨g, off + k * 2, none⟩ = some (.int .i64 x) ∧ wr.cell? ⟨g, off + k * 2 + 1, none⟩ = some (.int .i64 y)
theorem box_of {wA w1 : World} {B : Nat} {x y : Int} (h : wA.cell? ⟨B, 0, none⟩ = some (.int .i64 x) ∧ wA.cell? ⟨B, 1, none⟩ = some (.int .i64 y)) (hk : w1.heap[B]? = wA.heap[B]?) :
    w1.cell? ⟨B, 0, none⟩ = some (.int .i64 x) ∧ w1.cell? ⟨B, 1, none⟩ = some (.int .i64 y) :=
  ⟨(World.cell?_of_block (a := ⟨B, 0, none⟩) hk).trans h.1, (World.cell?_of_block (a := ⟨B, 1, none⟩) hk).trans h.2⟩
theorem box_ch {wA w1 : World} {F : Nat → Prop} {B : Nat} {x y : Int} (h : wA.cell? ⟨B, 0, none⟩ = some (.int .i64 x) ∧ wA.cell? ⟨B, 1, none⟩ = some (.int .i64 y)) (c : Ch F wA w1) (hB : ¬ F B) :
    w1.cell? ⟨B, 0, none⟩ = some (.int .i64 x) ∧ w1.cell? ⟨B, 1, none⟩ = some (.int .i64 y) := box_of h (c.block B (World.block_lt_of_cell? wA _ h.1) hB)
theorem box_gr {wA w1 : World} {b B : Nat} {x y : Int} (h : wA.cell? ⟨B, 0, none⟩ = some (.int .i64 x) ∧ wA.cell? ⟨B, 1, none⟩ = some (.int .i64 y)) (c : wA.grownBy w1 (some b)) (hB : B ≠ b) :
    w1.cell? ⟨B, 0, none⟩ = some (.int .i64 x) ∧ w1.cell? ⟨B, 1, none⟩ = some (.int .i64 y) := box_of h (c.block B (World.block_lt_of_cell? wA _ h.1) (by simpa using hB))
theorem PSt.look {MA : MAt} {w0 wr : World} {p b n : Nat} {A : Mst} {F : Nat → Prop} {V : Nat → Value} (h : PSt MA w0 wr p b n A F V) : Look MA wr wr p b n A F V := ⟨h.ma, h.ref, Below.refl _ _⟩
set_option maxHeartbeats 16000000 in
theorem play_none {MA : MAt} (K : MillK MA) (n : Int) (j0 : -9223372036854775808 ≤ n) (j1 : n ≤ 9223372036854775807) (l : Value) (w : World) (h : n < 1 ∨ 512 < n) :
    Calls Try.prog 8 #[.int .i64 n, l] w fun e w' => e = .returned (.bool true) ∧ Below w.heap.size w w' := by
  have H := Lib.hid h
  rcases h with h | h
  all_goals
    go_enter Try.func8, Try.ntmps8
    go_wp2_with fail
    refine (K.none n j0 j1 H.out).mono ?_
    rintro e w1 ⟨rfl, hb⟩
    replace hb := Lib.hid hb
    go_wp2
    go_ret
    exact ⟨rfl, hb.out⟩
set_option maxHeartbeats 16000000 in
theorem play_small {MA : MAt} (K : MillK MA) (N : Nat) (h1 : 1 ≤ N) (h2 : N ≤ 512) (hm : (N : Int) ≤ 60) (ad : Option Addr) (len cap : Nat) (w : World) (HA : Asks w ad len) (_hlen : len ≤ maxLen) :
    Calls Try.prog 8 #[.int .i64 N, .slice ad len cap] w fun e w' => e = .returned (.bool true) ∧ Below w.heap.size w w' := by
  replace HA := Lib.hid HA
  go_enter Try.func8, Try.ntmps8
  go_wp2_with fail
  refine (K.new N h1 h2).mono ?_
  rintro e w1 ⟨p1, F1, rfl, hra1, hF1, hb1⟩
  clear hra1 hF1
  go_wp2_with fail
  refine (K.new N (by omega) (by omega)).mono ?_
  rintro e w2 ⟨p, F, rfl, hra, hF, hb2⟩
  go_wp2_with fail
  refine (rnewm_c N (by omega) w2).mono ?_
  rintro e w3 ⟨V, rfl, href, hb3, hv3⟩
  have st0 : PSt MA w w3 p w2.heap.size N (startA N) F V := by
    have b12 := hb1.trans (hb2.mono hb1.size)
    refine ⟨K.keep hra (fun k hk => hb3.block k (K.lt hra k hk)), href, fun h => ?_, fun k g hk hg hFg => ?_, b12.trans (hb3.mono b12.size), fun k hk => Nat.le_trans hb1.size (hF k hk), b12.size, fun k g hk hg => Nat.le_trans b12.size (hv3 k g hk hg), good_start _⟩
    · have := K.lt hra _ h; omega
    · have := K.lt hra _ hFg; have := hv3 k g hk hg; omega
  replace st0 := Lib.hid st0
  clear hra hF hb1 hb2 hb3 href hv3
  go_wp2
  go_loopw [7] (fun i wr => ∃ k : Nat, k ≤ len ∧ k ≤ 150 ∧ i = .int .i64 k ∧ ∃ A F V, Hid (PSt MA w wr p w2.heap.size N A F V)) (fun i _ => 150 - (intOf i).toNat)
  case atStart => exact ⟨0, by omega, by omega, rfl, _, _, _, st0⟩
  case round =>
    obtain ⟨k, hk, hk2, rfl, A, F, V, hst⟩ := hrel
    clear st0
    by_cases hlt : k < len ∧ k < 150
    · obtain ⟨g, off, x, y, rfl, ⟨x0, x1⟩, ⟨y0, y1⟩, cx, cy⟩ := HA.out wr hst.out.bel k hlt.1
      have d1 : decide ((k : Int) < (len : Int)) = true := by simp; omega
      have d2 : decide ((k : Int) < 150) = true := by simp; omega
      by_cases hx3 : x = 3 ∨ x = 4
      · have D : Hid ((x == 3) = true ∨ ((x == 3) = false ∧ (x == 4) = true)) := Lib.hid (by simp; omega)
        rcases D.out with q3 | ⟨q3, q4⟩
        · have hstA := Lib.hid (hst.out.keep K ((Below.refl _ _).alloc (Nat.le_refl _) (.cells #[.int .i64 x, .int .i64 y] 24)).drew)
          have B0 : (wr.alloc (.cells #[.int .i64 x, .int .i64 y] 24)).drew.cell? ⟨wr.heap.size, 0, none⟩ = some (.int .i64 x) ∧ (wr.alloc (.cells #[.int .i64 x, .int .i64 y] 24)).drew.cell? ⟨wr.heap.size, 1, none⟩ = some (.int .i64 y) := ⟨by simp, by simp⟩
          have FB : ¬ F wr.heap.size := fun h => by have := K.lt hst.out.ma _ h; omega
          have FB2 : wr.heap.size ≠ w2.heap.size := by have := hst.out.ref.lt.1; omega
          have hraA := hstA.out.ma
          have HL8 := Lib.hid (hstA.out.hl (by omega))
          go_wp2
          go_region_held3 (fun w' => w'.cell? ⟨wr.heap.size, 0, none⟩ = some (.int .i64 x) ∧ w'.cell? ⟨wr.heap.size, 1, none⟩ = some (.int .i64 y)) (first | assumption | exact B0 | exact box_ch (by assumption) hch FB | exact box_gr (by assumption) hgr FB2) (first
            | (go_at_call 12; ((with_reducible refine (K.shade y hraA y0 y1).mono ?_); rintro e wB ⟨F2, rfl, hrB, hch, hnw⟩))
            | (go_at_call 21; ((with_reducible refine (rshade_c y _ _ _ _ (hstA.out.ref1 hch) HL8.out).mono ?_); rintro e wC ⟨rfl, V2, hrC, hgr, hfr⟩)))
          have hst2 := Lib.hid (hstA.out.step K hrB hch hnw hrC hgr hfr (good_shade hstA.out.good y))
          clear hstA hrB hch hnw hrC hgr hfr B0 FB FB2 hraA HL8
          go_wp2_with fail
          refine (same_c K N (by omega) hst2.out.look (hst2.out.hl (by omega))).mono ?_
          rintro e w5 ⟨rfl, hb5⟩
          have hst3 := Lib.hid (hst2.out.keep K hb5)
          clear hst hst2 hb5
          go_wp2
          go_roundw
          case rel => exact ⟨k + 1, by omega, by omega, by go_num, _, _, _, hst3⟩
          case measure => simp [intOf]; omega
        · have hstA := Lib.hid (hst.out.keep K ((Below.refl _ _).alloc (Nat.le_refl _) (.cells #[.int .i64 x, .int .i64 y] 24)).drew)
          have B0 : (wr.alloc (.cells #[.int .i64 x, .int .i64 y] 24)).drew.cell? ⟨wr.heap.size, 0, none⟩ = some (.int .i64 x) ∧ (wr.alloc (.cells #[.int .i64 x, .int .i64 y] 24)).drew.cell? ⟨wr.heap.size, 1, none⟩ = some (.int .i64 y) := ⟨by simp, by simp⟩
          have FB : ¬ F wr.heap.size := fun h => by have := K.lt hst.out.ma _ h; omega
          have FB2 : wr.heap.size ≠ w2.heap.size := by have := hst.out.ref.lt.1; omega
          have hraA := hstA.out.ma
          have HL8 := Lib.hid (hstA.out.hl (by omega))
          go_wp2
          go_region_held3 (fun w' => w'.cell? ⟨wr.heap.size, 0, none⟩ = some (.int .i64 x) ∧ w'.cell? ⟨wr.heap.size, 1, none⟩ = some (.int .i64 y)) (first | assumption | exact B0 | exact box_ch (by assumption) hch FB | exact box_gr (by assumption) hgr FB2) (first
            | (go_at_call 12; ((with_reducible refine (K.shade y hraA y0 y1).mono ?_); rintro e wB ⟨F2, rfl, hrB, hch, hnw⟩))
            | (go_at_call 21; ((with_reducible refine (rshade_c y _ _ _ _ (hstA.out.ref1 hch) HL8.out).mono ?_); rintro e wC ⟨rfl, V2, hrC, hgr, hfr⟩)))
          have hst2 := Lib.hid (hstA.out.step K hrB hch hnw hrC hgr hfr (good_shade hstA.out.good y))
          clear hstA hrB hch hnw hrC hgr hfr B0 FB FB2 hraA HL8
          go_wp2_with fail
          refine (same_c K N (by omega) hst2.out.look (hst2.out.hl (by omega))).mono ?_
          rintro e w5 ⟨rfl, hb5⟩
          have hst3 := Lib.hid (hst2.out.keep K hb5)
          clear hst hst2 hb5
          go_wp2
          go_roundw
          case rel => exact ⟨k + 1, by omega, by omega, by go_num, _, _, _, hst3⟩
          case measure => simp [intOf]; omega
      · have q3 : (x == 3) = false := by simp; omega
        have q4 : (x == 4) = false := by simp; omega
        by_cases hx5 : x = 5
        · have q5 : (x == 5) = true := by simp; omega
          clear hx5
          have hstA := Lib.hid (hst.out.keep K ((Below.refl _ _).alloc (Nat.le_refl _) (.cells #[.int .i64 x, .int .i64 y] 24)))
          go_wp2_with fail
          refine (K.scan hstA.out.ma).mono ?_
          rintro e wB ⟨F2, rfl, hrB, hch, hnw⟩
          have R1 := hstA.out.ref1 hch
          go_wp2_with fail
          refine (rscan_c _ _ _ _ R1 (hstA.out.hl (by omega))).mono ?_
          rintro e wC ⟨rfl, V2, hrC, hgr, hfr⟩
          have hst2 := Lib.hid (hstA.out.step K hrB hch hnw hrC hgr hfr (good_first hstA.out.good 2 (Or.inr rfl)))
          clear hstA hrB hch hnw hrC hgr hfr R1
          go_wp2_with fail
          refine (same_c K N (by omega) hst2.out.look (hst2.out.hl (by omega))).mono ?_
          rintro e w5 ⟨rfl, hb5⟩
          have hst3 := Lib.hid (hst2.out.keep K hb5)
          clear hst hst2 hb5
          go_wp2
          go_roundw
          case rel => exact ⟨k + 1, by omega, by omega, by go_num, _, _, _, hst3⟩
          case measure => simp [intOf]; omega
        · have q5 : (x == 5) = false := by simp; omega
          by_cases hx6 : x = 6
          · have q6 : (x == 6) = true := by simp; omega
            clear hx6
            have hstA := Lib.hid (hst.out.keep K ((Below.refl _ _).alloc (Nat.le_refl _) (.cells #[.int .i64 x, .int .i64 y] 24)))
            go_wp2_with fail
            refine (K.flip hstA.out.ma).mono ?_
            rintro e wB ⟨u, F2, rfl, hrB, hch, hnw, hu, huf⟩
            have R1 := hstA.out.ref1 hch
            go_wp2_with fail
            refine (rflip_c _ _ _ _ R1 (hstA.out.hl (by omega))).mono ?_
            rintro e wC ⟨u2, V2, rfl, hrC, hgr, hfr, hu2, _⟩
            have hst1 := Lib.hid (hstA.out.step K hrB hch hnw hrC hgr hfr (good_flip hstA.out.good))
            have hfl : (flipR A).length ≤ 8192 := by
              unfold flipR
              split
              · exact hstA.out.hl (by omega) 3 (by decide)
              · simp
            have hu1 : SL wC 3 u (flipR A) := ⟨hu.1, by
              rcases hu.2 with hh | ⟨g, cap, cur, e1, e2, e3, e4⟩
              · exact Or.inl hh
              · refine Or.inr ⟨g, cap, cur, e1, e2, (hgr.block g (Array.getElem?_eq_some_iff.1 e3).1 (fun e => ?_)).trans e3, e4⟩
                have h1 := (huf g (by rw [e1]; rfl)).1
                have h2 := hstA.out.ref.lt.1
                cases e; omega⟩
            clear hstA hrB hch hnw hrC hgr hfr R1 hu huf
            have S1 := Lib.hid (same_ints _ _ u u2 wC hu1 hu2 hfl hfl)
            clear hu1 hu2 hfl
            go_wp2_with fail
            refine S1.out.mono ?_
            rintro e w4 ⟨rfl, q, rfl⟩
            have hst2 := Lib.hid (hst1.out.keep K (drewN_bel wC q))
            clear hst1 S1
            go_wp2_with fail
            refine (same_c K N (by omega) hst2.out.look (hst2.out.hl (by omega))).mono ?_
            rintro e w5 ⟨rfl, hb5⟩
            have hst3 := Lib.hid (hst2.out.keep K hb5)
            clear hst hst2 hb5
            go_wp2
            go_roundw
            case rel => exact ⟨k + 1, by omega, by omega, by go_num, _, _, _, hst3⟩
            case measure => simp [intOf]; omega
          · have q6 : (x == 6) = false := by simp; omega
            have hstA := Lib.hid (hst.out.keep K ((Below.refl _ _).alloc (Nat.le_refl _) (.cells #[.int .i64 x, .int .i64 y] 24)))
            go_wp2_with fail
            refine (K.alloc hstA.out.ma).mono ?_
            rintro e wB ⟨F2, rfl, hrB, hch, hnw⟩
            have R1 := hstA.out.ref1 hch
            go_wp2_with fail
            refine (ralloc_c _ _ _ _ R1 (hstA.out.hl (by omega))).mono ?_
            rintro e wC ⟨rfl, V2, hrC, hgr, hfr⟩
            have hst2 := Lib.hid (hstA.out.step K hrB hch hnw hrC hgr hfr (good_first hstA.out.good 0 (Or.inl rfl)))
            clear hstA hrB hch hnw hrC hgr hfr R1
            go_wp2_with fail
            refine (same_c K N (by omega) hst2.out.look (hst2.out.hl (by omega))).mono ?_
            rintro e w5 ⟨rfl, hb5⟩
            have hst3 := Lib.hid (hst2.out.keep K hb5)
            clear hst hst2 hb5
            go_wp2
            go_roundw
            case rel => exact ⟨k + 1, by omega, by omega, by go_num, _, _, _, hst3⟩
            case measure => simp [intOf]; omega
    · have LK := Lib.hid (same_c K N (by omega) hst.out.look (hst.out.hl (by omega)))
      by_cases hl1 : k < len
      · have d1 : decide ((k : Int) < (len : Int)) = true := by simp; omega
        have d2 : decide ((k : Int) < 150) = false := by simp; omega
        go_wp2_with fail
        refine LK.out.mono ?_
        rintro e w5 ⟨rfl, hb5⟩
        have hst3 := Lib.hid (hst.out.keep K hb5)
        clear hst hb5 LK
        go_wp2
        go_ret
        exact ⟨rfl, hst3.out.bel⟩
      · have d1 : decide ((k : Int) < (len : Int)) = false := by simp; omega
        go_wp2_with fail
        refine LK.out.mono ?_
        rintro e w5 ⟨rfl, hb5⟩
        have hst3 := Lib.hid (hst.out.keep K hb5)
        clear hst hb5 LK
        go_wp2
        go_ret
        exact ⟨rfl, hst3.out.bel⟩
set_option maxHeartbeats 16000000 in
theorem play_big {MA : MAt} (K : MillK MA) (N : Nat) (h1 : 1 ≤ N) (h2 : N ≤ 512) (hm : (60 : Int) < N) (ad : Option Addr) (len cap : Nat) (w : World) (HA : Asks w ad len) (_hlen : len ≤ maxLen) :
    Calls Try.prog 8 #[.int .i64 N, .slice ad len cap] w fun e w' => e = .returned (.bool true) ∧ Below w.heap.size w w' := by
  replace HA := Lib.hid HA
  go_enter Try.func8, Try.ntmps8
  go_wp2_with fail
  refine (K.new N h1 h2).mono ?_
  rintro e w1 ⟨p1, F1, rfl, hra1, hF1, hb1⟩
  clear hra1 hF1
  go_wp2_with fail
  refine (K.new 60 (by omega) (by omega)).mono ?_
  rintro e w2 ⟨p, F, rfl, hra, hF, hb2⟩
  go_wp2_with fail
  refine (rnewm_c 60 (by omega) w2).mono ?_
  rintro e w3 ⟨V, rfl, href, hb3, hv3⟩
  have st0 : PSt MA w w3 p w2.heap.size 60 (startA 60) F V := by
    have b12 := hb1.trans (hb2.mono hb1.size)
    refine ⟨K.keep hra (fun k hk => hb3.block k (K.lt hra k hk)), href, fun h => ?_, fun k g hk hg hFg => ?_, b12.trans (hb3.mono b12.size), fun k hk => Nat.le_trans hb1.size (hF k hk), b12.size, fun k g hk hg => Nat.le_trans b12.size (hv3 k g hk hg), good_start _⟩
    · have := K.lt hra _ h; omega
    · have := K.lt hra _ hFg; have := hv3 k g hk hg; omega
  replace st0 := Lib.hid st0
  clear hra hF hb1 hb2 hb3 href hv3
  go_wp2
  go_loopw [7] (fun i wr => ∃ k : Nat, k ≤ len ∧ k ≤ 150 ∧ i = .int .i64 k ∧ ∃ A F V, Hid (PSt MA w wr p w2.heap.size 60 A F V)) (fun i _ => 150 - (intOf i).toNat)
  case atStart => exact ⟨0, by omega, by omega, rfl, _, _, _, st0⟩
  case round =>
    obtain ⟨k, hk, hk2, rfl, A, F, V, hst⟩ := hrel
    clear st0
    by_cases hlt : k < len ∧ k < 150
    · obtain ⟨g, off, x, y, rfl, ⟨x0, x1⟩, ⟨y0, y1⟩, cx, cy⟩ := HA.out wr hst.out.bel k hlt.1
      have d1 : decide ((k : Int) < (len : Int)) = true := by simp; omega
      have d2 : decide ((k : Int) < 150) = true := by simp; omega
      by_cases hx3 : x = 3 ∨ x = 4
      · have D : Hid ((x == 3) = true ∨ ((x == 3) = false ∧ (x == 4) = true)) := Lib.hid (by simp; omega)
        rcases D.out with q3 | ⟨q3, q4⟩
        · have hstA := Lib.hid (hst.out.keep K ((Below.refl _ _).alloc (Nat.le_refl _) (.cells #[.int .i64 x, .int .i64 y] 24)).drew)
          have B0 : (wr.alloc (.cells #[.int .i64 x, .int .i64 y] 24)).drew.cell? ⟨wr.heap.size, 0, none⟩ = some (.int .i64 x) ∧ (wr.alloc (.cells #[.int .i64 x, .int .i64 y] 24)).drew.cell? ⟨wr.heap.size, 1, none⟩ = some (.int .i64 y) := ⟨by simp, by simp⟩
          have FB : ¬ F wr.heap.size := fun h => by have := K.lt hst.out.ma _ h; omega
          have FB2 : wr.heap.size ≠ w2.heap.size := by have := hst.out.ref.lt.1; omega
          have hraA := hstA.out.ma
          have HL8 := Lib.hid (hstA.out.hl (by omega))
          go_wp2
          go_region_held3 (fun w' => w'.cell? ⟨wr.heap.size, 0, none⟩ = some (.int .i64 x) ∧ w'.cell? ⟨wr.heap.size, 1, none⟩ = some (.int .i64 y)) (first | assumption | exact B0 | exact box_ch (by assumption) hch FB | exact box_gr (by assumption) hgr FB2) (first
            | (go_at_call 12; ((with_reducible refine (K.shade y hraA y0 y1).mono ?_); rintro e wB ⟨F2, rfl, hrB, hch, hnw⟩))
            | (go_at_call 21; ((with_reducible refine (rshade_c y _ _ _ _ (hstA.out.ref1 hch) HL8.out).mono ?_); rintro e wC ⟨rfl, V2, hrC, hgr, hfr⟩)))
          have hst2 := Lib.hid (hstA.out.step K hrB hch hnw hrC hgr hfr (good_shade hstA.out.good y))
          clear hstA hrB hch hnw hrC hgr hfr B0 FB FB2 hraA HL8
          go_wp2_with fail
          refine (same_c K 60 (by omega) hst2.out.look (hst2.out.hl (by omega))).mono ?_
          rintro e w5 ⟨rfl, hb5⟩
          have hst3 := Lib.hid (hst2.out.keep K hb5)
          clear hst hst2 hb5
          go_wp2
          go_roundw
          case rel => exact ⟨k + 1, by omega, by omega, by go_num, _, _, _, hst3⟩
          case measure => simp [intOf]; omega
        · have hstA := Lib.hid (hst.out.keep K ((Below.refl _ _).alloc (Nat.le_refl _) (.cells #[.int .i64 x, .int .i64 y] 24)).drew)
          have B0 : (wr.alloc (.cells #[.int .i64 x, .int .i64 y] 24)).drew.cell? ⟨wr.heap.size, 0, none⟩ = some (.int .i64 x) ∧ (wr.alloc (.cells #[.int .i64 x, .int .i64 y] 24)).drew.cell? ⟨wr.heap.size, 1, none⟩ = some (.int .i64 y) := ⟨by simp, by simp⟩
          have FB : ¬ F wr.heap.size := fun h => by have := K.lt hst.out.ma _ h; omega
          have FB2 : wr.heap.size ≠ w2.heap.size := by have := hst.out.ref.lt.1; omega
          have hraA := hstA.out.ma
          have HL8 := Lib.hid (hstA.out.hl (by omega))
          go_wp2
          go_region_held3 (fun w' => w'.cell? ⟨wr.heap.size, 0, none⟩ = some (.int .i64 x) ∧ w'.cell? ⟨wr.heap.size, 1, none⟩ = some (.int .i64 y)) (first | assumption | exact B0 | exact box_ch (by assumption) hch FB | exact box_gr (by assumption) hgr FB2) (first
            | (go_at_call 12; ((with_reducible refine (K.shade y hraA y0 y1).mono ?_); rintro e wB ⟨F2, rfl, hrB, hch, hnw⟩))
            | (go_at_call 21; ((with_reducible refine (rshade_c y _ _ _ _ (hstA.out.ref1 hch) HL8.out).mono ?_); rintro e wC ⟨rfl, V2, hrC, hgr, hfr⟩)))
          have hst2 := Lib.hid (hstA.out.step K hrB hch hnw hrC hgr hfr (good_shade hstA.out.good y))
          clear hstA hrB hch hnw hrC hgr hfr B0 FB FB2 hraA HL8
          go_wp2_with fail
          refine (same_c K 60 (by omega) hst2.out.look (hst2.out.hl (by omega))).mono ?_
          rintro e w5 ⟨rfl, hb5⟩
          have hst3 := Lib.hid (hst2.out.keep K hb5)
          clear hst hst2 hb5
          go_wp2
          go_roundw
          case rel => exact ⟨k + 1, by omega, by omega, by go_num, _, _, _, hst3⟩
          case measure => simp [intOf]; omega
      · have q3 : (x == 3) = false := by simp; omega
        have q4 : (x == 4) = false := by simp; omega
        by_cases hx5 : x = 5
        · have q5 : (x == 5) = true := by simp; omega
          clear hx5
          have hstA := Lib.hid (hst.out.keep K ((Below.refl _ _).alloc (Nat.le_refl _) (.cells #[.int .i64 x, .int .i64 y] 24)))
          go_wp2_with fail
          refine (K.scan hstA.out.ma).mono ?_
          rintro e wB ⟨F2, rfl, hrB, hch, hnw⟩
          have R1 := hstA.out.ref1 hch
          go_wp2_with fail
          refine (rscan_c _ _ _ _ R1 (hstA.out.hl (by omega))).mono ?_
          rintro e wC ⟨rfl, V2, hrC, hgr, hfr⟩
          have hst2 := Lib.hid (hstA.out.step K hrB hch hnw hrC hgr hfr (good_first hstA.out.good 2 (Or.inr rfl)))
          clear hstA hrB hch hnw hrC hgr hfr R1
          go_wp2_with fail
          refine (same_c K 60 (by omega) hst2.out.look (hst2.out.hl (by omega))).mono ?_
          rintro e w5 ⟨rfl, hb5⟩
          have hst3 := Lib.hid (hst2.out.keep K hb5)
          clear hst hst2 hb5
          go_wp2
          go_roundw
          case rel => exact ⟨k + 1, by omega, by omega, by go_num, _, _, _, hst3⟩
          case measure => simp [intOf]; omega
        · have q5 : (x == 5) = false := by simp; omega
          by_cases hx6 : x = 6
          · have q6 : (x == 6) = true := by simp; omega
            clear hx6
            have hstA := Lib.hid (hst.out.keep K ((Below.refl _ _).alloc (Nat.le_refl _) (.cells #[.int .i64 x, .int .i64 y] 24)))
            go_wp2_with fail
            refine (K.flip hstA.out.ma).mono ?_
            rintro e wB ⟨u, F2, rfl, hrB, hch, hnw, hu, huf⟩
            have R1 := hstA.out.ref1 hch
            go_wp2_with fail
            refine (rflip_c _ _ _ _ R1 (hstA.out.hl (by omega))).mono ?_
            rintro e wC ⟨u2, V2, rfl, hrC, hgr, hfr, hu2, _⟩
            have hst1 := Lib.hid (hstA.out.step K hrB hch hnw hrC hgr hfr (good_flip hstA.out.good))
            have hfl : (flipR A).length ≤ 8192 := by
              unfold flipR
              split
              · exact hstA.out.hl (by omega) 3 (by decide)
              · simp
            have hu1 : SL wC 3 u (flipR A) := ⟨hu.1, by
              rcases hu.2 with hh | ⟨g, cap, cur, e1, e2, e3, e4⟩
              · exact Or.inl hh
              · refine Or.inr ⟨g, cap, cur, e1, e2, (hgr.block g (Array.getElem?_eq_some_iff.1 e3).1 (fun e => ?_)).trans e3, e4⟩
                have h1 := (huf g (by rw [e1]; rfl)).1
                have h2 := hstA.out.ref.lt.1
                cases e; omega⟩
            clear hstA hrB hch hnw hrC hgr hfr R1 hu huf
            have S1 := Lib.hid (same_ints _ _ u u2 wC hu1 hu2 hfl hfl)
            clear hu1 hu2 hfl
            go_wp2_with fail
            refine S1.out.mono ?_
            rintro e w4 ⟨rfl, q, rfl⟩
            have hst2 := Lib.hid (hst1.out.keep K (drewN_bel wC q))
            clear hst1 S1
            go_wp2_with fail
            refine (same_c K 60 (by omega) hst2.out.look (hst2.out.hl (by omega))).mono ?_
            rintro e w5 ⟨rfl, hb5⟩
            have hst3 := Lib.hid (hst2.out.keep K hb5)
            clear hst hst2 hb5
            go_wp2
            go_roundw
            case rel => exact ⟨k + 1, by omega, by omega, by go_num, _, _, _, hst3⟩
            case measure => simp [intOf]; omega
          · have q6 : (x == 6) = false := by simp; omega
            have hstA := Lib.hid (hst.out.keep K ((Below.refl _ _).alloc (Nat.le_refl _) (.cells #[.int .i64 x, .int .i64 y] 24)))
            go_wp2_with fail
            refine (K.alloc hstA.out.ma).mono ?_
            rintro e wB ⟨F2, rfl, hrB, hch, hnw⟩
            have R1 := hstA.out.ref1 hch
            go_wp2_with fail
            refine (ralloc_c _ _ _ _ R1 (hstA.out.hl (by omega))).mono ?_
            rintro e wC ⟨rfl, V2, hrC, hgr, hfr⟩
            have hst2 := Lib.hid (hstA.out.step K hrB hch hnw hrC hgr hfr (good_first hstA.out.good 0 (Or.inl rfl)))
            clear hstA hrB hch hnw hrC hgr hfr R1
            go_wp2_with fail
            refine (same_c K 60 (by omega) hst2.out.look (hst2.out.hl (by omega))).mono ?_
            rintro e w5 ⟨rfl, hb5⟩
            have hst3 := Lib.hid (hst2.out.keep K hb5)
            clear hst hst2 hb5
            go_wp2
            go_roundw
            case rel => exact ⟨k + 1, by omega, by omega, by go_num, _, _, _, hst3⟩
            case measure => simp [intOf]; omega
    · have LK := Lib.hid (same_c K 60 (by omega) hst.out.look (hst.out.hl (by omega)))
      by_cases hl1 : k < len
      · have d1 : decide ((k : Int) < (len : Int)) = true := by simp; omega
        have d2 : decide ((k : Int) < 150) = false := by simp; omega
        go_wp2_with fail
        refine LK.out.mono ?_
        rintro e w5 ⟨rfl, hb5⟩
        have hst3 := Lib.hid (hst.out.keep K hb5)
        clear hst hb5 LK
        go_wp2
        go_ret
        exact ⟨rfl, hst3.out.bel⟩
      · have d1 : decide ((k : Int) < (len : Int)) = false := by simp; omega
        go_wp2_with fail
        refine LK.out.mono ?_
        rintro e w5 ⟨rfl, hb5⟩
        have hst3 := Lib.hid (hst.out.keep K hb5)
        clear hst hb5 LK
        go_wp2
        go_ret
        exact ⟨rfl, hst3.out.bel⟩
theorem play_c {MA : MAt} (K : MillK MA) (n : Int) (j0 : -9223372036854775808 ≤ n) (j1 : n ≤ 9223372036854775807) (ad : Option Addr) (len cap : Nat) (w : World) (HA : Asks w ad len) (hlen : len ≤ maxLen) :
    Calls Try.prog 8 #[.int .i64 n, .slice ad len cap] w fun e w' => e = .returned (.bool true) ∧ Below w.heap.size w w' := by
  by_cases h : n < 1 ∨ 512 < n
  · exact play_none K n j0 j1 _ w h
  · obtain ⟨N, rfl⟩ : ∃ N : Nat, n = N := ⟨n.toNat, by omega⟩
    by_cases hs : (N : Int) ≤ 60
    · exact play_small K N (by omega) (by omega) hs ad len cap w HA hlen
    · exact play_big K N (by omega) (by omega) (by omega) ad len cap w HA hlen
end Wd
end Go.Proofs.Ytjobeomadkaeoaa
