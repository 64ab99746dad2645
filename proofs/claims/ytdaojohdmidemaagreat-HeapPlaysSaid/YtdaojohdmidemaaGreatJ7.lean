/- Texts joined: EPlay. -/
import Derived.Test.YtdaojohdmidemaaGreatJ6
import Derived.Deep.RegionHeld3
/- What the laws ask of a memory, whoever keeps it: play. -/
namespace Go.Proofs.YtdaojohdmidemaaGreat
open Go.RowKit Go.Maps
set_option linter.unusedVariables false
namespace Wd
/-- the asks, as a play reads them: in the world at hand and in any that only grew -/
def Asks (w0 : World) (ad : Option Addr) (len : Nat) : Prop := ∀ wr, Below w0.heap.size w0 wr → ∀ k, k < len → ∃ (g off : Nat) (x y z v : Int), ad = some ⟨g, off, none⟩ ∧ i64 x ∧ i64 y ∧ i64 z ∧ i64 v ∧
  wr.cell? ⟨g, off + k * 4, none⟩ = some (.int .i64 x) ∧ wr.cell? ⟨g, off + k * 4 + 1, none⟩ = some (.int .i64 y) ∧ wr.cell? ⟨g, off + k * 4 + 2, none⟩ = some (.int .i64 z) ∧ wr.cell? ⟨g, off + k * 4 + 3, none⟩ = some (.int .i64 v)
theorem sw_made (w : World) (L : List Int) (C : Array Value) (hC : C.toList = wrds L) (hl : L.length ≤ maxLen) : SW (w.alloc (.cells C 37)) (.slice (some ⟨w.heap.size, 0, none⟩) L.length L.length) L := by
  have hs : C.size = L.length := by rw [← Array.length_toList, hC]; simp [wrds]
  exact ⟨by simp [wrds], Or.inr ⟨w.heap.size, L.length, C, rfl, Nat.zero_le _, heap_alloc_new w _, Nat.le_refl _, hl, by simpa using hs, by rw [hC, Nat.mul_one]; unfold wrds; exact List.take_of_length_le (by simp)⟩⟩
def Box4 (w : World) (B : Nat) (x y z v : Int) : Prop := w.cell? ⟨B, 0, none⟩ = some (.int .i64 x) ∧ w.cell? ⟨B, 1, none⟩ = some (.int .i64 y) ∧ w.cell? ⟨B, 2, none⟩ = some (.int .i64 z) ∧ w.cell? ⟨B, 3, none⟩ = some (.int .i64 v)
theorem Box4.of {wA w1 : World} {B : Nat} {x y z v : Int} (h : Box4 wA B x y z v) (hk : w1.heap[B]? = wA.heap[B]?) : Box4 w1 B x y z v :=
  ⟨(World.cell?_of_block (a := ⟨B, 0, none⟩) hk).trans h.1, (World.cell?_of_block (a := ⟨B, 1, none⟩) hk).trans h.2.1, (World.cell?_of_block (a := ⟨B, 2, none⟩) hk).trans h.2.2.1, (World.cell?_of_block (a := ⟨B, 3, none⟩) hk).trans h.2.2.2⟩
theorem Box4.drew {wA : World} {B : Nat} {x y z v : Int} (h : Box4 wA B x y z v) : Box4 wA.drew B x y z v := h
set_option maxHeartbeats 64000000 in
set_option maxRecDepth 20000 in
theorem play_any {HA : HAt} (K : HeapK HA) (n : Nat → Nat) (few : ∀ s, s < 5 → n s ≤ 512) (one : 1 ≤ n 0 + (n 1 + (n 2 + (n 3 + n 4)))) (sum : n 0 + (n 1 + (n 2 + (n 3 + n 4))) ≤ 1020) (ad : Option Addr) (len cap : Nat) (w : World) (HN : Asks w ad len) (hlen : len ≤ 100000000000000) :
    Calls Tryz.prog 6 #[cfgV n 1, .slice ad len cap] w fun e w' => e = .returned (.bool true) ∧ Below w.heap.size w w' := by
  replace HN := Lib.hid HN
  have KN := Lib.hid (fun (wX : World) => K.new (w := wX) n 1 few one sum (by omega) (by omega))
  have RN := Lib.hid (fun (wX : World) => rnewh_c n 1 wX few sum)
  have RC : Hid (∀ wX, Calls Tryz.prog 27 #[cfgV n 1] wX fun r w' => r = .returned (.int .i64 0) ∧ Below wX.heap.size wX w') := Lib.hid (fun wX => by
    have f0 := few 0 (by omega)
    have f1 := few 1 (by omega)
    have f2 := few 2 (by omega)
    have f3 := few 3 (by omega)
    have f4 := few 4 (by omega)
    refine (rconfig_c (n 0 : Nat) (n 1 : Nat) (n 2 : Nat) (n 3 : Nat) (n 4 : Nat) 1 (by omega) (by omega) (by omega) (by omega) (by omega) (by omega) (by omega) (by omega) (by omega) (by omega) (by omega) (by omega) wX).mono ?_
    rintro e w' ⟨rfl, rfl⟩
    refine ⟨?_, (Below.refl _ _).alloc (Nat.le_refl _) _⟩
    rw [(rt_zero _ _ _ _ _ _).2 ⟨⟨by omega, by omega, by omega, by omega, by omega, by omega, by omega, by omega, by omega, by omega, by omega, by omega⟩, by omega, by omega⟩])
  unfold cfgV at KN RN RC ⊢
  clear few one sum
  go_enter Tryz.func6, Tryz.ntmps6
  go_wp2_with fail
  refine (KN.out _).mono ?_
  rintro e w1 ⟨p, F, rfl, hm, hF, hb⟩
  have b1 := Lib.hid (((Below.refl w.heap.size w).alloc (Nat.le_refl _) (.cells #[.int .i64 (n 0 : Nat), .int .i64 (n 1 : Nat), .int .i64 (n 2 : Nat), .int .i64 (n 3 : Nat), .int .i64 (n 4 : Nat), .int .i64 1] 28)).trans (hb.mono (by simp)))
  have hcell : Hid (∀ wX, Below w1.heap.size w1 wX → ∀ j v, (#[Value.int .i64 (n 0 : Nat), .int .i64 (n 1 : Nat), .int .i64 (n 2 : Nat), .int .i64 (n 3 : Nat), .int .i64 (n 4 : Nat), .int .i64 1] : Array Value)[j]? = some v → wX.cell? ⟨w.heap.size, j, none⟩ = some v) := Lib.hid (fun wX hX j v hv => by
    have e1 : w1.heap[w.heap.size]? = some (.cells #[.int .i64 (n 0 : Nat), .int .i64 (n 1 : Nat), .int .i64 (n 2 : Nat), .int .i64 (n 3 : Nat), .int .i64 (n 4 : Nat), .int .i64 1] 28 (0, 0)) := (hb.block w.heap.size (by simp)).trans (heap_alloc_new _ _)
    have e2 := (hX.block w.heap.size (by have := hb.size; simp at this; omega)).trans e1
    simp [World.cell?, e2, hv])
  have hm2 : Hid (HA w1 p n (newH n) F ∧ ∀ k, F k → w.heap.size ≤ k) := Lib.hid ⟨hm, fun k hk => by have := hF k hk; simp at this; omega⟩
  clear hm hF hb KN
  have g0 := hcell.out w1 (Below.refl _ _) 0 _ rfl
  have g1 := hcell.out w1 (Below.refl _ _) 1 _ rfl
  have g2 := hcell.out w1 (Below.refl _ _) 2 _ rfl
  have g3 := hcell.out w1 (Below.refl _ _) 3 _ rfl
  have g4 := hcell.out w1 (Below.refl _ _) 4 _ rfl
  have g5 := hcell.out w1 (Below.refl _ _) 5 _ rfl
  go_wp2_with fail
  refine (RC.out _).mono ?_
  rintro e w2 ⟨rfl, hb2⟩
  clear g0 g1 g2 g3 g4 g5 RC
  have g0 := hcell.out w2 hb2 0 _ rfl
  have g1 := hcell.out w2 hb2 1 _ rfl
  have g2 := hcell.out w2 hb2 2 _ rfl
  have g3 := hcell.out w2 hb2 3 _ rfl
  have g4 := hcell.out w2 hb2 4 _ rfl
  have g5 := hcell.out w2 hb2 5 _ rfl
  replace hb2 := Lib.hid hb2
  go_wp2_with fail
  refine (RN.out _).mono ?_
  rintro e w3 ⟨b, D, rfl, hr, hD, hb3⟩
  have b2 := hb2.out
  have h2 : HA w2 p n (newH n) F := K.keep hm2.out.1 b2.size (fun k hk => b2.block k (K.lt hm2.out.1 k hk))
  have b13 : Below w.heap.size w w3 := (b1.out.trans (b2.mono b1.out.size)).trans (hb3.mono (by have := b1.out.size; have := b2.size; omega))
  have st0 : PP HA w w3 p b n (newH n) (newH n) F D w (fun _ => False) :=
    ⟨K.keep h2 hb3.size (fun k hk => hb3.block k (K.lt h2 k hk)), hr, fun k hk hDk => by have := hD k hDk; have := K.lt h2 k hk; omega, b13, hm2.out.2, fun k hk => by have := hD k hk; have := b1.out.size; have := b2.size; omega, fun k hk => False.elim hk⟩
  replace st0 := Lib.hid st0
  clear hr hD hb3 h2 b13 b2 g0 g1 g2 g3 g4 g5 hcell hm2 RN b1 hb2
  go_wp2_with fail
  go_loopw [7] (fun i' wr => ∃ i : Nat, i ≤ len ∧ i ≤ 120 ∧ i' = .int .i64 i ∧ ∃ H F D, Hid (PP HA w wr p b n H H F D w (fun _ => False))) (fun i' _ => 120 - (intOf i').toNat)
  case atStart => exact ⟨0, by omega, by omega, rfl, _, _, _, st0⟩
  case round =>
    obtain ⟨i, hi, hi2, rfl, H, F5, D5, hst⟩ := hrel
    clear st0
    by_cases hlt : i < len ∧ i < 120
    · obtain ⟨g, off, x, y, z, v, rfl, hx, hy, hz, hv, cx, cy, cz, cv⟩ := HN.out wr hst.out.bel i hlt.1
      have d1 : decide ((i : Int) < (len : Int)) = true := by simp; omega
      have d2 : decide ((i : Int) < 120) = true := by simp; omega
      have hw : IntKind.i64.wrap ((i : Int) + 1) = (i : Int) + 1 := by rw [IntKind.wrap_i64]; omega
      have sA : Hid (PP HA w (wr.alloc (.cells #[.int .i64 x, .int .i64 y, .int .i64 z, .int .i64 v] 24)) p b n H H F5 D5 (wr.alloc (.cells #[.int .i64 x, .int .i64 y, .int .i64 z, .int .i64 v] 24)) (fun k => k = wr.heap.size)) :=
        Lib.hid ((hst.out.keep K ((Below.refl _ _).alloc (Nat.le_refl _) _)).apart (fun k hk => by subst hk; exact ⟨by simp, fun h => by have := K.lt hst.out.ha _ h; omega, fun h => by have := hst.out.ra.lt _ h; omega⟩))
      have B0 : Hid (Box4 (wr.alloc (.cells #[.int .i64 x, .int .i64 y, .int .i64 z, .int .i64 v] 24)) wr.heap.size x y z v) := Lib.hid ⟨by simp, by simp, by simp, by simp⟩
      obtain ⟨B, hB⟩ : ∃ B, wr.heap.size = B := ⟨_, rfl⟩
      rw [hB] at sA B0
      have hwB : (wr.alloc (.cells #[.int .i64 x, .int .i64 y, .int .i64 z, .int .i64 v] 24)).heap.size = B + 1 := by rw [← hB]; simp
      replace hwB := Lib.hid hwB
      generalize hwA : wr.alloc (.cells #[.int .i64 x, .int .i64 y, .int .i64 z, .int .i64 v] 24) = wA at *
      have bx : Hid (∀ wX H' G' F' D', PP HA w wX p b n H' G' F' D' wA (fun k => k = B) → Box4 wX B x y z v) := Lib.hid (fun wX H' G' F' D' hX => B0.out.of ((hX.ex B rfl).2.2.2))
      have s0 : Hid (PP HA w wA.drew p b n H H F5 D5 wA (fun k => k = B)) := Lib.hid (sA.out.keep K ((Below.refl _ _).drew))
      have x0 := B0.out.1
      replace hwA := Lib.hid hwA
      replace hB := Lib.hid hB
      by_cases e4 : x = 4
      · have q4 : (x == 4) = true := by simp; omega
        clear e4
        have ne : (putB H (idH H y) z (valH H v) != putB H (idH H y) z (valH H v)) = false := by simp
        have vb := valH_bd H v
        have ib := idH_bd H y
        go_wp2
        rw [hwA.out, hB.out]
        go_region_held3 (fun w' => w'.cell? ⟨B, 0, none⟩ = some (.int .i64 x) ∧ w'.cell? ⟨B, 1, none⟩ = some (.int .i64 y) ∧ w'.cell? ⟨B, 2, none⟩ = some (.int .i64 z) ∧ w'.cell? ⟨B, 3, none⟩ = some (.int .i64 v)) (first | assumption | exact bx.out _ _ _ _ _ (s2.out.keep K ((Below.refl _ _).alloc (Nat.le_refl _) _)) | exact B0.out.drew | exact bx.out _ _ _ _ _ s5.out | exact bx.out _ _ _ _ _ s4.out | exact bx.out _ _ _ _ _ s3.out | exact bx.out _ _ _ _ _ s2.out | exact bx.out _ _ _ _ _ s1.out | exact bx.out _ _ _ _ _ s0.out) (first
          | (go_at_call 28; ((with_reducible refine (id_c s0.out.ra y hy.1 hy.2).mono ?_); rintro e y1 ⟨he, hb⟩; subst he; have s1 := Lib.hid (s0.out.keep K hb); clear hb))
          | (go_at_call 29; ((with_reducible refine (value_c s1.out.ra v hv.1 hv.2).mono ?_); rintro e y2 ⟨he, hb⟩; subst he; have s2 := Lib.hid (s1.out.keep K hb); clear hb)))
        clear s0 s1
        have s3 := Lib.hid (s2.out.keep K ((Below.refl _ _).drew))
        have x2 := (bx.out _ _ _ _ _ s2.out).2.2.1
        go_wp2
        go_region_held3 (fun w' => w'.cell? ⟨B, 0, none⟩ = some (.int .i64 x) ∧ w'.cell? ⟨B, 1, none⟩ = some (.int .i64 y) ∧ w'.cell? ⟨B, 2, none⟩ = some (.int .i64 z) ∧ w'.cell? ⟨B, 3, none⟩ = some (.int .i64 v)) (first | assumption | exact bx.out _ _ _ _ _ (s2.out.keep K ((Below.refl _ _).alloc (Nat.le_refl _) _)) | exact B0.out.drew | exact bx.out _ _ _ _ _ s5.out | exact bx.out _ _ _ _ _ s4.out | exact bx.out _ _ _ _ _ s3.out | exact bx.out _ _ _ _ _ s2.out | exact bx.out _ _ _ _ _ s1.out | exact bx.out _ _ _ _ _ s0.out) (first
          | (go_at_call 14; ((with_reducible refine (K.put (idH H y) z (valH H v) s3.out.ha ib hz vb.1 vb.2).mono ?_); rintro e y3 ⟨G3, rfl, hL⟩; have s4 := Lib.hid (s3.out.stepP K hL); clear hL))
          | (go_at_call 15; ((with_reducible refine (rputh_c s4.out.ra (idH H y) z (valH H v) vb.1 vb.2).mono ?_); rintro e y4 ⟨G4, rfl, l1, l2, l3⟩; have s5 := Lib.hid (s4.out.stepR K l1 l2 l3); clear l1 l2 l3)))
        have sZ : Hid (PP HA w _ p b n _ _ _ _ w (fun _ => False)) := Lib.hid (s5.out.base (fun k hk => False.elim hk))
        clear bx hst sA B0 hwB hwA hB
        clear s2 s3 s4 s5
        rcases (show Int.tmod (i : Int) 2 = 0 ∨ Int.tmod (i : Int) 2 = 1 by have e : Int.tmod (i : Int) 2 = ((i % 2 : Nat) : Int) := (Int.ofNat_tmod i 2).symm
                                                                            omega) with hpar | hpar
        · skip
          go_wp2_with fail
          refine (same_c K sZ.out).mono ?_
          rintro e y9 ⟨G9, rfl, s9⟩
          replace s9 := Lib.hid s9
          clear sZ
          go_wp2
          go_roundw
          case rel => exact ⟨i + 1, by omega, by omega, by go_num, _, _, _, s9⟩
          case measure => simp [intOf]; omega
        · go_wp2
          go_roundw
          case rel => exact ⟨i + 1, by omega, by omega, by go_num, _, _, _, sZ⟩
          case measure => simp [intOf]; omega
      · have q4 : (x == 4) = false := by simp; omega
        clear e4
        by_cases e5 : x = 5
        · have q5 : (x == 5) = true := by simp; omega
          clear e5
          have ne : (putB H (idH H y) z (valH H v) != putB H (idH H y) z (valH H v)) = false := by simp
          have vb := valH_bd H v
          have ib := idH_bd H y
          go_wp2
          rw [hwA.out, hB.out]
          go_region_held3 (fun w' => w'.cell? ⟨B, 0, none⟩ = some (.int .i64 x) ∧ w'.cell? ⟨B, 1, none⟩ = some (.int .i64 y) ∧ w'.cell? ⟨B, 2, none⟩ = some (.int .i64 z) ∧ w'.cell? ⟨B, 3, none⟩ = some (.int .i64 v)) (first | assumption | exact bx.out _ _ _ _ _ (s2.out.keep K ((Below.refl _ _).alloc (Nat.le_refl _) _)) | exact B0.out.drew | exact bx.out _ _ _ _ _ s5.out | exact bx.out _ _ _ _ _ s4.out | exact bx.out _ _ _ _ _ s3.out | exact bx.out _ _ _ _ _ s2.out | exact bx.out _ _ _ _ _ s1.out | exact bx.out _ _ _ _ _ s0.out) (first
            | (go_at_call 28; ((with_reducible refine (id_c s0.out.ra y hy.1 hy.2).mono ?_); rintro e y1 ⟨he, hb⟩; subst he; have s1 := Lib.hid (s0.out.keep K hb); clear hb))
            | (go_at_call 29; ((with_reducible refine (value_c s1.out.ra v hv.1 hv.2).mono ?_); rintro e y2 ⟨he, hb⟩; subst he; have s2 := Lib.hid (s1.out.keep K hb); clear hb)))
          clear s0 s1
          have s3 := Lib.hid (s2.out.keep K ((Below.refl _ _).drew))
          have x2 := (bx.out _ _ _ _ _ s2.out).2.2.1
          go_wp2
          go_region_held3 (fun w' => w'.cell? ⟨B, 0, none⟩ = some (.int .i64 x) ∧ w'.cell? ⟨B, 1, none⟩ = some (.int .i64 y) ∧ w'.cell? ⟨B, 2, none⟩ = some (.int .i64 z) ∧ w'.cell? ⟨B, 3, none⟩ = some (.int .i64 v)) (first | assumption | exact bx.out _ _ _ _ _ (s2.out.keep K ((Below.refl _ _).alloc (Nat.le_refl _) _)) | exact B0.out.drew | exact bx.out _ _ _ _ _ s5.out | exact bx.out _ _ _ _ _ s4.out | exact bx.out _ _ _ _ _ s3.out | exact bx.out _ _ _ _ _ s2.out | exact bx.out _ _ _ _ _ s1.out | exact bx.out _ _ _ _ _ s0.out) (first
            | (go_at_call 14; ((with_reducible refine (K.put (idH H y) z (valH H v) s3.out.ha ib hz vb.1 vb.2).mono ?_); rintro e y3 ⟨G3, rfl, hL⟩; have s4 := Lib.hid (s3.out.stepP K hL); clear hL))
            | (go_at_call 15; ((with_reducible refine (rputh_c s4.out.ra (idH H y) z (valH H v) vb.1 vb.2).mono ?_); rintro e y4 ⟨G4, rfl, l1, l2, l3⟩; have s5 := Lib.hid (s4.out.stepR K l1 l2 l3); clear l1 l2 l3)))
          have sZ : Hid (PP HA w _ p b n _ _ _ _ w (fun _ => False)) := Lib.hid (s5.out.base (fun k hk => False.elim hk))
          clear bx hst sA B0 hwB hwA hB
          clear s2 s3 s4 s5
          rcases (show Int.tmod (i : Int) 2 = 0 ∨ Int.tmod (i : Int) 2 = 1 by have e : Int.tmod (i : Int) 2 = ((i % 2 : Nat) : Int) := (Int.ofNat_tmod i 2).symm
                                                                              omega) with hpar | hpar
          · skip
            go_wp2_with fail
            refine (same_c K sZ.out).mono ?_
            rintro e y9 ⟨G9, rfl, s9⟩
            replace s9 := Lib.hid s9
            clear sZ
            go_wp2
            go_roundw
            case rel => exact ⟨i + 1, by omega, by omega, by go_num, _, _, _, s9⟩
            case measure => simp [intOf]; omega
          · go_wp2
            go_roundw
            case rel => exact ⟨i + 1, by omega, by omega, by go_num, _, _, _, sZ⟩
            case measure => simp [intOf]; omega
        · have q5 : (x == 5) = false := by simp; omega
          clear e5
          by_cases e6 : x = 6
          · have q6 : (x == 6) = true := by simp; omega
            clear e6
            have ne : (swapB H.T (idH H y) (idH H z) != swapB H.T (idH H y) (idH H z)) = false := by simp
            have ib := idH_bd H y
            have jb := idH_bd H z
            go_wp2
            rw [hwA.out, hB.out]
            go_region_held3 (fun w' => w'.cell? ⟨B, 0, none⟩ = some (.int .i64 x) ∧ w'.cell? ⟨B, 1, none⟩ = some (.int .i64 y) ∧ w'.cell? ⟨B, 2, none⟩ = some (.int .i64 z) ∧ w'.cell? ⟨B, 3, none⟩ = some (.int .i64 v)) (first | assumption | exact bx.out _ _ _ _ _ (s2.out.keep K ((Below.refl _ _).alloc (Nat.le_refl _) _)) | exact B0.out.drew | exact bx.out _ _ _ _ _ s5.out | exact bx.out _ _ _ _ _ s4.out | exact bx.out _ _ _ _ _ s3.out | exact bx.out _ _ _ _ _ s2.out | exact bx.out _ _ _ _ _ s1.out | exact bx.out _ _ _ _ _ s0.out) (first
              | (go_at_call 28; ((with_reducible refine (id_c s0.out.ra y hy.1 hy.2).mono ?_); rintro e y1 ⟨he, hb⟩; subst he; have s1 := Lib.hid (s0.out.keep K hb); clear hb))
              | (go_at_call 28; ((with_reducible refine (id_c s1.out.ra z hz.1 hz.2).mono ?_); rintro e y2 ⟨he, hb⟩; subst he; have s2 := Lib.hid (s1.out.keep K hb); clear hb)))
            go_wp2_with fail
            refine (K.swap (idH H y) (idH H z) s2.out.ha ib jb).mono ?_
            rintro e y3 ⟨G3, rfl, hL⟩
            have s3 := Lib.hid (s2.out.stepP K hL)
            clear hL
            go_wp2_with fail
            refine (rswaph_c s3.out.ra (idH H y) (idH H z)).mono ?_
            rintro e y4 ⟨G4, rfl, l1, l2, l3⟩
            have s4 := Lib.hid (s3.out.stepR K l1 l2 l3)
            clear l1 l2 l3
            have sZ : Hid (PP HA w _ p b n _ _ _ _ w (fun _ => False)) := Lib.hid (s4.out.base (fun k hk => False.elim hk))
            clear bx s0 hst sA B0 hwB hwA hB
            clear s1 s2 s3 s4
            rcases (show Int.tmod (i : Int) 2 = 0 ∨ Int.tmod (i : Int) 2 = 1 by have e : Int.tmod (i : Int) 2 = ((i % 2 : Nat) : Int) := (Int.ofNat_tmod i 2).symm
                                                                                omega) with hpar | hpar
            · skip
              go_wp2_with fail
              refine (same_c K sZ.out).mono ?_
              rintro e y9 ⟨G9, rfl, s9⟩
              replace s9 := Lib.hid s9
              clear sZ
              go_wp2
              go_roundw
              case rel => exact ⟨i + 1, by omega, by omega, by go_num, _, _, _, s9⟩
              case measure => simp [intOf]; omega
            · go_wp2
              go_roundw
              case rel => exact ⟨i + 1, by omega, by omega, by go_num, _, _, _, sZ⟩
              case measure => simp [intOf]; omega
          · have q6 : (x == 6) = false := by simp; omega
            clear e6
            by_cases e7 : x = 7
            · have q7 : (x == 7) = true := by simp; omega
              clear e7
              have va := valH_bd H y
              have vb := valH_bd H z
              go_wp2
              rw [hwA.out, hB.out]
              go_region_held3 (fun w' => w'.cell? ⟨B, 0, none⟩ = some (.int .i64 x) ∧ w'.cell? ⟨B, 1, none⟩ = some (.int .i64 y) ∧ w'.cell? ⟨B, 2, none⟩ = some (.int .i64 z) ∧ w'.cell? ⟨B, 3, none⟩ = some (.int .i64 v)) (first | assumption | exact bx.out _ _ _ _ _ (s2.out.keep K ((Below.refl _ _).alloc (Nat.le_refl _) _)) | exact B0.out.drew | exact bx.out _ _ _ _ _ s5.out | exact bx.out _ _ _ _ _ s4.out | exact bx.out _ _ _ _ _ s3.out | exact bx.out _ _ _ _ _ s2.out | exact bx.out _ _ _ _ _ s1.out | exact bx.out _ _ _ _ _ s0.out) (first
                | (go_at_call 29; ((with_reducible refine (value_c s0.out.ra y hy.1 hy.2).mono ?_); rintro e y1 ⟨he, hb⟩; subst he; have s1 := Lib.hid (s0.out.keep K hb); clear hb))
                | (go_at_call 29; ((with_reducible refine (value_c s1.out.ra z hz.1 hz.2).mono ?_); rintro e y2 ⟨he, hb⟩; subst he; have s2 := Lib.hid (s1.out.keep K hb); clear hb)))
              have cb : 0 ≤ IntKind.u32.wrap v ∧ IntKind.u32.wrap v ≤ 4294967295 := by rw [IntKind.wrap_u32']; omega
              generalize IntKind.u32.wrap v = vc at *
              have rw0 : SW (y2.alloc (.cells #[.int .u32 (valH H y), .int .u32 (valH H z), .int .u32 0, .int .u32 vc] 37)) (.slice (some ⟨y2.heap.size, 0, none⟩) 4 4) [valH H y, valH H z, 0, vc] := sw_made y2 [valH H y, valH H z, 0, vc] _ rfl (by simp [maxLen])
              have hbs : ∀ a ∈ [valH H y, valH H z, 0, vc], 0 ≤ a ∧ a ≤ 4294967295 := by
                intro a ha
                simp only [List.mem_cons, List.not_mem_nil, or_false] at ha
                rcases ha with rfl | rfl | rfl | rfl
                · exact va
                · exact vb
                · omega
                · exact cb
              have hgs : ∀ g, (Value.slice (some ⟨y2.heap.size, 0, none⟩) 4 4).ownBlock = some g → g = y2.heap.size := fun g hg => by simp [Value.ownBlock] at hg; omega
              have s3 : Hid (PP HA w (y2.alloc (.cells #[.int .u32 (valH H y), .int .u32 (valH H z), .int .u32 0, .int .u32 vc] 37)) p b n H H _ _ (y2.alloc (.cells #[.int .u32 (valH H y), .int .u32 (valH H z), .int .u32 0, .int .u32 vc] 37)) (fun k => k = y2.heap.size)) :=
                Lib.hid ((s2.out.keep K ((Below.refl _ _).alloc (Nat.le_refl _) _)).apart (fun k hk => by subst hk; exact ⟨by simp, fun h => by have := K.lt s2.out.ha _ h; omega, fun h => by have := s2.out.ra.lt _ h; omega⟩))
              generalize y2.heap.size = B2 at *
              generalize y2.alloc (.cells #[.int .u32 (valH H y), .int .u32 (valH H z), .int .u32 0, .int .u32 vc] 37) = y3 at *
              replace rw0 := Lib.hid rw0
              replace hbs := Lib.hid hbs
              replace hgs := Lib.hid hgs
              clear bx s0 hst sA B0 hwB hwA hB s1 s2
              go_wp2_with fail
              refine (K.hold s3.out.ha rw0.out hbs.out (by simp) (fun g hg => by rw [hgs.out g hg]; exact (s3.out.ex B2 rfl).2.1)).mono ?_
              rintro e y4 ⟨G4, rfl, hL⟩
              have s4 := Lib.hid (s3.out.stepP K hL)
              have rw1 : SW y4 (.slice (some ⟨B2, 0, none⟩) 4 4) [valH H y, valH H z, 0, vc] := rw0.out.same (fun g hg => by rw [hgs.out g hg]; exact (s4.out.ex B2 rfl).2.2.2)
              replace rw1 := Lib.hid rw1
              clear hL
              go_wp2_with fail
              refine (rholdh_c s4.out.ra rw1.out hbs.out (fun g hg => by rw [hgs.out g hg]; exact (s4.out.ex B2 rfl).2.2.1)).mono ?_
              rintro e y5 ⟨G5, rfl, l1, l2, l3⟩
              have s5 := Lib.hid (s4.out.stepR K l1 l2 l3)
              clear l1 l2 l3
              have sZ : Hid (PP HA w _ p b n _ _ _ _ w (fun _ => False)) := Lib.hid (s5.out.base (fun k hk => False.elim hk))
              clear s3 s4 s5 rw0 rw1 hbs hgs
              rcases (show Int.tmod (i : Int) 2 = 0 ∨ Int.tmod (i : Int) 2 = 1 by have e : Int.tmod (i : Int) 2 = ((i % 2 : Nat) : Int) := (Int.ofNat_tmod i 2).symm
                                                                                  omega) with hpar | hpar
              · skip
                go_wp2_with fail
                refine (same_c K sZ.out).mono ?_
                rintro e y9 ⟨G9, rfl, s9⟩
                replace s9 := Lib.hid s9
                clear sZ
                go_wp2
                go_roundw
                case rel => exact ⟨i + 1, by omega, by omega, by go_num, _, _, _, s9⟩
                case measure => simp [intOf]; omega
              · go_wp2
                go_roundw
                case rel => exact ⟨i + 1, by omega, by omega, by go_num, _, _, _, sZ⟩
                case measure => simp [intOf]; omega
            · have q7 : (x == 7) = false := by simp; omega
              clear e7
              by_cases e8 : x = 8
              · have q8 : (x == 8) = true := by simp; omega
                clear e8
                have ne : ((scanR H v).1 != (scanR H v).1) = false := by simp
                go_wp2
                rw [hwA.out, hB.out]
                go_region_held3 (fun w' => w'.cell? ⟨B, 0, none⟩ = some (.int .i64 x) ∧ w'.cell? ⟨B, 1, none⟩ = some (.int .i64 y) ∧ w'.cell? ⟨B, 2, none⟩ = some (.int .i64 z) ∧ w'.cell? ⟨B, 3, none⟩ = some (.int .i64 v)) (first | assumption | exact bx.out _ _ _ _ _ (s2.out.keep K ((Below.refl _ _).alloc (Nat.le_refl _) _)) | exact B0.out.drew | exact bx.out _ _ _ _ _ s5.out | exact bx.out _ _ _ _ _ s4.out | exact bx.out _ _ _ _ _ s3.out | exact bx.out _ _ _ _ _ s2.out | exact bx.out _ _ _ _ _ s1.out | exact bx.out _ _ _ _ _ s0.out) (first
                  | (go_at_call 21; ((with_reducible refine (K.scan v s0.out.ha hv).mono ?_); rintro e y1 ⟨G1, rfl, hL⟩; have s1 := Lib.hid (s0.out.stepP K hL); clear hL))
                  | (go_at_call 22; ((with_reducible refine (rscanh_c s1.out.ra v).mono ?_); rintro e y2 ⟨G2, rfl, l1, l2, l3⟩; have s2 := Lib.hid (s1.out.stepR K l1 l2 l3); clear l1 l2 l3)))
                have sZ : Hid (PP HA w _ p b n _ _ _ _ w (fun _ => False)) := Lib.hid (s2.out.base (fun k hk => False.elim hk))
                clear bx s0 hst sA B0 hwB hwA hB
                clear s1 s2
                rcases (show Int.tmod (i : Int) 2 = 0 ∨ Int.tmod (i : Int) 2 = 1 by have e : Int.tmod (i : Int) 2 = ((i % 2 : Nat) : Int) := (Int.ofNat_tmod i 2).symm
                                                                                    omega) with hpar | hpar
                · skip
                  go_wp2_with fail
                  refine (same_c K sZ.out).mono ?_
                  rintro e y9 ⟨G9, rfl, s9⟩
                  replace s9 := Lib.hid s9
                  clear sZ
                  go_wp2
                  go_roundw
                  case rel => exact ⟨i + 1, by omega, by omega, by go_num, _, _, _, s9⟩
                  case measure => simp [intOf]; omega
                · go_wp2
                  go_roundw
                  case rel => exact ⟨i + 1, by omega, by omega, by go_num, _, _, _, sZ⟩
                  case measure => simp [intOf]; omega
              · have q8 : (x == 8) = false := by simp; omega
                clear e8
                by_cases e9 : x = 9
                · have q9 : (x == 9) = true := by simp; omega
                  clear e9
                  have ne : ((scanR H v).1 != (scanR H v).1) = false := by simp
                  go_wp2
                  rw [hwA.out, hB.out]
                  go_region_held3 (fun w' => w'.cell? ⟨B, 0, none⟩ = some (.int .i64 x) ∧ w'.cell? ⟨B, 1, none⟩ = some (.int .i64 y) ∧ w'.cell? ⟨B, 2, none⟩ = some (.int .i64 z) ∧ w'.cell? ⟨B, 3, none⟩ = some (.int .i64 v)) (first | assumption | exact bx.out _ _ _ _ _ (s2.out.keep K ((Below.refl _ _).alloc (Nat.le_refl _) _)) | exact B0.out.drew | exact bx.out _ _ _ _ _ s5.out | exact bx.out _ _ _ _ _ s4.out | exact bx.out _ _ _ _ _ s3.out | exact bx.out _ _ _ _ _ s2.out | exact bx.out _ _ _ _ _ s1.out | exact bx.out _ _ _ _ _ s0.out) (first
                    | (go_at_call 21; ((with_reducible refine (K.scan v s0.out.ha hv).mono ?_); rintro e y1 ⟨G1, rfl, hL⟩; have s1 := Lib.hid (s0.out.stepP K hL); clear hL))
                    | (go_at_call 22; ((with_reducible refine (rscanh_c s1.out.ra v).mono ?_); rintro e y2 ⟨G2, rfl, l1, l2, l3⟩; have s2 := Lib.hid (s1.out.stepR K l1 l2 l3); clear l1 l2 l3)))
                  have sZ : Hid (PP HA w _ p b n _ _ _ _ w (fun _ => False)) := Lib.hid (s2.out.base (fun k hk => False.elim hk))
                  clear bx s0 hst sA B0 hwB hwA hB
                  clear s1 s2
                  rcases (show Int.tmod (i : Int) 2 = 0 ∨ Int.tmod (i : Int) 2 = 1 by have e : Int.tmod (i : Int) 2 = ((i % 2 : Nat) : Int) := (Int.ofNat_tmod i 2).symm
                                                                                      omega) with hpar | hpar
                  · skip
                    go_wp2_with fail
                    refine (same_c K sZ.out).mono ?_
                    rintro e y9 ⟨G9, rfl, s9⟩
                    replace s9 := Lib.hid s9
                    clear sZ
                    go_wp2
                    go_roundw
                    case rel => exact ⟨i + 1, by omega, by omega, by go_num, _, _, _, s9⟩
                    case measure => simp [intOf]; omega
                  · go_wp2
                    go_roundw
                    case rel => exact ⟨i + 1, by omega, by omega, by go_num, _, _, _, sZ⟩
                    case measure => simp [intOf]; omega
                · have q9 : (x == 9) = false := by simp; omega
                  clear e9
                  by_cases e10 : x = 10
                  · have q10 : (x == 10) = true := by simp; omega
                    clear e10
                    have ne : (flpI H != flpI H) = false := by simp
                    have s00 := sA
                    go_wp2_with fail
                    rw [hwA.out, hB.out]
                    refine (K.flip sA.out.ha).mono ?_
                    rintro e y1 ⟨G1, rfl, hL⟩
                    have s1 := Lib.hid (sA.out.stepP K hL)
                    clear hL
                    go_wp2_with fail
                    refine (rfliph_c s1.out.ra).mono ?_
                    rintro e y2 ⟨G2, rfl, l1, l2, l3⟩
                    have s2 := Lib.hid (s1.out.stepR K l1 l2 l3)
                    clear l1 l2 l3
                    have sZ : Hid (PP HA w _ p b n _ _ _ _ w (fun _ => False)) := Lib.hid (s2.out.base (fun k hk => False.elim hk))
                    clear s00 bx s0 hst sA B0 hwB hwA hB
                    clear s1 s2
                    rcases (show Int.tmod (i : Int) 2 = 0 ∨ Int.tmod (i : Int) 2 = 1 by have e : Int.tmod (i : Int) 2 = ((i % 2 : Nat) : Int) := (Int.ofNat_tmod i 2).symm
                                                                                        omega) with hpar | hpar
                    · skip
                      go_wp2_with fail
                      refine (same_c K sZ.out).mono ?_
                      rintro e y9 ⟨G9, rfl, s9⟩
                      replace s9 := Lib.hid s9
                      clear sZ
                      go_wp2
                      go_roundw
                      case rel => exact ⟨i + 1, by omega, by omega, by go_num, _, _, _, s9⟩
                      case measure => simp [intOf]; omega
                    · go_wp2
                      go_roundw
                      case rel => exact ⟨i + 1, by omega, by omega, by go_num, _, _, _, sZ⟩
                      case measure => simp [intOf]; omega
                  · have q10 : (x == 10) = false := by simp; omega
                    clear e10
                    have ne : (alcI H y z != alcI H y z) = false := by simp
                    go_wp2
                    rw [hwA.out, hB.out]
                    go_region_held3 (fun w' => w'.cell? ⟨B, 0, none⟩ = some (.int .i64 x) ∧ w'.cell? ⟨B, 1, none⟩ = some (.int .i64 y) ∧ w'.cell? ⟨B, 2, none⟩ = some (.int .i64 z) ∧ w'.cell? ⟨B, 3, none⟩ = some (.int .i64 v)) (first | assumption | exact bx.out _ _ _ _ _ (s2.out.keep K ((Below.refl _ _).alloc (Nat.le_refl _) _)) | exact B0.out.drew | exact bx.out _ _ _ _ _ s5.out | exact bx.out _ _ _ _ _ s4.out | exact bx.out _ _ _ _ _ s3.out | exact bx.out _ _ _ _ _ s2.out | exact bx.out _ _ _ _ _ s1.out | exact bx.out _ _ _ _ _ s0.out) (first
                      | (go_at_call 11; ((with_reducible refine (K.alloc y z s0.out.ha hy hz).mono ?_); rintro e y1 ⟨G1, rfl, hL⟩; have s1 := Lib.hid (s0.out.stepP K hL); clear hL))
                      | (go_at_call 12; ((with_reducible refine (ralloch_c s1.out.ra y z hz.1 hz.2).mono ?_); rintro e y2 ⟨G2, rfl, l1, l2, l3⟩; have s2 := Lib.hid (s1.out.stepR K l1 l2 l3); clear l1 l2 l3)))
                    have sZ : Hid (PP HA w _ p b n _ _ _ _ w (fun _ => False)) := Lib.hid (s2.out.base (fun k hk => False.elim hk))
                    clear bx s0 hst sA B0 hwB hwA hB
                    clear s1 s2
                    rcases (show Int.tmod (i : Int) 2 = 0 ∨ Int.tmod (i : Int) 2 = 1 by have e : Int.tmod (i : Int) 2 = ((i % 2 : Nat) : Int) := (Int.ofNat_tmod i 2).symm
                                                                                        omega) with hpar | hpar
                    · skip
                      go_wp2_with fail
                      refine (same_c K sZ.out).mono ?_
                      rintro e y9 ⟨G9, rfl, s9⟩
                      replace s9 := Lib.hid s9
                      clear sZ
                      go_wp2
                      go_roundw
                      case rel => exact ⟨i + 1, by omega, by omega, by go_num, _, _, _, s9⟩
                      case measure => simp [intOf]; omega
                    · go_wp2
                      go_roundw
                      case rel => exact ⟨i + 1, by omega, by omega, by go_num, _, _, _, sZ⟩
                      case measure => simp [intOf]; omega
    · have dd : i = len ∨ i = 120 := by omega
      replace hst := Lib.hid hst.out
      have F0 := Lib.hid (same_c K hst.out)
      rcases dd with rfl | rfl
      · have d1 : decide ((i : Int) < (i : Int)) = false := by simp
        go_wp2_with fail
        refine F0.out.mono ?_
        rintro e y9 ⟨G9, rfl, s9⟩
        go_wp2
        go_ret
        exact ⟨rfl, s9.bel⟩
      · have d2 : decide (((120 : Nat) : Int) < 120) = false := by simp
        by_cases hl : 120 < len
        · have d1 : decide (((120 : Nat) : Int) < (len : Int)) = true := by simp; omega
          go_wp2_with fail
          refine F0.out.mono ?_
          rintro e y9 ⟨G9, rfl, s9⟩
          go_wp2
          go_ret
          exact ⟨rfl, s9.bel⟩
        · have d1 : decide (((120 : Nat) : Int) < (len : Int)) = false := by simp; omega
          go_wp2_with fail
          refine F0.out.mono ?_
          rintro e y9 ⟨G9, rfl, s9⟩
          go_wp2
          go_ret
          exact ⟨rfl, s9.bel⟩
end Wd
end Go.Proofs.YtdaojohdmidemaaGreat
