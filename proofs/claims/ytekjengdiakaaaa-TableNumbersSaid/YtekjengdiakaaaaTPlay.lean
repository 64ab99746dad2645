/- What the laws ask of a table of identities: play. -/
import Derived.Test.YtekjengdiakaaaaTKnown
namespace Go.Proofs.Ytekjengdiakaaaa
open Go.RowKit
set_option linter.unusedVariables false
namespace Wd
/-- the asks, as a play reads them: in the world at hand and in any that only grew -/
def Asks (w0 : World) (ad : Option Addr) (len : Nat) : Prop := ∀ wr, Below w0.heap.size w0 wr → ∀ k, k < len → ∃ (g off : Nat) (x y z : Int), ad = some ⟨g, off, none⟩ ∧ (-9223372036854775808 ≤ x ∧ x ≤ 9223372036854775807) ∧ (-9223372036854775808 ≤ y ∧ y ≤ 9223372036854775807) ∧ (-9223372036854775808 ≤ z ∧ z ≤ 9223372036854775807) ∧
  wr.cell? ⟨g, off + k * 3, none⟩ = some (.int .i64 x) ∧ wr.cell? ⟨g, off + k * 3 + 1, none⟩ = some (.int .i64 y) ∧ wr.cell? ⟨g, off + k * 3 + 2, none⟩ = some (.int .i64 z)
def Box3 (w : World) (B : Nat) (x y z : Int) : Prop := w.cell? ⟨B, 0, none⟩ = some (.int .i64 x) ∧ w.cell? ⟨B, 1, none⟩ = some (.int .i64 y) ∧ w.cell? ⟨B, 2, none⟩ = some (.int .i64 z)
section
variable {wA w1 : World} {F : Nat → Prop} {B : Nat} {x y z : Int}
theorem Box3.of (h : Box3 wA B x y z) (hk : w1.heap[B]? = wA.heap[B]?) : Box3 w1 B x y z :=
  ⟨(World.cell?_of_block (a := ⟨B, 0, none⟩) hk).trans h.1, (World.cell?_of_block (a := ⟨B, 1, none⟩) hk).trans h.2.1, (World.cell?_of_block (a := ⟨B, 2, none⟩) hk).trans h.2.2⟩
theorem Box3.ch (h : Box3 wA B x y z) (c : Ch F wA w1) (hB : ¬ F B) : Box3 w1 B x y z := h.of (c.block B (World.block_lt_of_cell? wA _ h.1) hB)
theorem Box3.bel (h : Box3 wA B x y z) (c : Below wA.heap.size wA w1) : Box3 w1 B x y z := h.of (c.block B (World.block_lt_of_cell? wA _ h.1))
end
set_option maxHeartbeats 16000000 in
set_option maxRecDepth 20000 in
theorem play_any {TA : TAt} (K : TableK TA) (ad : Option Addr) (len cap : Nat) (w : World) (HA : Asks w ad len) (_hlen : len ≤ 100000000000000) :
    Calls Try.prog 7 #[.slice ad len cap] w fun e w' => e = .returned (.bool true) ∧ Below w.heap.size w w' := by
  replace HA := Lib.hid HA
  have hbd : ∀ w, Sem.run Try.prog (zeroValue 49) w = .ok (.agg zeroT) w := run_zeroT
  go_enter Try.func7, Try.ntmps7
  go_wp2_with fail
  refine K.new.mono ?_
  rintro e w1 ⟨p, F, rfl, hm, hF, hb⟩
  have st0 : PSt TA w (w1.alloc (.cells zeroT 49)) p w1.heap.size noT F :=
    ⟨K.keep hm (fun k hk => Below.heap_alloc _ _ _ (K.lt hm k hk)), zero_ref w1, fun h => by have := K.lt hm _ h; omega, hb.alloc hb.size _, hF, hb.size⟩
  clear hm hF hb
  replace st0 := Lib.hid st0
  obtain ⟨b, hb⟩ : ∃ b, w1.heap.size = b := ⟨_, rfl⟩
  go_wp2
  rw [hb] at st0
  clear hb hbd
  go_loopw [5] (fun i wr => ∃ k : Nat, k ≤ len ∧ k ≤ 100 ∧ i = .int .i64 k ∧ ∃ T F, Hid (PSt TA w wr p b T F)) (fun i _ => 100 - (intOf i).toNat)
  case atStart => exact ⟨0, by omega, by omega, rfl, _, _, st0⟩
  case round =>
    obtain ⟨k, hk, hk2, rfl, T, F, hst⟩ := hrel
    clear st0
    by_cases hlt : k < len ∧ k < 100
    · obtain ⟨g, off, x, y, z, rfl, ⟨x0, x1⟩, ⟨y0, y1⟩, ⟨z0, z1⟩, cx, cy, cz⟩ := HA.out wr hst.out.bel k hlt.1
      have d1 : decide ((k : Int) < (len : Int)) = true := by simp; omega
      have d2 : decide ((k : Int) < 100) = true := by simp; omega
      have hp1 : plOk (y, z) := ⟨⟨y0, y1⟩, ⟨z0, z1⟩⟩
      have hp2 : plOk (z, y) := ⟨⟨z0, z1⟩, ⟨y0, y1⟩⟩
      have hw : IntKind.i64.wrap ((k : Int) + 1) = (k : Int) + 1 := by rw [IntKind.wrap_i64]; omega
      obtain ⟨r, hr, hr9⟩ : ∃ r : Nat, Int.tmod (k : Int) 9 = (r : Int) ∧ r < 9 := ⟨k % 9, by exact (Int.ofNat_tmod k 9).symm, by omega⟩
      have hw4 : IntKind.i64.wrap (4 + (r : Int)) = 4 + (r : Int) := by rw [IntKind.wrap_i64]; omega
      have KT : ∀ wr T F, TA wr p T F → Calls Try.prog 9 #[.pointer (some ⟨p, 0, none⟩), .agg #[.int .i64 y, .int .i64 z]] wr fun e w' => ∃ F', e = .returned (.int .i64 (takeI T (y, z))) ∧ TA w' p (takeT T (y, z)) F' ∧ Ch F wr w' ∧ Newer F F' wr.heap.size := fun wr T F h => K.take (y, z) h hp1
      have RT : ∀ wr T, RefT wr b T → Calls Try.prog 19 #[.pointer (some ⟨b, 0, none⟩), .agg #[.int .i64 y, .int .i64 z]] wr fun e w' => e = .returned (.int .i64 (takeI T (y, z))) ∧ RefT w' b (takeT T (y, z)) ∧ Ch (fun k => k = b) wr w' := fun wr T h => rtake_c (y, z) h
      replace KT := Lib.hid KT
      replace RT := Lib.hid RT
      replace hp1 := Lib.hid hp1
      replace hp2 := Lib.hid hp2
      by_cases hx3 : x = 3
      · have q3 : (x == 3) = true := by simp; omega
        clear hx3
        have hstA := Lib.hid (hst.out.keep K ((Below.refl _ _).alloc (Nat.le_refl _) (.cells #[.int .i64 x, .int .i64 y, .int .i64 z] 24)).drew)
        have B0 : Box3 (wr.alloc (.cells #[.int .i64 x, .int .i64 y, .int .i64 z] 24)).drew wr.heap.size x y z := ⟨by simp, by simp, by simp⟩
        have FB : ¬ F wr.heap.size := fun h => by have := K.lt hst.out.ta _ h; omega
        have FB2 : ¬ (wr.heap.size = b) := by have := hst.out.ref.lt; omega
        have hraA := hstA.out.ta
        go_wp2
        go_region_held3 (fun w' => w'.cell? ⟨wr.heap.size, 0, none⟩ = some (.int .i64 x) ∧ w'.cell? ⟨wr.heap.size, 1, none⟩ = some (.int .i64 y) ∧ w'.cell? ⟨wr.heap.size, 2, none⟩ = some (.int .i64 z)) (first | assumption | exact B0 | exact Box3.ch B0 hch FB | exact Box3.ch (Box3.ch B0 hch FB) hgr FB2) (first
          | (go_at_call 10; ((with_reducible refine (K.give y hraA y0 y1).mono ?_); rintro e wB ⟨F2, rfl, hrB, hch, hnw⟩))
          | (go_at_call 17; ((with_reducible refine (rgive_c y (hstA.out.ref1 hch)).mono ?_); rintro e wC ⟨rfl, hrC, hgr⟩)))
        have hst2 := Lib.hid (hstA.out.step K hrB hch hnw hrC hgr)
        have B2 := (B0.ch hch FB).ch hgr FB2
        clear hstA hrB hch hnw hrC hgr B0 FB FB2 hraA
        have x1 := B2.2.1
        have x2 := B2.2.2
        go_wp2_with fail
        refine (same_c K y y0 y1 (y, z) hp1.out hst2.out).mono ?_
        rintro e w5 ⟨rfl, hb5⟩
        have hst3 := Lib.hid (hst2.out.keep K hb5)
        have B5 := B2.bel hb5
        clear hst2 B2 x1 x2 hb5
        have x1 := B5.2.1
        have x2 := B5.2.2
        go_wp2_with fail
        refine (same_c K (4 + (r : Int)) (by omega) (by omega) (z, y) hp2.out hst3.out).mono ?_
        rintro e w6 ⟨rfl, hb6⟩
        have hst4 := Lib.hid (hst3.out.keep K hb6)
        clear hst hst3 B5 x1 x2 hb6
        go_wp2
        go_roundw
        case rel => exact ⟨k + 1, by omega, by omega, by go_num, _, _, hst4⟩
        case measure => simp [intOf]; omega

      · have q3 : (x == 3) = false := by simp; omega
        by_cases hx4 : x = 4
        · have q4 : (x == 4) = true := by simp; omega
          clear hx3 hx4
          have hstA := Lib.hid (hst.out.keep K ((Below.refl _ _).alloc (Nat.le_refl _) (.cells #[.int .i64 x, .int .i64 y, .int .i64 z] 24)).drew)
          have B0 : Box3 (wr.alloc (.cells #[.int .i64 x, .int .i64 y, .int .i64 z] 24)).drew wr.heap.size x y z := ⟨by simp, by simp, by simp⟩
          have FB : ¬ F wr.heap.size := fun h => by have := K.lt hst.out.ta _ h; omega
          have FB2 : ¬ (wr.heap.size = b) := by have := hst.out.ref.lt; omega
          have hraA := hstA.out.ta
          go_wp2
          go_region_held3 (fun w' => w'.cell? ⟨wr.heap.size, 0, none⟩ = some (.int .i64 x) ∧ w'.cell? ⟨wr.heap.size, 1, none⟩ = some (.int .i64 y) ∧ w'.cell? ⟨wr.heap.size, 2, none⟩ = some (.int .i64 z)) (first | assumption | exact B0 | exact Box3.ch B0 hch FB | exact Box3.ch (Box3.ch B0 hch FB) hgr FB2) (first
            | (go_at_call 16; ((with_reducible refine (K.swap y z hraA y0 y1 z0 z1).mono ?_); rintro e wB ⟨F2, rfl, hrB, hch, hnw⟩))
            | (go_at_call 18; ((with_reducible refine (rswap_c y z (hstA.out.ref1 hch)).mono ?_); rintro e wC ⟨rfl, hrC, hgr⟩)))
          have hst2 := Lib.hid (hstA.out.step K hrB hch hnw hrC hgr)
          have B2 := (B0.ch hch FB).ch hgr FB2
          clear hstA hrB hch hnw hrC hgr B0 FB FB2 hraA
          have x1 := B2.2.1
          have x2 := B2.2.2
          go_wp2_with fail
          refine (same_c K y y0 y1 (y, z) hp1.out hst2.out).mono ?_
          rintro e w5 ⟨rfl, hb5⟩
          have hst3 := Lib.hid (hst2.out.keep K hb5)
          have B5 := B2.bel hb5
          clear hst2 B2 x1 x2 hb5
          have x1 := B5.2.1
          have x2 := B5.2.2
          go_wp2_with fail
          refine (same_c K (4 + (r : Int)) (by omega) (by omega) (z, y) hp2.out hst3.out).mono ?_
          rintro e w6 ⟨rfl, hb6⟩
          have hst4 := Lib.hid (hst3.out.keep K hb6)
          clear hst hst3 B5 x1 x2 hb6
          go_wp2
          go_roundw
          case rel => exact ⟨k + 1, by omega, by omega, by go_num, _, _, hst4⟩
          case measure => simp [intOf]; omega

        · have q4 : (x == 4) = false := by simp; omega
          clear hx3 hx4
          have hstA := Lib.hid (hst.out.keep K ((Below.refl _ _).alloc (Nat.le_refl _) (.cells #[.int .i64 x, .int .i64 y, .int .i64 z] 24)).drew)
          have B0 : Box3 (wr.alloc (.cells #[.int .i64 x, .int .i64 y, .int .i64 z] 24)).drew wr.heap.size x y z := ⟨by simp, by simp, by simp⟩
          have FB : ¬ F wr.heap.size := fun h => by have := K.lt hst.out.ta _ h; omega
          have FB2 : ¬ (wr.heap.size = b) := by have := hst.out.ref.lt; omega
          have hraA := hstA.out.ta
          go_wp2
          go_region_held3 (fun w' => w'.cell? ⟨wr.heap.size, 0, none⟩ = some (.int .i64 x) ∧ w'.cell? ⟨wr.heap.size, 1, none⟩ = some (.int .i64 y) ∧ w'.cell? ⟨wr.heap.size, 2, none⟩ = some (.int .i64 z)) (first | assumption | exact B0 | exact Box3.ch B0 hch FB | exact Box3.ch (Box3.ch B0 hch FB) hgr FB2) (first
            | (go_at_call 9; ((with_reducible refine (KT.out _ _ _ hraA).mono ?_); rintro e wB ⟨F2, rfl, hrB, hch, hnw⟩))
            | (go_at_call 19; ((with_reducible refine (RT.out _ _ (hstA.out.ref1 hch)).mono ?_); rintro e wC ⟨rfl, hrC, hgr⟩)))
          have hst2 := Lib.hid (hstA.out.step K hrB hch hnw hrC hgr)
          have B2 := (B0.ch hch FB).ch hgr FB2
          clear hstA hrB hch hnw hrC hgr B0 FB FB2 hraA
          have x1 := B2.2.1
          have x2 := B2.2.2
          go_wp2_with fail
          refine (same_c K y y0 y1 (y, z) hp1.out hst2.out).mono ?_
          rintro e w5 ⟨rfl, hb5⟩
          have hst3 := Lib.hid (hst2.out.keep K hb5)
          have B5 := B2.bel hb5
          clear hst2 B2 x1 x2 hb5
          have x1 := B5.2.1
          have x2 := B5.2.2
          go_wp2_with fail
          refine (same_c K (4 + (r : Int)) (by omega) (by omega) (z, y) hp2.out hst3.out).mono ?_
          rintro e w6 ⟨rfl, hb6⟩
          have hst4 := Lib.hid (hst3.out.keep K hb6)
          clear hst hst3 B5 x1 x2 hb6
          go_wp2
          go_roundw
          case rel => exact ⟨k + 1, by omega, by omega, by go_num, _, _, hst4⟩
          case measure => simp [intOf]; omega

    · have d : ¬ (k < len) ∨ (k < len ∧ ¬ (k < 100)) := by omega
      rcases d with q1 | ⟨q1, q2⟩
      · have d1 : decide ((k : Int) < (len : Int)) = false := by simp; omega
        go_wp2
        go_ret
        exact ⟨rfl, hst.out.bel⟩
      · have d1 : decide ((k : Int) < (len : Int)) = true := by simp; omega
        have d2 : decide ((k : Int) < 100) = false := by simp; omega
        go_wp2
        go_ret
        exact ⟨rfl, hst.out.bel⟩
end Wd
end Go.Proofs.Ytekjengdiakaaaa
