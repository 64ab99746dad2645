/- Texts joined: EFields, EPls0, EPlays, EShell, MLaw, RMath, NBase, NOps, NRun, NOut, NIn. -/
import Derived.Test.YtdaojohdmidemaaJ1
import Derived.Test.YtdaojohdmidemaaJ2
import Derived.Laws.Bits128
import Derived.Deep.AppendLies
import Derived.Deep.RegionHeld3
import Derived.SizedLaws
import Derived.ProofKit
import Derived.OpenShut
import Derived.Carry
import Derived.WalkKit
import Derived.WalkSpells
import Derived.WalkLawsBesides
import Derived.Handy
import Derived.Lib.Hide
import Derived.BigQuiet
import Derived.LoopN
import Derived.Maps.AppendAt
import Derived.StillTailTactics
import Derived.BigRegion
/- What the laws ask of a memory, whoever keeps it: HeapFields. -/
namespace Go.Proofs.Ytdaojohdmidemaa
open Go.RowKit Go.Maps
set_option linter.unusedVariables false
namespace Wd
theorem msk3 (n : Int) : bits .and .i64 n 3 = n % 4 := by
  have h127 : (BitVec.ofInt 64 3).toNat = 2 ^ 2 - 1 := by decide
  have key : (BitVec.ofInt 64 n &&& BitVec.ofInt 64 3).toNat = (n % ((2 ^ 64 : Nat) : Int)).toNat % 2 ^ 2 := by
    rw [BitVec.toNat_and, BitVec.toNat_ofInt, h127, Nat.and_two_pow_sub_one_eq_mod]
  show IntKind.i64.wrap ((BitVec.ofInt 64 n &&& BitVec.ofInt 64 3).toNat : Nat) = n % 4
  rw [key, IntKind.wrap_i64]
  omega
theorem msk7 (n : Int) : bits .and .i64 n 7 = n % 8 := by
  have h127 : (BitVec.ofInt 64 7).toNat = 2 ^ 3 - 1 := by decide
  have key : (BitVec.ofInt 64 n &&& BitVec.ofInt 64 7).toNat = (n % ((2 ^ 64 : Nat) : Int)).toNat % 2 ^ 3 := by
    rw [BitVec.toNat_and, BitVec.toNat_ofInt, h127, Nat.and_two_pow_sub_one_eq_mod]
  show IntKind.i64.wrap ((BitVec.ofInt 64 n &&& BitVec.ofInt 64 7).toNat : Nat) = n % 8
  rw [key, IntKind.wrap_i64]
  omega
theorem msk15 (n : Int) : bits .and .i64 n 15 = n % 16 := by
  have h127 : (BitVec.ofInt 64 15).toNat = 2 ^ 4 - 1 := by decide
  have key : (BitVec.ofInt 64 n &&& BitVec.ofInt 64 15).toNat = (n % ((2 ^ 64 : Nat) : Int)).toNat % 2 ^ 4 := by
    rw [BitVec.toNat_and, BitVec.toNat_ofInt, h127, Nat.and_two_pow_sub_one_eq_mod]
  show IntKind.i64.wrap ((BitVec.ofInt 64 n &&& BitVec.ofInt 64 15).toNat : Nat) = n % 16
  rw [key, IntKind.wrap_i64]
  omega
theorem msk63 (n : Int) : bits .and .i64 n 63 = n % 64 := by
  have h127 : (BitVec.ofInt 64 63).toNat = 2 ^ 6 - 1 := by decide
  have key : (BitVec.ofInt 64 n &&& BitVec.ofInt 64 63).toNat = (n % ((2 ^ 64 : Nat) : Int)).toNat % 2 ^ 6 := by
    rw [BitVec.toNat_and, BitVec.toNat_ofInt, h127, Nat.and_two_pow_sub_one_eq_mod]
  show IntKind.i64.wrap ((BitVec.ofInt 64 n &&& BitVec.ofInt 64 63).toNat : Nat) = n % 64
  rw [key, IntKind.wrap_i64]
  omega
theorem msk127 (n : Int) : bits .and .i64 n 127 = n % 128 := by
  have h127 : (BitVec.ofInt 64 127).toNat = 2 ^ 7 - 1 := by decide
  have key : (BitVec.ofInt 64 n &&& BitVec.ofInt 64 127).toNat = (n % ((2 ^ 64 : Nat) : Int)).toNat % 2 ^ 7 := by
    rw [BitVec.toNat_and, BitVec.toNat_ofInt, h127, Nat.and_two_pow_sub_one_eq_mod]
  show IntKind.i64.wrap ((BitVec.ofInt 64 n &&& BitVec.ofInt 64 127).toNat : Nat) = n % 128
  rw [key, IntKind.wrap_i64]
  omega
theorem msk1023 (n : Int) : bits .and .i64 n 1023 = n % 1024 := by
  have h127 : (BitVec.ofInt 64 1023).toNat = 2 ^ 10 - 1 := by decide
  have key : (BitVec.ofInt 64 n &&& BitVec.ofInt 64 1023).toNat = (n % ((2 ^ 64 : Nat) : Int)).toNat % 2 ^ 10 := by
    rw [BitVec.toNat_and, BitVec.toNat_ofInt, h127, Nat.and_two_pow_sub_one_eq_mod]
  show IntKind.i64.wrap ((BitVec.ofInt 64 n &&& BitVec.ofInt 64 1023).toNat : Nat) = n % 1024
  rw [key, IntKind.wrap_i64]
  omega
/-- one object in the package's memory, of the call's own; what it should hold, in the box at bw -/
structure FI (HA : HAt) (w0 wr : World) (p bw : Nat) (H : Hst) (F : Nat → Prop) (L1 L2 : List Int) : Prop where
  ph : PH HA w0 wr p nI H F
  q : Q4 nI H (1, 0) L1
  bc : ∀ k, k < 4 → wr.cell? ⟨bw, k, none⟩ = some (.int .u32 (L2.getD k 0))
  bz : ∀ k, wr.frozen? ⟨bw, k, none⟩ = false
  nb : ¬ F bw
  nw : w0.heap.size ≤ bw
  l1 : L1.length = 4
  l2 : L2.length = 4
section
variable {HA : HAt} {w0 wr w1 : World} {p bw : Nat} {H H' : Hst} {F F' : Nat → Prop} {L1 L2 L3 : List Int}
theorem FI.blt (h : FI HA w0 wr p bw H F L1 L2) : bw < wr.heap.size := World.block_lt_of_cell? wr _ (h.bc 0 (by omega))
theorem FI.keep (K : HeapK HA) (h : FI HA w0 wr p bw H F L1 L2) (g : Below wr.heap.size wr w1) : FI HA w0 w1 p bw H F L1 L2 :=
  ⟨h.ph.keep K g, h.q, fun k hk => (g.cell (by exact h.blt)).trans (h.bc k hk), fun k => (g.frozen (by exact h.blt)).trans (h.bz k), h.nb, h.nw, h.l1, h.l2⟩
theorem FI.step (h : FI HA w0 wr p bw H F L1 L2) (l : Left HA wr w1 p nI H' F F') (q : Q4 nI H' (1, 0) L3) (hl : L3.length = 4) : FI HA w0 w1 p bw H' F' L3 L2 := by
  have hb := h.blt
  have e := l.2.1.block bw hb h.nb
  refine ⟨h.ph.step l, q, fun k hk => (World.cell?_of_block (a := ⟨bw, k, none⟩) e).trans (h.bc k hk), fun k => (World.frozen?_of_block (a := ⟨bw, k, none⟩) e).trans (h.bz k), fun hF => ?_, h.nw, hl, h.l2⟩
  rcases l.2.2 bw hF with h1 | h1
  · exact h.nb h1
  · omega
theorem FI.store (K : HeapK HA) (h : FI HA w0 wr p bw H F L1 L2) {k : Nat} (hk : k < 4) (v : Int) : FI HA w0 (wr.setCell ⟨bw, k, none⟩ (.int .u32 v)) p bw H F L1 (L2.set k v) := by
  have hb := h.blt
  refine ⟨⟨K.keep h.ph.ha (by rw [World.size_setCell]; exact Nat.le_refl _) (fun g hg => Below.heap_setCell _ _ _ _ (fun e => h.nb (by rw [← show g = bw from e]; exact hg))), below_set h.ph.bel h.nw _, h.ph.fF⟩, h.q, fun j hj => ?_, fun j => by rw [World.frozen?_setCell]; exact h.bz j, h.nb, h.nw, h.l1, by simp [h.l2]⟩
  by_cases e : j = k
  · subst e
    rw [World.cell?_setCell_same _ _ _ (h.bc j hj)]
    simp [List.getD, h.l2, hj]
  · rw [World.cell?_setCell_other _ _ _ _ (by intro e2; cases e2; exact e rfl), h.bc j hj]
    simp [List.getD, show k ≠ j from fun e2 => e e2.symm]
end
set_option maxHeartbeats 32000000 in
set_option maxRecDepth 20000 in
theorem fields_any {HA : HAt} (K : HeapK HA) (ad : Option Addr) (len cap : Nat) (w : World) (HN : Asks w ad len) (hlen : len ≤ 100000000000000) :
    Calls Try.prog 3 #[.slice ad len cap] w fun e w' => e = .returned (.bool true) ∧ Below w.heap.size w w' := by
  have KN := Lib.hid (fun (wX : World) => K.new (w := wX) nI 1 (fun s hs => nI_inv.few s hs) (by decide) (by decide) (by omega) (by omega))
  have eN : cfgV nI 1 = .agg #[.int .i64 20, .int .i64 20, .int .i64 10, .int .i64 4, .int .i64 2, .int .i64 1] := rfl
  rw [eN] at KN
  clear eN
  obtain ⟨A1, T0⟩ := q4_start
  replace A1 := Lib.hid A1
  replace T0 := Lib.hid T0
  replace HN := Lib.hid HN
  go_enter Try.func3, Try.ntmps3
  go_wp2_with fail
  refine (KN.out _).mono ?_
  rintro e w1 ⟨p, F, rfl, hm, hF, hb⟩
  have hs : Hid (PH HA w w1 p nI (newH nI) F) := Lib.hid ⟨hm, hb, hF⟩
  clear hm hF hb KN
  go_wp2_with fail
  have P0 := K.alloc 5 4 hs.out.ha (by unfold i64; omega) (by unfold i64; omega)
  rw [A1.out] at P0
  refine P0.mono ?_
  clear P0
  rintro e w2 ⟨F2, rfl, hL⟩
  replace hs := Lib.hid (hs.out.step hL)
  clear hL A1
  go_wp2
  have hbox : Hid (∀ j, j < 4 → (w2.alloc (.cells #[.int .u32 0, .int .u32 0, .int .u32 0, .int .u32 0] 29)).cell? ⟨w2.heap.size, j, none⟩ = some (.int .u32 0)) := Lib.hid (fun j hj => by
    rcases (show j = 0 ∨ j = 1 ∨ j = 2 ∨ j = 3 by omega) with rfl | rfl | rfl | rfl <;> simp)
  have hlt := K.lt hs.out.ha
  have hnb : ¬ F2 w2.heap.size := fun h => Nat.lt_irrefl _ (hlt _ h)
  have hz0 : ∀ j, (w2.alloc (.cells #[.int .u32 0, .int .u32 0, .int .u32 0, .int .u32 0] 30)).frozen? ⟨w2.heap.size, j, none⟩ = false := fun j => by simp
  have st0 : Hid (FI HA w (w2.alloc (.cells #[.int .u32 0, .int .u32 0, .int .u32 0, .int .u32 0] 30)) p w2.heap.size (alcH (newH nI) 5 4) F2 [2, 2, 2, 2] [0, 0, 0, 0]) :=
    Lib.hid ⟨hs.out.keep K ((Below.refl _ _).alloc (Nat.le_refl _) _), T0.out, fun j hj => by rcases (show j = 0 ∨ j = 1 ∨ j = 2 ∨ j = 3 by omega) with rfl | rfl | rfl | rfl <;> simp, hz0, hnb, hs.out.bel.size, rfl, rfl⟩
  obtain ⟨bw, hbw⟩ : ∃ bw, w2.heap.size = bw := ⟨_, rfl⟩
  rw [hbw] at st0 ⊢
  generalize w2.alloc (.cells #[.int .u32 0, .int .u32 0, .int .u32 0, .int .u32 0] 30) = wA at *
  clear hbw hlt hnb hz0 hs hbox T0
  go_loopw [23] (fun i wr => ∃ k : Nat, k ≤ 4 ∧ i = .int .i64 k ∧ ∃ L2, Hid (FI HA w wr p bw (alcH (newH nI) 5 4) F2 [2, 2, 2, 2] L2 ∧ ∀ j, j < k → L2.getD j 0 = 2)) (fun i _ => 4 - (intOf i).toNat)
  case atStart => exact ⟨0, by omega, rfl, _, Lib.hid ⟨st0.out, fun j hj => by omega⟩⟩
  case round =>
    obtain ⟨k, hk, rfl, L2, hq⟩ := hrel
    clear st0
    by_cases hlt : k < 4
    · have hlt' : decide ((k : Int) < 4) = true := by simp; omega
      have hlt2 : (k : Int) < 4 := by omega
      have hw : IntKind.i64.wrap ((k : Int) + 1) = (k : Int) + 1 := by rw [IntKind.wrap_i64]; omega
      have hc := hq.out.1.bc k hlt
      have hz := hq.out.1.bz k
      have hN : Hid (FI HA w (wr.setCell ⟨bw, k, none⟩ (.int .u32 2)) p bw (alcH (newH nI) 5 4) F2 [2, 2, 2, 2] (L2.set k 2) ∧ ∀ j, j < k + 1 → (L2.set k 2).getD j 0 = 2) := Lib.hid ⟨hq.out.1.store K hlt 2, fun j hj => by
        by_cases e : j = k
        · subst e; simp [List.getD, hq.out.1.l2, hlt]
        · have := hq.out.2 j (by omega)
          simp only [List.getD] at this ⊢
          rw [List.getElem?_set_ne (fun e2 => e e2.symm)]
          exact this⟩
      clear hq
      go_wp2
      go_roundw
      case rel => exact ⟨k + 1, by omega, by go_num, _, hN⟩
      case measure => simp [intOf]; omega
    · have e4 : k = 4 := by omega
      have hd4 : decide ((k : Int) < 4) = false := by simp; omega
      have st1 : Hid (FI HA w wr p bw (alcH (newH nI) 5 4) F2 [2, 2, 2, 2] [2, 2, 2, 2]) := Lib.hid (by
        have e : L2 = [2, 2, 2, 2] := by
          have hl := hq.out.1.l2
          have h2 := hq.out.2
          rw [e4] at h2
          match L2, hl with
          | [a, b, c, d], _ =>
            have h0 := h2 0 (by omega); have h1 := h2 1 (by omega); have h2' := h2 2 (by omega); have h3 := h2 3 (by omega)
            simp at h0 h1 h2' h3
            rw [h0, h1, h2', h3]
        rw [← e]
        have := hq.out.1
        rw [e] at this ⊢
        exact this)
      clear hq
      replace e4 := Lib.hid e4
      go_wp2
      go_loopw [7] (fun i' wr => ∃ i : Nat, i ≤ len ∧ i ≤ 60 ∧ i' = .int .i64 i ∧ ∃ H F L, Hid (FI HA w wr p bw H F L L)) (fun i' _ => 60 - (intOf i').toNat)
      case atStart => exact ⟨0, by omega, by omega, rfl, _, _, _, st1⟩
      case round =>
        obtain ⟨i, hi, hi2, rfl, H, F5, L, hq⟩ := hrel
        clear st1
        by_cases hlt : i < len ∧ i < 60
        · obtain ⟨g, off, x, y, z, v, rfl, hx, hy, hz, hv, cx, cy, cz, cv⟩ := HN.out wr hq.out.ph.bel i hlt.1
          have d1 : decide ((i : Int) < (len : Int)) = true := by simp; omega
          have d2 : decide ((i : Int) < 60) = true := by simp; omega
          have hw : IntKind.i64.wrap ((i : Int) + 1) = (i : Int) + 1 := by rw [IntKind.wrap_i64]; omega
          have hil : (i : Int) < (len : Int) := by omega
          obtain ⟨kd, hkd, kd0, kd1⟩ : ∃ kd, bits .and .i64 x 3 = kd ∧ 0 ≤ kd ∧ kd < 4 := ⟨_, rfl, by rw [msk3]; omega, by rw [msk3]; omega⟩
          by_cases k0 : kd = 0
          · subst k0
            obtain ⟨jj, hjj, j0, j1⟩ : ∃ jj, bits .and .i64 z 3 = jj ∧ 0 ≤ jj ∧ jj < 4 := ⟨_, rfl, by rw [msk3]; omega, by rw [msk3]; omega⟩
            obtain ⟨jn, rfl⟩ : ∃ jn : Nat, jj = jn := ⟨jj.toNat, by omega⟩
            have jn4 : jn < 4 := by omega
            have cb : 0 ≤ IntKind.u32.wrap v ∧ IntKind.u32.wrap v ≤ 4294967295 := by rw [IntKind.wrap_u32']; omega
            obtain ⟨ov1, ov2, ov3⟩ := wor_odd cb.1 cb.2
            generalize hvv : IntKind.u32.wrap v = vv at *
            generalize hov : bits .or .u32 vv 1 = ov at *
            obtain ⟨B1, Q1⟩ := hq.out.q.put (j := jn) (x := ov) (by rw [hq.out.l1]; exact jn4) ov1 ov2 ov3
            have P0 := K.put 4 (jn : Int) ov hq.out.ph.ha (by unfold i64; omega) (by unfold i64; omega) (by omega) (by omega)
            rw [B1] at P0
            have l3 : (L.set jn ov).length = 4 := by simp [hq.out.l1]
            have hq2 : Hid (FI HA w wr.drew p bw H F5 L L) := Lib.hid (hq.out.keep K (Below.refl _ _).drew)
            have P1 := K.put 4 (jn : Int) ov hq2.out.ph.ha (by unfold i64; omega) (by unfold i64; omega) (by omega) (by omega)
            rw [B1] at P1
            replace P1 := Lib.hid P1
            replace Q1 := Lib.hid Q1
            clear P0 B1 cb
            go_wp2
            go_region
            go_wp2_with fail
            with_reducible refine P1.out.mono ?_
            rintro e y1 ⟨J1, rfl, hL⟩
            have s1 := Lib.hid (hq2.out.step hL Q1.out l3)
            have hc1 := s1.out.bc jn jn4
            have hz1 := s1.out.bz jn
            have sQ := Lib.hid (s1.out.store K jn4 ov)
            clear hL P1 Q1 hq hq2 s1
            go_wp2_with fail
            clear hc1 hz1
            obtain ⟨H9, F9, L9, sq⟩ : ∃ H9 F9 L9, Hid (FI HA w _ p bw H9 F9 L9 L9) := ⟨_, _, _, sQ⟩
            clear sQ
            go_wp2
            go_loopw [128] (fun k' wr => ∃ k : Nat, k ≤ 4 ∧ k' = .int .i64 k ∧ ∃ F', Hid (FI HA w wr p bw H9 F' L9 L9)) (fun k' _ => 4 - (intOf k').toNat)
            case atStart => exact ⟨0, by omega, rfl, _, sq⟩
            case round =>
              obtain ⟨k, hk, rfl, F6, s6⟩ := hrel
              clear sq
              by_cases hk4 : k < 4
              · have hkd4 : decide ((k : Int) < 4) = true := by simp; omega
                have hk4' : (k : Int) < 4 := by omega
                have hwk : IntKind.i64.wrap ((k : Int) + 1) = (k : Int) + 1 := by rw [IntKind.wrap_i64]; omega
                have P0 := K.get 4 (k : Int) s6.out.ph.ha (by unfold i64; omega) (by unfold i64; omega)
                obtain ⟨v1, v2⟩ := s6.out.q.val (j := k) (by rw [s6.out.l1]; exact hk4)
                rw [v1, v2] at P0
                replace P0 := Lib.hid P0
                clear v1 v2
                generalize hlv : L9.getD k 0 = lv at *
                replace hlv := Lib.hid hlv
                have ne : (lv != lv) = false := by simp
                go_wp2_with fail
                with_reducible refine P0.out.mono ?_
                rintro e y19 ⟨J19, rfl, hL⟩
                have s7 := Lib.hid (s6.out.step hL s6.out.q s6.out.l1)
                have hc := s7.out.bc k hk4
                rw [hlv.out] at hc
                clear hL P0 s6
                go_wp2
                go_roundw
                case rel => exact ⟨k + 1, by omega, by go_num, _, s7⟩
                case measure => simp [intOf]; omega
              · have e : k = 4 := by omega
                subst e
                go_wp2
                go_roundw
                case rel => exact ⟨i + 1, by omega, by omega, by go_num, _, _, _, s6⟩
                case measure => simp [intOf]; omega
          · have q0 : (kd == 0) = false := by simpa using k0
            by_cases k1 : kd = 1
            · subst k1
              obtain ⟨f7, hf7, f0, f1⟩ : ∃ f7, bits .and .i64 z 7 = f7 ∧ 0 ≤ f7 ∧ f7 < 8 := ⟨_, rfl, by rw [msk7]; omega, by rw [msk7]; omega⟩
              obtain ⟨Q1, hid⟩ := hq.out.q.alloc 6 f7
              have P1 := Lib.hid (K.alloc 6 f7 hq.out.ph.ha (by unfold i64; omega) (by unfold i64; omega))
              replace Q1 := Lib.hid Q1
              rcases hid with hid | ⟨k, hid, k4, k10, kn4, Q, hQ⟩
              · rw [hid] at P1
                clear hid
                go_wp2_with fail
                with_reducible refine P1.out.mono ?_
                rintro e y1 ⟨J1, rfl, hL⟩
                have sQ := Lib.hid (hq.out.step hL Q1.out hq.out.l1)
                clear hL P1 Q1 hq
                obtain ⟨H9, F9, L9, sq⟩ : ∃ H9 F9 L9, Hid (FI HA w _ p bw H9 F9 L9 L9) := ⟨_, _, _, sQ⟩
                clear sQ
                go_wp2
                go_loopw [128] (fun k' wr => ∃ k : Nat, k ≤ 4 ∧ k' = .int .i64 k ∧ ∃ F', Hid (FI HA w wr p bw H9 F' L9 L9)) (fun k' _ => 4 - (intOf k').toNat)
                case atStart => exact ⟨0, by omega, rfl, _, sq⟩
                case round =>
                  obtain ⟨k, hk, rfl, F6, s6⟩ := hrel
                  clear sq
                  by_cases hk4 : k < 4
                  · have hkd4 : decide ((k : Int) < 4) = true := by simp; omega
                    have hk4' : (k : Int) < 4 := by omega
                    have hwk : IntKind.i64.wrap ((k : Int) + 1) = (k : Int) + 1 := by rw [IntKind.wrap_i64]; omega
                    have P0 := K.get 4 (k : Int) s6.out.ph.ha (by unfold i64; omega) (by unfold i64; omega)
                    obtain ⟨v1, v2⟩ := s6.out.q.val (j := k) (by rw [s6.out.l1]; exact hk4)
                    rw [v1, v2] at P0
                    replace P0 := Lib.hid P0
                    clear v1 v2
                    generalize hlv : L9.getD k 0 = lv at *
                    replace hlv := Lib.hid hlv
                    have ne : (lv != lv) = false := by simp
                    go_wp2_with fail
                    with_reducible refine P0.out.mono ?_
                    rintro e y19 ⟨J19, rfl, hL⟩
                    have s7 := Lib.hid (s6.out.step hL s6.out.q s6.out.l1)
                    have hc := s7.out.bc k hk4
                    rw [hlv.out] at hc
                    clear hL P0 s6
                    go_wp2
                    go_roundw
                    case rel => exact ⟨k + 1, by omega, by go_num, _, s7⟩
                    case measure => simp [intOf]; omega
                  · have e : k = 4 := by omega
                    subst e
                    go_wp2
                    go_roundw
                    case rel => exact ⟨i + 1, by omega, by omega, by go_num, _, _, _, s6⟩
                    case measure => simp [intOf]; omega
              · rw [hid] at P1
                clear hid
                obtain ⟨b1, b2, Q2⟩ := Q1.out.swaps k10 kn4 hQ
                replace b1 := Lib.hid b1
                replace b2 := Lib.hid b2
                replace Q2 := Lib.hid Q2
                have e1 : ((k : Int) == 4) = false := by simp; omega
                have e2 : decide ((k : Int) > 0) = true := by simp; omega
                have e3 : decide (0 < (k : Int)) = true := by simp; omega
                clear hQ
                go_wp2_with fail
                with_reducible refine P1.out.mono ?_
                rintro e y1 ⟨J1, rfl, hL⟩
                have hph := Lib.hid (hq.out.step hL Q1.out hq.out.l1)
                clear hL P1
                have P2 := K.swap 4 (k : Int) hph.out.ph.ha (by unfold i64; omega) (by unfold i64; omega)
                rw [b1.out] at P2
                replace P2 := Lib.hid P2
                go_wp2_with fail
                with_reducible refine P2.out.mono ?_
                rintro e y2 ⟨J2, rfl, hL2⟩
                have P3 := K.swap (k : Int) 4 hL2.1 (by unfold i64; omega) (by unfold i64; omega)
                rw [b2.out] at P3
                replace P3 := Lib.hid P3
                replace hL2 := Lib.hid hL2
                go_wp2_with fail
                with_reducible refine P3.out.mono ?_
                rintro e y3 ⟨J3, rfl, hL3⟩
                have hL4 : Left HA y1 y3 p nI (swapH (swapH (alcH H 6 f7) 4 (k : Int)) (k : Int) 4) J1 J3 := ⟨hL3.1, hL2.out.2.1.then_ hL3.2.1 hL2.out.2.2, Newer.trans hL2.out.2.2 hL3.2.2 hL2.out.2.1.size⟩
                have sQ := Lib.hid (hph.out.step hL4 Q2.out hph.out.l1)
                clear hL2 hL3 hL4 P2 P3 hph Q1 Q2 b1 b2 hq
                obtain ⟨H9, F9, L9, sq⟩ : ∃ H9 F9 L9, Hid (FI HA w _ p bw H9 F9 L9 L9) := ⟨_, _, _, sQ⟩
                clear sQ
                go_wp2
                go_loopw [128] (fun k' wr => ∃ k : Nat, k ≤ 4 ∧ k' = .int .i64 k ∧ ∃ F', Hid (FI HA w wr p bw H9 F' L9 L9)) (fun k' _ => 4 - (intOf k').toNat)
                case atStart => exact ⟨0, by omega, rfl, _, sq⟩
                case round =>
                  obtain ⟨k, hk, rfl, F6, s6⟩ := hrel
                  clear sq
                  by_cases hk4 : k < 4
                  · have hkd4 : decide ((k : Int) < 4) = true := by simp; omega
                    have hk4' : (k : Int) < 4 := by omega
                    have hwk : IntKind.i64.wrap ((k : Int) + 1) = (k : Int) + 1 := by rw [IntKind.wrap_i64]; omega
                    have P0 := K.get 4 (k : Int) s6.out.ph.ha (by unfold i64; omega) (by unfold i64; omega)
                    obtain ⟨v1, v2⟩ := s6.out.q.val (j := k) (by rw [s6.out.l1]; exact hk4)
                    rw [v1, v2] at P0
                    replace P0 := Lib.hid P0
                    clear v1 v2
                    generalize hlv : L9.getD k 0 = lv at *
                    replace hlv := Lib.hid hlv
                    have ne : (lv != lv) = false := by simp
                    go_wp2_with fail
                    with_reducible refine P0.out.mono ?_
                    rintro e y19 ⟨J19, rfl, hL⟩
                    have s7 := Lib.hid (s6.out.step hL s6.out.q s6.out.l1)
                    have hc := s7.out.bc k hk4
                    rw [hlv.out] at hc
                    clear hL P0 s6
                    go_wp2
                    go_roundw
                    case rel => exact ⟨k + 1, by omega, by go_num, _, s7⟩
                    case measure => simp [intOf]; omega
                  · have e : k = 4 := by omega
                    subst e
                    go_wp2
                    go_roundw
                    case rel => exact ⟨i + 1, by omega, by omega, by go_num, _, _, _, s6⟩
                    case measure => simp [intOf]; omega
            · have q1 : (kd == 1) = false := by simpa using k1
              clear k0 k1
              have hrow : ∀ wX : World, SW (wX.alloc (.cells #[.int .u32 8] 29)) (.slice (some ⟨wX.heap.size, 0, none⟩) 1 1) [8] := fun wX => sw_made wX [8] _ rfl (by simp [maxLen])
              clear cy cz cv hx hy hz hv
              have hlt1 := K.lt hq.out.ph.ha
              go_wp2_with fail
              have sH1 := Lib.hid (hq.out.keep K ((Below.refl _ _).alloc (Nat.le_refl _) (.cells #[.int .u32 8] 29)))
              have P1 := K.hold sH1.out.ph.ha (hrow _) (by simp) (by simp) (fun g hg hF => by simp [Value.ownBlock] at hg; subst hg; exact Nat.lt_irrefl _ (hlt1 _ hF))
              refine P1.mono ?_
              clear P1
              rintro e y1 ⟨J1, rfl, hL⟩
              have s1 := Lib.hid (sH1.out.step hL (sH1.out.q.hold [8]) sH1.out.l1)
              clear hL hlt1 sH1 hq
              obtain ⟨g2, off2, x2, y2', z2, v2, eA, _, _, _, hv2, _, _, _, cv2⟩ := HN.out _ s1.out.ph.bel i hlt.1
              cases eA
              obtain ⟨n6, hn6, n60, n61⟩ : ∃ n6, bits .and .i64 v2 63 = n6 ∧ 0 ≤ n6 ∧ n6 < 64 := ⟨_, rfl, by rw [msk63]; omega, by rw [msk63]; omega⟩
              go_wp2_with fail
              have P5 := K.scan n6 s1.out.ph.ha (by unfold i64; omega)
              with_reducible refine P5.mono ?_
              clear P5
              rintro e y5 ⟨J5, rfl, hL⟩
              obtain ⟨H2, G2, s2⟩ : ∃ H2 G2, Hid (FI HA w y5 p bw H2 G2 L L) := ⟨_, _, Lib.hid (s1.out.step hL (s1.out.q.scan n6) s1.out.l1)⟩
              clear hL s1 cv2
              have hcol : Hid (colI (holdH H2 [8]) 4 ≠ 3) := Lib.hid s2.out.q.held
              have hlt3 := K.lt s2.out.ph.ha
              go_wp2_with fail
              have sH3 := Lib.hid (s2.out.keep K ((Below.refl _ _).alloc (Nat.le_refl _) (.cells #[.int .u32 8] 29)))
              have P3 := K.hold sH3.out.ph.ha (hrow _) (by simp) (by simp) (fun g hg hF => by simp [Value.ownBlock] at hg; subst hg; exact Nat.lt_irrefl _ (hlt3 _ hF))
              refine P3.mono ?_
              clear P3
              rintro e y3 ⟨J3, rfl, hL⟩
              have s3x := Lib.hid (sH3.out.step hL (sH3.out.q.hold [8]) sH3.out.l1)
              clear hL hlt3 sH3 s2
              obtain ⟨H3, G3, s3, hc3⟩ : ∃ H3 G3, Hid (FI HA w y3 p bw H3 G3 L L) ∧ Hid (colI H3 4 ≠ 3) := ⟨_, _, s3x, hcol⟩
              clear s3x hcol
              have P6 := Lib.hid (K.done s3.out.ph.ha)
              cases hd : doneB H3 with
              | false =>
                rw [hd] at P6
                go_wp2_with fail
                with_reducible refine P6.out.mono ?_
                rintro e y6 ⟨J6, rfl, hL⟩
                have sQ := Lib.hid (s3.out.step hL s3.out.q s3.out.l1)
                clear hL P6 s3 hc3
                obtain ⟨H9, F9, L9, sq⟩ : ∃ H9 F9 L9, Hid (FI HA w _ p bw H9 F9 L9 L9) := ⟨_, _, _, sQ⟩
                clear sQ
                go_wp2
                go_loopw [128] (fun k' wr => ∃ k : Nat, k ≤ 4 ∧ k' = .int .i64 k ∧ ∃ F', Hid (FI HA w wr p bw H9 F' L9 L9)) (fun k' _ => 4 - (intOf k').toNat)
                case atStart => exact ⟨0, by omega, rfl, _, sq⟩
                case round =>
                  obtain ⟨k, hk, rfl, F6, s6⟩ := hrel
                  clear sq
                  by_cases hk4 : k < 4
                  · have hkd4 : decide ((k : Int) < 4) = true := by simp; omega
                    have hk4' : (k : Int) < 4 := by omega
                    have hwk : IntKind.i64.wrap ((k : Int) + 1) = (k : Int) + 1 := by rw [IntKind.wrap_i64]; omega
                    have P0 := K.get 4 (k : Int) s6.out.ph.ha (by unfold i64; omega) (by unfold i64; omega)
                    obtain ⟨v1, v2⟩ := s6.out.q.val (j := k) (by rw [s6.out.l1]; exact hk4)
                    rw [v1, v2] at P0
                    replace P0 := Lib.hid P0
                    clear v1 v2
                    generalize hlv : L9.getD k 0 = lv at *
                    replace hlv := Lib.hid hlv
                    have ne : (lv != lv) = false := by simp
                    go_wp2_with fail
                    with_reducible refine P0.out.mono ?_
                    rintro e y19 ⟨J19, rfl, hL⟩
                    have s7 := Lib.hid (s6.out.step hL s6.out.q s6.out.l1)
                    have hc := s7.out.bc k hk4
                    rw [hlv.out] at hc
                    clear hL P0 s6
                    go_wp2
                    go_roundw
                    case rel => exact ⟨k + 1, by omega, by go_num, _, s7⟩
                    case measure => simp [intOf]; omega
                  · have e : k = 4 := by omega
                    subst e
                    go_wp2
                    go_roundw
                    case rel => exact ⟨i + 1, by omega, by omega, by go_num, _, _, _, s6⟩
                    case measure => simp [intOf]; omega
              | true =>
                rw [hd] at P6
                go_wp2_with fail
                with_reducible refine P6.out.mono ?_
                rintro e y6 ⟨J6, rfl, hL⟩
                have s4 := Lib.hid (s3.out.step hL s3.out.q s3.out.l1)
                have Q4f := Lib.hid (s3.out.q.flip hd hc3.out)
                clear hL P6 s3 hc3
                go_wp2_with fail
                have P7 := K.flip s4.out.ph.ha
                with_reducible refine P7.mono ?_
                clear P7
                rintro e y7 ⟨J7, rfl, hL⟩
                have s5 := Lib.hid (s4.out.step hL Q4f.out s4.out.l1)
                clear hL s4 Q4f hd
                have hlt8 := K.lt s5.out.ph.ha
                go_wp2_with fail
                have sH8 := Lib.hid (s5.out.keep K ((Below.refl _ _).alloc (Nat.le_refl _) (.cells #[.int .u32 8] 29)))
                have P8 := K.hold sH8.out.ph.ha (hrow _) (by simp) (by simp) (fun g hg hF => by simp [Value.ownBlock] at hg; subst hg; exact Nat.lt_irrefl _ (hlt8 _ hF))
                refine P8.mono ?_
                clear P8
                rintro e y8 ⟨J8, rfl, hL⟩
                have sQ := Lib.hid (sH8.out.step hL (sH8.out.q.hold [8]) sH8.out.l1)
                clear hL hlt8 sH8 s5
                obtain ⟨H9, F9, L9, sq⟩ : ∃ H9 F9 L9, Hid (FI HA w _ p bw H9 F9 L9 L9) := ⟨_, _, _, sQ⟩
                clear sQ
                go_wp2
                go_loopw [128] (fun k' wr => ∃ k : Nat, k ≤ 4 ∧ k' = .int .i64 k ∧ ∃ F', Hid (FI HA w wr p bw H9 F' L9 L9)) (fun k' _ => 4 - (intOf k').toNat)
                case atStart => exact ⟨0, by omega, rfl, _, sq⟩
                case round =>
                  obtain ⟨k, hk, rfl, F6, s6⟩ := hrel
                  clear sq
                  by_cases hk4 : k < 4
                  · have hkd4 : decide ((k : Int) < 4) = true := by simp; omega
                    have hk4' : (k : Int) < 4 := by omega
                    have hwk : IntKind.i64.wrap ((k : Int) + 1) = (k : Int) + 1 := by rw [IntKind.wrap_i64]; omega
                    have P0 := K.get 4 (k : Int) s6.out.ph.ha (by unfold i64; omega) (by unfold i64; omega)
                    obtain ⟨v1, v2⟩ := s6.out.q.val (j := k) (by rw [s6.out.l1]; exact hk4)
                    rw [v1, v2] at P0
                    replace P0 := Lib.hid P0
                    clear v1 v2
                    generalize hlv : L9.getD k 0 = lv at *
                    replace hlv := Lib.hid hlv
                    have ne : (lv != lv) = false := by simp
                    go_wp2_with fail
                    with_reducible refine P0.out.mono ?_
                    rintro e y19 ⟨J19, rfl, hL⟩
                    have s7 := Lib.hid (s6.out.step hL s6.out.q s6.out.l1)
                    have hc := s7.out.bc k hk4
                    rw [hlv.out] at hc
                    clear hL P0 s6
                    go_wp2
                    go_roundw
                    case rel => exact ⟨k + 1, by omega, by go_num, _, s7⟩
                    case measure => simp [intOf]; omega
                  · have e : k = 4 := by omega
                    subst e
                    go_wp2
                    go_roundw
                    case rel => exact ⟨i + 1, by omega, by omega, by go_num, _, _, _, s6⟩
                    case measure => simp [intOf]; omega
        · skip
          have dd : i = len ∨ i = 60 := by omega
          rcases dd with rfl | rfl
          · have d1 : decide ((i : Int) < (i : Int)) = false := by simp
            obtain ⟨c5, f5⟩ := hq.out.q.cf
            rw [hq.out.l1] at f5
            have P1 := K.cls 4 hq.out.ph.ha (by unfold i64; omega)
            rw [c5] at P1
            replace P1 := Lib.hid P1
            replace f5 := Lib.hid f5
            clear c5
            go_wp2_with fail
            with_reducible refine P1.out.mono ?_
            rintro e y1 ⟨J1, rfl, hL⟩
            have s1 := Lib.hid (hq.out.step hL hq.out.q hq.out.l1)
            have P2 := K.fld 4 s1.out.ph.ha (by unfold i64; omega)
            rw [f5.out] at P2
            replace P2 := Lib.hid P2
            clear hL P1
            go_wp2_with fail
            with_reducible refine P2.out.mono ?_
            rintro e y2 ⟨J2, rfl, hL⟩
            have s2 := Lib.hid (s1.out.step hL s1.out.q s1.out.l1)
            clear hL P2
            go_wp2_with fail
            refine (known_c K _).mono ?_
            rintro e y30 ⟨rfl, hb⟩
            go_wp2
            go_ret
            exact ⟨rfl, s2.out.ph.bel.trans (hb.mono s2.out.ph.bel.size)⟩
          · have d2 : decide (((60 : Nat) : Int) < 60) = false := by simp
            by_cases hl : 60 < len
            · have d1 : decide (((60 : Nat) : Int) < (len : Int)) = true := by simp; omega
              obtain ⟨c5, f5⟩ := hq.out.q.cf
              rw [hq.out.l1] at f5
              have P1 := K.cls 4 hq.out.ph.ha (by unfold i64; omega)
              rw [c5] at P1
              replace P1 := Lib.hid P1
              replace f5 := Lib.hid f5
              clear c5
              go_wp2_with fail
              with_reducible refine P1.out.mono ?_
              rintro e y1 ⟨J1, rfl, hL⟩
              have s1 := Lib.hid (hq.out.step hL hq.out.q hq.out.l1)
              have P2 := K.fld 4 s1.out.ph.ha (by unfold i64; omega)
              rw [f5.out] at P2
              replace P2 := Lib.hid P2
              clear hL P1
              go_wp2_with fail
              with_reducible refine P2.out.mono ?_
              rintro e y2 ⟨J2, rfl, hL⟩
              have s2 := Lib.hid (s1.out.step hL s1.out.q s1.out.l1)
              clear hL P2
              go_wp2_with fail
              refine (known_c K _).mono ?_
              rintro e y30 ⟨rfl, hb⟩
              go_wp2
              go_ret
              exact ⟨rfl, s2.out.ph.bel.trans (hb.mono s2.out.ph.bel.size)⟩
            · have d1 : decide (((60 : Nat) : Int) < (len : Int)) = false := by simp; omega
              obtain ⟨c5, f5⟩ := hq.out.q.cf
              rw [hq.out.l1] at f5
              have P1 := K.cls 4 hq.out.ph.ha (by unfold i64; omega)
              rw [c5] at P1
              replace P1 := Lib.hid P1
              replace f5 := Lib.hid f5
              clear c5
              go_wp2_with fail
              with_reducible refine P1.out.mono ?_
              rintro e y1 ⟨J1, rfl, hL⟩
              have s1 := Lib.hid (hq.out.step hL hq.out.q hq.out.l1)
              have P2 := K.fld 4 s1.out.ph.ha (by unfold i64; omega)
              rw [f5.out] at P2
              replace P2 := Lib.hid P2
              clear hL P1
              go_wp2_with fail
              with_reducible refine P2.out.mono ?_
              rintro e y2 ⟨J2, rfl, hL⟩
              have s2 := Lib.hid (s1.out.step hL s1.out.q s1.out.l1)
              clear hL P2
              go_wp2_with fail
              refine (known_c K _).mono ?_
              rintro e y30 ⟨rfl, hb⟩
              go_wp2
              go_ret
              exact ⟨rfl, s2.out.ph.bel.trans (hb.mono s2.out.ph.bel.size)⟩
end Wd
end Go.Proofs.Ytdaojohdmidemaa

/- Two rows of asks of the call's own, beside an array. -/
namespace Go.Proofs.Ytdaojohdmidemaa
open Go.RowKit Go.Maps
set_option linter.unusedVariables false
namespace Wd
abbrev Ak := Int × Int × Int × Int
def quad : List Ak → List Value
  | [] => []
  | t :: T => .int .i64 t.1 :: .int .i64 t.2.1 :: .int .i64 t.2.2.1 :: .int .i64 t.2.2.2 :: quad T
theorem quad_app : ∀ (A B : List Ak), quad (A ++ B) = quad A ++ quad B
  | [], _ => rfl
  | t :: A, B => by simp [quad, quad_app A B]
theorem quad_len : ∀ (A : List Ak), (quad A).length = A.length * 4
  | [] => rfl
  | t :: A => by simp only [quad, List.length_cons, quad_len A]; omega
theorem quad_get : ∀ (T : List Ak) (k : Nat) (t : Ak), T[k]? = some t → (quad T)[k * 4]? = some (.int .i64 t.1) ∧ (quad T)[k * 4 + 1]? = some (.int .i64 t.2.1) ∧ (quad T)[k * 4 + 2]? = some (.int .i64 t.2.2.1) ∧ (quad T)[k * 4 + 3]? = some (.int .i64 t.2.2.2)
  | [], k, t, h => by simp at h
  | s :: T, 0, t, h => by simp at h; subst h; simp [quad]
  | s :: T, k + 1, t, h => by
    have := quad_get T k t (by simpa using h)
    rw [show (k + 1) * 4 = k * 4 + 4 by omega]
    simpa [quad] using this
theorem quad_one : ∀ (T : List Ak), ∀ u ∈ quad T, u.oneCell' = true
  | [], u, h => by cases h
  | t :: T, u, h => by
    simp only [quad, List.mem_cons] at h
    rcases h with rfl | rfl | rfl | rfl | h
    · rfl
    · rfl
    · rfl
    · rfl
    · exact quad_one T u h
def akB (t : Ak) : Prop := i64 t.1 ∧ i64 t.2.1 ∧ i64 t.2.2.1 ∧ i64 t.2.2.2
theorem asks_own {w : World} {base k : Nat} {v : Value} {T : List Ak} (h : w.ownsRow base 32 4 v k (quad T)) (hk : T.length = k) (hb : ∀ t, t ∈ T → akB t) :
    ∃ ad cap, v = .slice ad k cap ∧ Asks w ad k := by
  rcases h.2 with ⟨rfl, h0⟩ | ⟨g, cap, cur, rfl, h1, h2, h3⟩
  · exact ⟨_, _, by rw [h0], fun _ _ q hq => by omega⟩
  · refine ⟨_, _, rfl, fun wr hbl q hq => ?_⟩
    obtain ⟨t, ht⟩ : ∃ t, T[q]? = some t := ⟨T[q]'(by omega), by simp⟩
    obtain ⟨c0, c1, c2, c3⟩ := quad_get T q t ht
    obtain ⟨b0, b1, b2, b3⟩ := hb t (List.mem_of_getElem? ht)
    refine ⟨g, 0, t.1, t.2.1, t.2.2.1, t.2.2.2, rfl, b0, b1, b2, b3, ?_, ?_, ?_, ?_⟩
    · rw [Nat.zero_add]; exact cell_up hbl ((h.cellAt (q * 4) (by omega)).trans c0)
    · rw [Nat.zero_add]; exact cell_up hbl ((h.cellAt (q * 4 + 1) (by omega)).trans c1)
    · rw [Nat.zero_add]; exact cell_up hbl ((h.cellAt (q * 4 + 2) (by omega)).trans c2)
    · rw [Nat.zero_add]; exact cell_up hbl ((h.cellAt (q * 4 + 3) (by omega)).trans c3)
theorem Asks.up {w0 w1 : World} {ad : Option Addr} {len : Nat} (h : Asks w0 ad len) (b : Below w0.heap.size w0 w1) : Asks w1 ad len := fun wr g k hk => h wr (b.trans (g.mono b.size)) k hk
theorem infoA9 : (Try.prog.info? 32).map (fun i => (i.zero, i.size, i.bytes)) = some (some (.agg #[.int .i64 0, .int .i64 0, .int .i64 0, .int .i64 0]), 4, 32) := by kernel_rfl
/-- two rows of asks; at s0 + 1 an array of five -/
structure TW (w wr : World) (s0 : Nat) (m : Nat → Int) (k7 : Nat) (v7 : Value) (T7 : List Ak) (k8 : Nat) (v8 : Value) (T8 : List Ak) : Prop where
  o7 : wr.ownsRow (s0 + 2) 32 4 v7 k7 (quad T7)
  o8 : wr.ownsRow (s0 + 2) 32 4 v8 k8 (quad T8)
  l7 : T7.length = k7
  l8 : T8.length = k8
  b7 : ∀ t, t ∈ T7 → akB t
  b8 : ∀ t, t ∈ T8 → akB t
  bel : Below s0 w wr
  size : s0 + 2 ≤ wr.heap.size
  cm : ∀ j, j < 5 → wr.cell? ⟨s0 + 1, j, none⟩ = some (.int .i64 (m j))
  ap : ∀ g, v7.ownBlock = some g → v8.ownBlock ≠ some g
section
variable {w wr wX w1 : World} {s0 : Nat} {m : Nat → Int} {k7 k8 : Nat} {v7 v8 : Value} {T7 T8 : List Ak}
theorem TW.keep (h : TW w wr s0 m k7 v7 T7 k8 v8 T8) (b : Below wr.heap.size wr wX) : TW w wX s0 m k7 v7 T7 k8 v8 T8 :=
  ⟨World.ownsRow.kept h.o7 ⟨b.os, b.tape, b.output, b.size, fun k hk _ => b.block k hk⟩ (row := none) (by cases v7.ownBlock <;> simp),
   World.ownsRow.kept h.o8 ⟨b.os, b.tape, b.output, b.size, fun k hk _ => b.block k hk⟩ (row := none) (by cases v8.ownBlock <;> simp),
   h.l7, h.l8, h.b7, h.b8, h.bel.trans (b.mono (by have := h.size; omega)), Nat.le_trans h.size b.size, fun j hj => (b.cell (by have := h.size; show s0 + 1 < wr.heap.size; omega)).trans (h.cm j hj), h.ap⟩
theorem TW.add8 (h : TW w wX s0 m k7 v7 T7 k8 v8 T8) {t : Ak} (ht : akB t) {g cap : Nat} (hown : w1.ownsRow (s0 + 2) 32 4 (.slice (some ⟨g, 0, none⟩) (k8 + 1) cap) (k8 + 1) (quad T8 ++ quad [t])) (hg : wX.grownBy w1 v8.ownBlock) (hat : v8.ownBlock = some g ∨ g = wX.heap.size) :
    TW w w1 s0 m k7 v7 T7 (k8 + 1) (.slice (some ⟨g, 0, none⟩) (k8 + 1) cap) (T8 ++ [t]) := by
  have hs := h.size
  have n8 : ∀ q, v8.ownBlock = some q → s0 + 2 ≤ q := fun q hq => (h.o8.lt q hq).1
  refine ⟨World.ownsRow.kept h.o7 hg (row := v8.ownBlock) ?_, by rw [quad_app]; exact hown, h.l7, by simp [h.l8], h.b7, fun s hs => ?_, below_grown h.bel hg (fun q hq => by have := n8 q hq; omega) (by omega), Nat.le_trans h.size hg.size, fun j hj => ?_, fun q hq e => ?_⟩
  · cases h7 : v7.ownBlock with
    | none => simp
    | some q =>
      have := h.ap q h7
      first
        | (intro e; exact this e.symm)
        | (right; intro e; exact this e.symm)
        | (simp; intro e; exact this e.symm)
  · rcases List.mem_append.1 hs with hs | hs
    · exact h.b8 s hs
    · simp only [List.mem_singleton] at hs; subst hs; exact ht
  · exact (World.cell?_of_block (a := ⟨s0 + 1, j, none⟩) (hg.block (s0 + 1) (by omega) (fun e => by have := n8 _ e.symm; omega))).trans (h.cm j hj)
  · have eq : g = q := by injection e
    subst eq
    rcases hat with hat | hat
    · exact h.ap g hq hat
    · have := (h.o7.lt g hq).2; omega
theorem TW.add7 (h : TW w wX s0 m k7 v7 T7 k8 v8 T8) {t : Ak} (ht : akB t) {g cap : Nat} (hown : w1.ownsRow (s0 + 2) 32 4 (.slice (some ⟨g, 0, none⟩) (k7 + 1) cap) (k7 + 1) (quad T7 ++ quad [t])) (hg : wX.grownBy w1 v7.ownBlock) (hat : v7.ownBlock = some g ∨ g = wX.heap.size) :
    TW w w1 s0 m (k7 + 1) (.slice (some ⟨g, 0, none⟩) (k7 + 1) cap) (T7 ++ [t]) k8 v8 T8 := by
  have h' : TW w wX s0 m k8 v8 T8 k7 v7 T7 := ⟨h.o8, h.o7, h.l8, h.l7, h.b8, h.b7, h.bel, h.size, h.cm, fun g h8 h7 => h.ap g h7 h8⟩
  have r := h'.add8 ht hown hg hat
  exact ⟨r.o8, r.o7, r.l8, r.l7, r.b8, r.b7, r.bel, r.size, r.cm, fun g h8 h7 => r.ap g h7 h8⟩
end
end Wd
end Go.Proofs.Ytdaojohdmidemaa

/- What the laws ask of a memory, whoever keeps it: HeapPlays. -/
namespace Go.Proofs.Ytdaojohdmidemaa
open Go.RowKit Go.Maps
set_option linter.unusedVariables false
namespace Wd
/-- while the array is filled -/
structure AB (w wr : World) (s0 : Nat) (e : Nat → Int) (m : Nat → Nat) (k : Nat) : Prop where
  bel : Below s0 w wr
  size : s0 + 2 ≤ wr.heap.size
  cf : ∀ j, j < 5 → wr.cell? ⟨s0, j, none⟩ = some (.int .i64 (e j))
  cm : ∀ j, j < 5 → wr.cell? ⟨s0 + 1, j, none⟩ = some (.int .i64 (if j < k then (m j : Int) else 0))
  cz : ∀ j, wr.frozen? ⟨s0 + 1, j, none⟩ = false
theorem AB.next {w wr : World} {s0 : Nat} {e : Nat → Int} {m : Nat → Nat} {k : Nat} (h : AB w wr s0 e m k) (hk : k < 5) : AB w (wr.setCell ⟨s0 + 1, k, none⟩ (.int .i64 (m k : Int))) s0 e m (k + 1) := by
  refine ⟨below_set h.bel (by show s0 ≤ s0 + 1; omega) _, by rw [World.size_setCell]; exact h.size, fun j hj => (World.cell?_setCell_far _ _ _ _ (by show s0 + 1 ≠ s0; omega)).trans (h.cf j hj), fun j hj => ?_, fun j => by rw [World.frozen?_setCell]; exact h.cz j⟩
  by_cases c : j = k
  · subst c
    rw [if_pos (by omega)]
    exact World.cell?_setCell_same _ _ _ (h.cm j hj)
  · rw [World.cell?_setCell_other _ _ _ _ (by intro e; cases e; exact c rfl), h.cm j hj]
    by_cases d : j < k
    · rw [if_pos d, if_pos (by omega)]
    · rw [if_neg d, if_neg (by omega)]
end Wd
end Go.Proofs.Ytdaojohdmidemaa

/- A slice of integers that came in, as the form reads it: opened. -/
namespace Go.Proofs.Ytdaojohdmidemaa
open Go.ChangeShapes Go.WideShapes Go.ChangeAt Go.RowKit
set_option linter.unusedVariables false
set_option maxRecDepth 100000
namespace Wd
theorem laidOut : laidOutB Try.prog = true := by kernel_rfl
theorem cellsI : Try.prog.cellsOf 3 = 1 := by kernel_rfl
theorem cellsAsk : Try.prog.cellsOf 32 = 4 := by kernel_rfl
theorem bytesAsk : Try.prog.bytesOf 32 = 32 := by kernel_rfl
theorem list4 {α : Type} (l : List α) (h : l.length = 4) : ∃ a b c d, l = [a, b, c, d] := by
  match l, h with
  | [a, b, c, d], _ => exact ⟨a, b, c, d, rfl⟩
theorem asks_of {H : Type} {enc : TypeId × Value → H} {W : World} {base : Nat} {v : Value} {d : DataW H} {p : List MemPlace}
    (hv : Value.okWide Try.prog W .any base 22 v) (h : DataW.Trod enc Try.prog W 0 (fun _ => true) true 22 v d p) :
    ∃ ad len cap, v = .slice ad len cap ∧ Asks W ad len ∧ ((d = .nil ∧ len = 0) ∨ ∃ elems spare, d = .slice elems spare ∧ len ≤ elems.length) := by
  obtain ⟨a0, len, cap, rfl⟩ := okWide_slice Try.underlying22 hv
  obtain ⟨fuel, hf⟩ := h
  rcases DataW.trod_slice Try.underlying22 hf with ⟨hcs, hx⟩ | ⟨a, len', cap', elems, rest, n, _, hcs, hx, hb, hl, hm, hlen, hel, _, _⟩
  · simp [Value.cells] at hcs
    obtain ⟨rfl, rfl, rfl⟩ := hcs
    simp only [Prod.mk.injEq] at hx
    exact ⟨none, 0, 0, rfl, fun _ _ k hk => absurd hk (by omega), Or.inl ⟨hx.1, rfl⟩⟩
  · simp [Value.cells] at hcs
    obtain ⟨rfl, rfl, rfl⟩ := hcs
    simp only [Prod.mk.injEq] at hx
    refine ⟨some a, len, cap, rfl, fun wr hbl k hk => ?_, Or.inr ⟨_, _, hx.1, by simp; omega⟩⟩
    obtain ⟨y, hy⟩ : ∃ y, elems[k]? = some y := ⟨elems[k]'(by omega), by simp⟩
    have hk1 := hel k hk
    rw [hy, cellsAsk, Option.bind_eq_some_iff] at hk1
    obtain ⟨cs, hc, ht⟩ := hk1
    obtain ⟨_, hcl, hcc⟩ := World.cells?_some hc
    obtain ⟨xs, n', _, _, _, hxl, hg⟩ := DataW.trod_struct Try.underlying32 ht
    obtain ⟨y0, y1, y2, y3, rfl⟩ := list4 xs hxl
    obtain ⟨c0, c1, c2, c3, rfl⟩ := list4 cs hcl
    have g0 : DataW.trod enc Try.prog W 0 (fun _ => true) true n' 3 (([c0, c1, c2, c3].drop 0).take (Try.prog.cellsOf 3)) = some y0 := hg 0 _ rfl
    have g1 : DataW.trod enc Try.prog W 0 (fun _ => true) true n' 3 (([c0, c1, c2, c3].drop 1).take (Try.prog.cellsOf 3)) = some y1 := hg 1 _ rfl
    have g2 : DataW.trod enc Try.prog W 0 (fun _ => true) true n' 3 (([c0, c1, c2, c3].drop 2).take (Try.prog.cellsOf 3)) = some y2 := hg 2 _ rfl
    have g3 : DataW.trod enc Try.prog W 0 (fun _ => true) true n' 3 (([c0, c1, c2, c3].drop 3).take (Try.prog.cellsOf 3)) = some y3 := hg 3 _ rfl
    rw [cellsI] at g0 g1 g2 g3
    obtain ⟨x, e0, _, w0⟩ := DataW.trod_int Try.underlying3 g0
    obtain ⟨y, e1, _, w1⟩ := DataW.trod_int Try.underlying3 g1
    obtain ⟨z, e2, _, w2⟩ := DataW.trod_int Try.underlying3 g2
    obtain ⟨q, e3, _, w3⟩ := DataW.trod_int Try.underlying3 g3
    simp at e0 e1 e2 e3
    subst e0 e1 e2 e3
    have h0 := hcc 0 (by omega)
    have h1 := hcc 1 (by omega)
    have h2 := hcc 2 (by omega)
    have h3 := hcc 3 (by omega)
    obtain ⟨b, off, spot⟩ := a
    have hspot : spot = none := by
      obtain ⟨y', hy'⟩ : ∃ y, elems[0]? = some y := ⟨elems[0]'(by omega), by simp⟩
      have hk0 := hel 0 (by omega)
      rw [hy', cellsAsk, Option.bind_eq_some_iff] at hk0
      obtain ⟨cs0, hc0, _⟩ := hk0
      obtain ⟨u0, u1, u2, u3, rfl⟩ := list4 cs0 (World.cells?_some hc0).2.1
      have := World.cell?_spot (((World.cells?_some hc0).2.2 0 (by omega)).trans (show [u0, u1, u2, u3][0]? = some u0 from rfl))
      simpa [Addr.add] using this
    subst hspot
    simp only [Addr.add_lit, Nat.add_zero] at h0 h1 h2 h3
    exact ⟨b, off, x, y, z, q, rfl, bounds_i64 w0, bounds_i64 w1, bounds_i64 w2, bounds_i64 w3, cell_up hbl h0, cell_up hbl h1, cell_up hbl h2, cell_up hbl h3⟩
theorem cellsA : Try.prog.cellsOf 25 = 5 := by kernel_rfl
theorem list5 {α : Type} (l : List α) (h : (⟨l⟩ : Array α).size = 5) : ∃ a b c d e, l = [a, b, c, d, e] := by
  match l, h with
  | [a, b, c, d, e], _ => exact ⟨a, b, c, d, e, rfl⟩
theorem list5' {α : Type} (l : List α) (h : l.length = 5) : ∃ a b c d e, l = [a, b, c, d, e] := by
  match l, h with
  | [a, b, c, d, e], _ => exact ⟨a, b, c, d, e, rfl⟩
theorem open5 {H : Type} {enc : TypeId × Value → H} {W : World} {base b' : Nat} {sp : Nat → Bool} {held : Bool} {v : Value} {d : DataW H} {p : List MemPlace}
    (hv : Value.okWide Try.prog W .any base 25 v) (h : DataW.Trod enc Try.prog W b' sp held 25 v d p) :
    ∃ x0 x1 x2 x3 x4 : Int, v = .agg #[.int .i64 x0, .int .i64 x1, .int .i64 x2, .int .i64 x3, .int .i64 x4] ∧ d = .agg [.lit (.int .i64 x0), .lit (.int .i64 x1), .lit (.int .i64 x2), .lit (.int .i64 x3), .lit (.int .i64 x4)] ∧ p = [] ∧
      (Lit.int .i64 x0).wf = true ∧ (Lit.int .i64 x1).wf = true ∧ (Lit.int .i64 x2).wf = true ∧ (Lit.int .i64 x3).wf = true ∧ (Lit.int .i64 x4).wf = true := by
  obtain ⟨cs, rfl, hsz, _⟩ : ∃ cs, v = .agg cs ∧ cs.size = Try.prog.cellsOf 25 ∧ Row.okWide Try.prog W .any base 25 cs := by
    simpa [Value.okWide, Try.underlying25] using hv
  rw [cellsA] at hsz
  obtain ⟨l⟩ := cs
  obtain ⟨c0, c1, c2, c3, c4, rfl⟩ := list5 l hsz
  obtain ⟨fuel, hf⟩ := h
  obtain ⟨xs, m, _, hx, _, hl, hg⟩ := DataW.trod_array Try.underlying25 hf
  obtain ⟨y0, y1, y2, y3, y4, rfl⟩ := list5' xs hl
  have g0 := hg 0 (by omega)
  have g1 := hg 1 (by omega)
  have g2 := hg 2 (by omega)
  have g3 := hg 3 (by omega)
  have g4 := hg 4 (by omega)
  rw [cellsI] at g0 g1 g2 g3 g4
  obtain ⟨x0, e0, rfl, w0⟩ := DataW.trod_int Try.underlying3 g0
  obtain ⟨x1, e1, rfl, w1⟩ := DataW.trod_int Try.underlying3 g1
  obtain ⟨x2, e2, rfl, w2⟩ := DataW.trod_int Try.underlying3 g2
  obtain ⟨x3, e3, rfl, w3⟩ := DataW.trod_int Try.underlying3 g3
  obtain ⟨x4, e4, rfl, w4⟩ := DataW.trod_int Try.underlying3 g4
  simp [Value.cells] at e0 e1 e2 e3 e4
  subst e0 e1 e2 e3 e4
  simp only [Prod.mk.injEq] at hx
  obtain ⟨rfl, rfl⟩ := hx
  exact ⟨x0, x1, x2, x3, x4, rfl, rfl, rfl, w0, w1, w2, w3, w4⟩
theorem shut5 {H : Type} {enc : TypeId × Value → H} {W : World} {b' : Nat} {sp : Nat → Bool} {held : Bool} {x0 x1 x2 x3 x4 : Int}
    (w0 : (Lit.int .i64 x0).wf = true) (w1 : (Lit.int .i64 x1).wf = true) (w2 : (Lit.int .i64 x2).wf = true) (w3 : (Lit.int .i64 x3).wf = true) (w4 : (Lit.int .i64 x4).wf = true) :
    DataW.Trod enc Try.prog W b' sp held 25 (.agg #[.int .i64 x0, .int .i64 x1, .int .i64 x2, .int .i64 x3, .int .i64 x4]) (.agg [.lit (.int .i64 x0), .lit (.int .i64 x1), .lit (.int .i64 x2), .lit (.int .i64 x3), .lit (.int .i64 x4)]) [] :=
  ⟨2, by simp [DataW.trod, Value.cells, Try.underlying25, Try.underlying3, cellsA, cellsI, w0, w1, w2, w3, w4, show List.range 5 = [0, 1, 2, 3, 4] from rfl]⟩
theorem fields_s {HA : HAt} (K : HeapK HA) (ad : Option Addr) (len cap : Nat) (w : World) (HN : Asks w ad len) (hlen : len * 32 ≤ 140737488351232) :
    Calls Try.prog 3 #[.slice ad len cap] w fun e w' => e = .returned (.bool true) ∧ Below w.heap.size w w' :=
  fields_any K ad len cap w HN (by omega)
end Wd
end Go.Proofs.Ytdaojohdmidemaa

/- What the laws ask of a mill, whoever keeps it. -/
namespace Go.Proofs.Ytdaojohdmidemaa
set_option maxRecDepth 20000
open Go.RowKit
set_option linter.unusedVariables false
namespace Wd
abbrev MAt := World → Nat → Nat → Mst → (Nat → Prop) → Prop
/-- what the laws ask of the package's mill: 'MA w p n A F': at block p lies a mill of n cells, its rows are A; it lies in the blocks F -/
structure MillK (MA : MAt) : Prop where
  lt : ∀ {w p n A F}, MA w p n A F → ∀ k, F k → k < w.heap.size
  keep : ∀ {w w' p n A F}, MA w p n A F → (∀ k, F k → w'.heap[k]? = w.heap[k]?) → MA w' p n A F
  alloc : ∀ {w p n A F}, MA w p n A F → Calls Try.prog 27 #[.pointer (some ⟨p, 0, none⟩)] w fun e w' => ∃ F', e = .returned (.int .i64 (firstR A 0)) ∧ MA w' p n (firstA A 0 1) F' ∧ Ch F w w' ∧ Newer F F' w.heap.size
  scan : ∀ {w p n A F}, MA w p n A F → Calls Try.prog 38 #[.pointer (some ⟨p, 0, none⟩)] w fun e w' => ∃ F', e = .returned (.int .i64 (firstR A 2)) ∧ MA w' p n (firstA A 2 1) F' ∧ Ch F w w' ∧ Newer F F' w.heap.size
  shade : ∀ {w p n A F} (i : Int), MA w p n A F → (-9223372036854775808 ≤ i) → (i ≤ 9223372036854775807) → Calls Try.prog 59 #[.pointer (some ⟨p, 0, none⟩), .int .i64 i] w fun e w' => ∃ F', e = .returned (.bool (decide (colorR A i = 3))) ∧ MA w' p n (shadeA A i) F' ∧ Ch F w w' ∧ Newer F F' w.heap.size
  flip : ∀ {w p n A F}, MA w p n A F → Calls Try.prog 39 #[.pointer (some ⟨p, 0, none⟩)] w fun e w' => ∃ u F', e = .returned u ∧ MA w' p n (flipA A) F' ∧ Ch F w w' ∧ Newer F F' w.heap.size ∧ SL w' 3 u (flipR A) ∧ (∀ g, u.ownBlock = some g → w.heap.size ≤ g ∧ ¬ F' g)
  color : ∀ {w p n A F} (i : Int), MA w p n A F → (-9223372036854775808 ≤ i) → (i ≤ 9223372036854775807) → Calls Try.prog 56 #[.pointer (some ⟨p, 0, none⟩), .int .i64 i] w fun e w' => e = .returned (.int .i64 (colorR A i)) ∧ Below w.heap.size w w'
  count : ∀ {w p n A F} (c : Int), MA w p n A F → (-9223372036854775808 ≤ c) → (c ≤ 9223372036854775807) → Calls Try.prog 60 #[.pointer (some ⟨p, 0, none⟩), .int .i64 c] w fun e w' => e = .returned (.int .i64 (rowA A c).length) ∧ Below w.heap.size w w'
  list : ∀ {w p n A F} (c : Int), MA w p n A F → (-9223372036854775808 ≤ c) → (c ≤ 9223372036854775807) → Calls Try.prog 61 #[.pointer (some ⟨p, 0, none⟩), .int .i64 c] w fun e w' => ∃ u, e = .returned u ∧ SL w' 3 u (rowA A c) ∧ Below w.heap.size w w' ∧ (∀ g, u.ownBlock = some g → w.heap.size ≤ g)
  new : ∀ {w} (n : Nat), 1 ≤ n → n ≤ 512 → Calls Try.prog 23 #[.int .i64 n] w fun e w' => ∃ p F, e = .returned (.pointer (some ⟨p, 0, none⟩)) ∧ MA w' p n (startA n) F ∧ (∀ k, F k → w.heap.size ≤ k) ∧ Below w.heap.size w w'
  none : ∀ {w} (n : Int), (-9223372036854775808 ≤ n) → (n ≤ 9223372036854775807) → (n < 1 ∨ 512 < n) → Calls Try.prog 23 #[.int .i64 n] w fun e w' => e = .returned (.pointer .none) ∧ Below w.heap.size w w'
section
variable {MA : MAt} {w0 wr wA w1 w2 : World} {p b n : Nat} {A A' : Mst} {F F' : Nat → Prop} {V V' : Nat → Value}
end
/-- a mill of the package's, of the call's own -/
structure PM (MA : MAt) (w0 wr : World) (p n : Nat) (A : Mst) (F : Nat → Prop) : Prop where
  ma : MA wr p n A F
  bel : Below w0.heap.size w0 wr
  fF : ∀ k, F k → w0.heap.size ≤ k
  good : Good n A
section
variable {MA : MAt} {w0 wr wA w1 : World} {p n : Nat} {A A' : Mst} {F F' : Nat → Prop}
theorem PM.keep (K : MillK MA) (h : PM MA w0 wr p n A F) (g : Below wr.heap.size wr wA) : PM MA w0 wA p n A F :=
  ⟨K.keep h.ma (fun k hk => g.block k (K.lt h.ma k hk)), h.bel.trans (g.mono h.bel.size), h.fF, h.good⟩
theorem PM.step (h : PM MA w0 wr p n A F) (hm : MA w1 p n A' F') (c : Ch F wr w1) (hn : Newer F F' wr.heap.size) (good : Good n A') : PM MA w0 w1 p n A' F' := by
  refine ⟨hm, h.bel.trans ⟨c.os, c.tape, c.output, c.size, fun k hk => c.block k (Nat.lt_of_lt_of_le hk h.bel.size) (fun hF => by have := h.fF k hF; omega)⟩, fun k hk => ?_, good⟩
  rcases hn k hk with h' | h'
  · exact h.fF k h'
  · exact Nat.le_trans h.bel.size h'
end
end Wd
end Go.Proofs.Ytdaojohdmidemaa

/- Rings as lists: what holds of them, whoever keeps them. No program is named here. -/
namespace Go.Proofs.Ytdaojohdmidemaa
set_option maxRecDepth 20000
open Go.RowKit
namespace Wd
theorem idxOf_at {L : List Int} (hn : L.Nodup) {k : Nat} {j : Int} (h : L[k]? = some j) : L.idxOf j = k := by
  obtain ⟨hk, rfl⟩ := List.getElem?_eq_some_iff.1 h
  exact hn.idxOf_getElem k hk
theorem nxt_at {L : List Int} (hn : L.Nodup) {k : Nat} {j : Int} (h : L[k]? = some j) : nxt L j = (L[(k + 1) % L.length]?).getD 0 := by
  unfold nxt
  rw [if_pos (List.mem_of_getElem? h), idxOf_at hn h]
theorem prv_at {L : List Int} (hn : L.Nodup) {k : Nat} {j : Int} (h : L[k]? = some j) : prv L j = (L[(k + L.length - 1) % L.length]?).getD 0 := by
  unfold prv
  rw [if_pos (List.mem_of_getElem? h), idxOf_at hn h]
theorem frm_at {L : List Int} (hn : L.Nodup) {k : Nat} {j : Int} (h : L[k]? = some j) : frm L j = L.drop k ++ L.take k := by
  unfold frm
  rw [if_pos (List.mem_of_getElem? h), idxOf_at hn h]
theorem nxt_out {L : List Int} {j : Int} (h : j ∉ L) : nxt L j = -1 := by simp [nxt, h]
theorem prv_out {L : List Int} {j : Int} (h : j ∉ L) : prv L j = -1 := by simp [prv, h]
theorem frm_out {L : List Int} {j : Int} (h : j ∉ L) : frm L j = [] := by simp [frm, h]
theorem mem_at {L : List Int} {j : Int} (h : j ∈ L) : ∃ k : Nat, L[k]? = some j ∧ k < L.length := by
  obtain ⟨k, hk, rfl⟩ := List.mem_iff_getElem.1 h
  exact ⟨k, by simp, hk⟩
/-- going round by one -/
theorem nxt_rot1 (x : Int) (T : List Int) (hn : (x :: T).Nodup) (j : Int) : nxt (T ++ [x]) j = nxt (x :: T) j := by
  have hn' : (T ++ [x]).Nodup := (List.perm_append_singleton x T).nodup_iff.2 hn
  by_cases hj : j ∈ x :: T
  · rcases List.mem_cons.1 hj with rfl | hT
    · rw [nxt_at hn (k := 0) (by simp), nxt_at hn' (k := T.length) (by simp)]
      cases T with
      | nil => simp
      | cons y T => simp [Nat.mod_eq_of_lt]
    · obtain ⟨m, hm, hl⟩ := mem_at hT
      rw [nxt_at hn (k := m + 1) (by simpa using hm), nxt_at hn' (k := m) (by rw [List.getElem?_append_left hl]; exact hm)]
      have e1 : (m + 1) % (T ++ [x]).length = m + 1 := Nat.mod_eq_of_lt (by simp; omega)
      rw [e1]
      by_cases hlast : m + 1 = T.length
      · have e2 : (m + 1 + 1) % (x :: T).length = 0 := by simp [hlast]
        rw [e2, hlast]; simp
      · have e2 : (m + 1 + 1) % (x :: T).length = m + 2 := Nat.mod_eq_of_lt (by simp; omega)
        rw [e2, List.getElem?_append_left (by omega)]; simp
  · rw [nxt_out hj, nxt_out (by simpa [and_comm] using hj)]
theorem prv_rot1 (x : Int) (T : List Int) (hn : (x :: T).Nodup) (j : Int) : prv (T ++ [x]) j = prv (x :: T) j := by
  have hn' : (T ++ [x]).Nodup := (List.perm_append_singleton x T).nodup_iff.2 hn
  by_cases hj : j ∈ x :: T
  · rcases List.mem_cons.1 hj with rfl | hT
    · rw [prv_at hn (k := 0) (by simp), prv_at hn' (k := T.length) (by simp)]
      have e1 : (T.length + (T ++ [j]).length - 1) % (T ++ [j]).length = T.length - 1 + (if T.length = 0 then 0 else 0) := by
        simp only [List.length_append, List.length_singleton]
        cases hT : T.length with
        | zero => simp
        | succ t => rw [show t + 1 + (t + 1 + 1) - 1 = t + (t + 1 + 1) by omega, Nat.add_mod_right, Nat.mod_eq_of_lt (by omega)]; simp
      have e2 : (0 + (j :: T).length - 1) % (j :: T).length = T.length := by simp
      rw [e1, e2]
      cases T with
      | nil => simp
      | cons y T =>
        rw [List.getElem?_append_left (by simp)]
        simp
    · obtain ⟨m, hm, hl⟩ := mem_at hT
      rw [prv_at hn (k := m + 1) (by simpa using hm), prv_at hn' (k := m) (by rw [List.getElem?_append_left hl]; exact hm)]
      have e2 : (m + 1 + (x :: T).length - 1) % (x :: T).length = m := by
        rw [show m + 1 + (x :: T).length - 1 = m + (x :: T).length by omega, Nat.add_mod_right]
        exact Nat.mod_eq_of_lt (by simp; omega)
      rw [e2]
      cases m with
      | zero =>
        have e1 : (0 + (T ++ [x]).length - 1) % (T ++ [x]).length = T.length := by simp
        rw [e1]; simp
      | succ m =>
        have e1 : (m + 1 + (T ++ [x]).length - 1) % (T ++ [x]).length = m := by
          rw [show m + 1 + (T ++ [x]).length - 1 = m + (T ++ [x]).length by omega, Nat.add_mod_right]
          exact Nat.mod_eq_of_lt (by simp; omega)
        rw [e1, List.getElem?_append_left (by omega)]; simp
  · rw [prv_out hj, prv_out (by simpa [and_comm] using hj)]
theorem frm_rot1 (x : Int) (T : List Int) (hn : (x :: T).Nodup) (j : Int) : frm (T ++ [x]) j = frm (x :: T) j := by
  have hn' : (T ++ [x]).Nodup := (List.perm_append_singleton x T).nodup_iff.2 hn
  by_cases hj : j ∈ x :: T
  · rcases List.mem_cons.1 hj with rfl | hT
    · rw [frm_at hn (k := 0) (by simp), frm_at hn' (k := T.length) (by simp)]; simp
    · obtain ⟨m, hm, hl⟩ := mem_at hT
      rw [frm_at hn (k := m + 1) (by simpa using hm), frm_at hn' (k := m) (by rw [List.getElem?_append_left hl]; exact hm)]
      rw [List.drop_append_of_le_length (by omega), List.take_append_of_le_length (by omega)]
      simp
  · rw [frm_out hj, frm_out (by simpa [and_comm] using hj)]
/-- what holds of a ring however it is turned -/
theorem rot_all {α : Type} (F : List Int → α) (h1 : ∀ x T, (x :: T).Nodup → F (T ++ [x]) = F (x :: T)) : ∀ (A B : List Int), (A ++ B).Nodup → F (B ++ A) = F (A ++ B)
  | [], B, _ => by simp
  | x :: A, B, h => by
    have h2 : (A ++ (B ++ [x])).Nodup := by
      rw [← List.append_assoc]
      exact (List.perm_append_singleton x (A ++ B)).nodup_iff.2 (by simpa using h)
    have := rot_all F h1 A (B ++ [x]) h2
    have h3 := h1 x (A ++ B) (by simpa using h)
    simp only [List.append_assoc, List.cons_append, List.nil_append] at this h3 ⊢
    exact this.trans h3
theorem nxt_rot (A B : List Int) (hn : (A ++ B).Nodup) (j : Int) : nxt (B ++ A) j = nxt (A ++ B) j := rot_all (fun l => nxt l j) (fun x T h => nxt_rot1 x T h j) A B hn
theorem prv_rot (A B : List Int) (hn : (A ++ B).Nodup) (j : Int) : prv (B ++ A) j = prv (A ++ B) j := rot_all (fun l => prv l j) (fun x T h => prv_rot1 x T h j) A B hn
theorem frm_rot (A B : List Int) (hn : (A ++ B).Nodup) (j : Int) : frm (B ++ A) j = frm (A ++ B) j := rot_all (fun l => frm l j) (fun x T h => frm_rot1 x T h j) A B hn
theorem nxt_get {L : List Int} (hn : L.Nodup) {k : Nat} {j : Int} (h : L[k]? = some j) : (k + 1 < L.length ∧ L[k + 1]? = some (nxt L j)) ∨ (k + 1 = L.length ∧ L[0]? = some (nxt L j)) := by
  have hk := (List.getElem?_eq_some_iff.1 h).1
  rw [nxt_at hn h]
  by_cases hl : k + 1 < L.length
  · left
    rw [Nat.mod_eq_of_lt hl]
    exact ⟨hl, by simp [hl]⟩
  · right
    have e : k + 1 = L.length := by omega
    rw [e, Nat.mod_self]
    exact ⟨rfl, by simp [show 0 < L.length by omega]⟩
theorem prv_get {L : List Int} (hn : L.Nodup) {k : Nat} {j : Int} (h : L[k]? = some j) : (∃ m, k = m + 1 ∧ L[m]? = some (prv L j)) ∨ (k = 0 ∧ L[L.length - 1]? = some (prv L j)) := by
  have hk := (List.getElem?_eq_some_iff.1 h).1
  rw [prv_at hn h]
  cases k with
  | zero =>
    right
    have e : (0 + L.length - 1) % L.length = L.length - 1 := by rw [Nat.zero_add]; exact Nat.mod_eq_of_lt (by omega)
    rw [e]
    exact ⟨rfl, by simp [show L.length - 1 < L.length by omega]⟩
  | succ m =>
    left
    have e : (m + 1 + L.length - 1) % L.length = m := by
      rw [show m + 1 + L.length - 1 = m + L.length by omega, Nat.add_mod_right]
      exact Nat.mod_eq_of_lt (by omega)
    rw [e]
    exact ⟨m, rfl, by simp [show m < L.length by omega]⟩
theorem nxt_mem {L : List Int} (hn : L.Nodup) {j : Int} (h : j ∈ L) : nxt L j ∈ L := by
  obtain ⟨k, hk, _⟩ := mem_at h
  rcases nxt_get hn hk with ⟨_, h⟩ | ⟨_, h⟩ <;> exact List.mem_of_getElem? h
theorem prv_mem {L : List Int} (hn : L.Nodup) {j : Int} (h : j ∈ L) : prv L j ∈ L := by
  obtain ⟨k, hk, _⟩ := mem_at h
  rcases prv_get hn hk with ⟨_, _, h⟩ | ⟨_, h⟩ <;> exact List.mem_of_getElem? h
theorem get_inj {L : List Int} (hn : L.Nodup) {k m : Nat} {j : Int} (h : L[k]? = some j) (h' : L[m]? = some j) : k = m := (idxOf_at hn h).symm.trans (idxOf_at hn h')
/-- the one ahead of the one behind -/
theorem prv_nxt {L : List Int} (hn : L.Nodup) {j : Int} (h : j ∈ L) : prv L (nxt L j) = j := by
  obtain ⟨k, hk, hl⟩ := mem_at h
  rcases nxt_get hn hk with ⟨h1, h2⟩ | ⟨h1, h2⟩
  · rcases prv_get hn h2 with ⟨m, e, h3⟩ | ⟨e, _⟩
    · obtain rfl : m = k := by omega
      rw [hk] at h3; exact (Option.some.inj h3).symm
    · omega
  · rcases prv_get hn h2 with ⟨m, e, h3⟩ | ⟨e, h3⟩
    · omega
    · rw [show L.length - 1 = k by omega, hk] at h3; exact (Option.some.inj h3).symm
theorem nxt_prv {L : List Int} (hn : L.Nodup) {j : Int} (h : j ∈ L) : nxt L (prv L j) = j := by
  obtain ⟨k, hk, hl⟩ := mem_at h
  rcases prv_get hn hk with ⟨m, e, h2⟩ | ⟨e, h2⟩
  · rcases nxt_get hn h2 with ⟨_, h3⟩ | ⟨e', _⟩
    · rw [← e, hk] at h3; exact (Option.some.inj h3).symm
    · omega
  · rcases nxt_get hn h2 with ⟨e', _⟩ | ⟨_, h3⟩
    · omega
    · rw [← e, hk] at h3; exact (Option.some.inj h3).symm
/-- one that is in, and what goes round from it -/
theorem split_at {L : List Int} (hn : L.Nodup) {i : Int} (h : i ∈ L) : ∃ A B, L = A ++ i :: B ∧ i ∉ A ∧ A.length = L.idxOf i := by
  have hk := List.idxOf_lt_length_of_mem h
  refine ⟨L.take (L.idxOf i), L.drop (L.idxOf i + 1), ?_, ?_, ?_⟩
  · conv => lhs; rw [← List.take_append_drop (L.idxOf i) L]
    rw [List.drop_eq_getElem_cons hk, List.getElem_idxOf]
  · intro hm
    obtain ⟨m, h1, h2⟩ := mem_at hm
    rw [List.length_take] at h2
    rw [List.getElem?_take_of_lt (by omega)] at h1
    have := idxOf_at hn h1
    omega
  · rw [List.length_take]; omega
theorem nd_rot {A B : List Int} (hn : (A ++ B).Nodup) : (B ++ A).Nodup := (List.perm_append_comm (l₁ := A) (l₂ := B)).nodup_iff.1 hn
/-- a ring, and the same turned so that i is first -/
theorem turned {L : List Int} (hn : L.Nodup) {i : Int} (h : i ∈ L) : ∃ C, (i :: C).Nodup ∧ C.length + 1 = L.length ∧ (∀ j, j ∈ L ↔ j = i ∨ j ∈ C) ∧ (∀ j, nxt L j = nxt (i :: C) j) ∧ (∀ j, prv L j = prv (i :: C) j) ∧ (∀ j, frm L j = frm (i :: C) j) ∧
    (outL L i).Nodup ∧ (outL L i).length = C.length ∧ (∀ j, j ∈ outL L i ↔ j ∈ C) ∧ (∀ j, nxt (outL L i) j = nxt C j) ∧ (∀ j, prv (outL L i) j = prv C j) ∧ (∀ j, frm (outL L i) j = frm C j) := by
  obtain ⟨A, B, e, hA, hl⟩ := split_at hn h
  have eo : outL L i = A ++ B := by
    unfold outL
    rw [if_pos h, ← hl]
    conv => lhs; rw [e]
    simp
  subst e
  have n1 : (i :: B ++ A).Nodup := nd_rot hn
  have n2 : (A ++ B).Nodup := by
    have : (B ++ A).Nodup := (List.nodup_cons.1 n1).2
    exact nd_rot this
  rw [eo]
  refine ⟨B ++ A, n1, by simp; omega, fun j => ?_, fun j => (nxt_rot A (i :: B) hn j).symm, fun j => (prv_rot A (i :: B) hn j).symm, fun j => (frm_rot A (i :: B) hn j).symm, n2, by simp; omega, fun j => ?_, fun j => (nxt_rot A B n2 j).symm, fun j => (prv_rot A B n2 j).symm, fun j => (frm_rot A B n2 j).symm⟩
  · simp only [List.mem_append, List.mem_cons]; constructor <;> (intro h; rcases h with h | h | h <;> simp [h])
  · simp only [List.mem_append]; exact or_comm
theorem nxt_cut {i : Int} {C : List Int} (hn : (i :: C).Nodup) {j : Int} (hj : j ∈ C) : nxt C j = if nxt (i :: C) j = i then nxt (i :: C) i else nxt (i :: C) j := by
  have hC := (List.nodup_cons.1 hn).2
  have hi := (List.nodup_cons.1 hn).1
  obtain ⟨m, hm, hl⟩ := mem_at hj
  have hm' : (i :: C)[m + 1]? = some j := by simpa using hm
  have h0 : (i :: C)[0]? = some i := rfl
  rcases nxt_get hC hm with ⟨h1, h2⟩ | ⟨h1, h2⟩
  · rcases nxt_get hn hm' with ⟨_, h3⟩ | ⟨h3, _⟩
    · simp only [List.getElem?_cons_succ] at h3
      rw [h2] at h3
      have e := Option.some.inj h3
      rw [← e, if_neg]
      intro e2; rw [e2] at h2; exact hi (List.mem_of_getElem? h2)
    · simp at h3; omega
  · rcases nxt_get hn hm' with ⟨h3, _⟩ | ⟨_, h3⟩
    · simp at h3; omega
    · rw [h0] at h3
      rw [if_pos (Option.some.inj h3).symm]
      rcases nxt_get hn h0 with ⟨_, h4⟩ | ⟨h4, _⟩
      · simp only [List.getElem?_cons_succ] at h4
        rw [h2] at h4; exact Option.some.inj h4
      · simp at h4; rw [h4] at hl; simp at hl
theorem prv_cut {i : Int} {C : List Int} (hn : (i :: C).Nodup) {j : Int} (hj : j ∈ C) : prv C j = if prv (i :: C) j = i then prv (i :: C) i else prv (i :: C) j := by
  have hC := (List.nodup_cons.1 hn).2
  have hi := (List.nodup_cons.1 hn).1
  obtain ⟨m, hm, hl⟩ := mem_at hj
  have hm' : (i :: C)[m + 1]? = some j := by simpa using hm
  have h0 : (i :: C)[0]? = some i := rfl
  rcases prv_get hn hm' with ⟨q, e, h3⟩ | ⟨e, _⟩
  · obtain rfl : q = m := by omega
    cases q with
    | zero =>
      rw [h0] at h3
      rw [if_pos (Option.some.inj h3).symm]
      rcases prv_get hC hm with ⟨q, e, _⟩ | ⟨_, h2⟩
      · omega
      · rcases prv_get hn h0 with ⟨q, e, _⟩ | ⟨_, h4⟩
        · omega
        · obtain ⟨c, hc⟩ : ∃ c, C.length = c + 1 := ⟨C.length - 1, by omega⟩
          simp only [List.length_cons, hc, Nat.add_sub_cancel, List.getElem?_cons_succ] at h4 h2
          rw [h2] at h4; exact Option.some.inj h4
    | succ q =>
      simp only [List.getElem?_cons_succ] at h3
      rcases prv_get hC hm with ⟨r, e, h2⟩ | ⟨e, _⟩
      · obtain rfl : r = q := by omega
        rw [h2] at h3
        have e := Option.some.inj h3
        rw [← e, if_neg]
        intro e2; rw [e2] at h2; exact hi (List.mem_of_getElem? h2)
      · omega
  · omega
/-- what is behind, and ahead, when one is taken out -/
theorem nxt_outL {L : List Int} (hn : L.Nodup) {i j : Int} (hi : i ∈ L) (hj : j ∈ L) (hne : j ≠ i) : nxt (outL L i) j = if nxt L j = i then nxt L i else nxt L j := by
  obtain ⟨C, h1, _, h3, h4, _, _, _, _, _, h9, _, _⟩ := turned hn hi
  rw [h9, h4, h4]
  exact nxt_cut h1 (((h3 j).1 hj).resolve_left hne)
theorem prv_outL {L : List Int} (hn : L.Nodup) {i j : Int} (hi : i ∈ L) (hj : j ∈ L) (hne : j ≠ i) : prv (outL L i) j = if prv L j = i then prv L i else prv L j := by
  obtain ⟨C, h1, _, h3, _, h5, _, _, _, _, _, h10, _⟩ := turned hn hi
  rw [h10, h5, h5]
  exact prv_cut h1 (((h3 j).1 hj).resolve_left hne)
theorem mem_outL {L : List Int} (hn : L.Nodup) {i : Int} (hi : i ∈ L) (j : Int) : j ∈ outL L i ↔ j ∈ L ∧ j ≠ i := by
  obtain ⟨C, h1, _, h3, _, _, _, _, _, h8, _⟩ := turned hn hi
  have hiC := (List.nodup_cons.1 h1).1
  rw [h8, h3]
  constructor
  · intro h; exact ⟨Or.inr h, fun e => hiC (e ▸ h)⟩
  · rintro ⟨h | h, hne⟩
    · exact absurd h hne
    · exact h
theorem nd_outL {L : List Int} (hn : L.Nodup) (i : Int) : (outL L i).Nodup := by
  by_cases hi : i ∈ L
  · obtain ⟨C, _, _, _, _, _, _, h, _⟩ := turned hn hi; exact h
  · simpa [outL, hi] using hn
theorem len_outL {L : List Int} (hn : L.Nodup) {i : Int} (hi : i ∈ L) : (outL L i).length + 1 = L.length := by
  obtain ⟨C, _, h2, _, _, _, _, _, h, _⟩ := turned hn hi; omega
/-- one that is put in: where it stands, and that it is taken out again -/
theorem inL_facts {L : List Int} (hn : L.Nodup) {i a : Int} (hi : i ∉ L) (ha : a ∈ L) : (inL L i a).Nodup ∧ i ∈ inL L i a ∧ outL (inL L i a) i = L ∧ nxt (inL L i a) i = a ∧ (inL L i a).length = L.length + 1 := by
  obtain ⟨A, B, e, hA, hl⟩ := split_at hn ha
  have em : inL L i a = A ++ i :: (a :: B) := by
    unfold inL
    rw [if_pos ha, ← hl]
    conv => lhs; rw [e]
    simp
  rw [em]
  have n1 : (A ++ i :: (a :: B)).Nodup := by
    have : (i :: (A ++ a :: B)).Nodup := List.nodup_cons.2 ⟨e ▸ hi, e ▸ hn⟩
    exact (List.perm_middle (a := i) (l₁ := A) (l₂ := a :: B)).nodup_iff.2 this
  have hm : i ∈ A ++ i :: (a :: B) := by simp
  have hg : (A ++ i :: (a :: B))[A.length]? = some i := by simp
  refine ⟨n1, hm, ?_, ?_, by rw [e]; simp; omega⟩
  · unfold outL
    rw [if_pos hm, idxOf_at n1 hg, e]
    simp
  · rcases nxt_get n1 hg with ⟨_, h2⟩ | ⟨h1, _⟩
    · have : (A ++ i :: (a :: B))[A.length + 1]? = some a := by rw [List.getElem?_append_right (by omega)]; simp
      rw [this] at h2; exact (Option.some.inj h2).symm
    · simp at h1
theorem mem_inL {L : List Int} (hn : L.Nodup) {i a : Int} (hi : i ∉ L) (ha : a ∈ L) (j : Int) : j ∈ inL L i a ↔ j = i ∨ j ∈ L := by
  obtain ⟨n1, hm, ho, _, _⟩ := inL_facts hn hi ha
  have h := mem_outL n1 hm j
  rw [ho] at h
  constructor
  · intro hj
    by_cases e : j = i
    · exact Or.inl e
    · exact Or.inr (h.2 ⟨hj, e⟩)
  · rintro (rfl | hj)
    · exact hm
    · exact (h.1 hj).1
theorem nxt_inL {L : List Int} (hn : L.Nodup) {i a j : Int} (hi : i ∉ L) (ha : a ∈ L) (hj : j ∈ L) : nxt (inL L i a) j = if nxt L j = a then i else nxt L j := by
  obtain ⟨n1, hm, ho, hx, _⟩ := inL_facts hn hi ha
  have hne : j ≠ i := fun e => hi (e ▸ hj)
  have hjm := (mem_inL hn hi ha j).2 (Or.inr hj)
  have h := nxt_outL n1 hm hjm hne
  rw [ho, hx] at h
  by_cases c : nxt (inL L i a) j = i
  · rw [if_pos c] at h; rw [if_pos h, c]
  · rw [if_neg c] at h
    rw [h, if_neg]
    intro e
    have h1 := prv_nxt n1 hjm
    have h2 := prv_nxt n1 hm
    rw [e] at h1; rw [hx, h1] at h2; exact hne h2
theorem prv_inL {L : List Int} (hn : L.Nodup) {i a : Int} (hi : i ∉ L) (ha : a ∈ L) : prv (inL L i a) i = prv L a ∧ ∀ j, j ∈ L → prv (inL L i a) j = if j = a then i else prv L j := by
  obtain ⟨n1, hm, ho, hx, _⟩ := inL_facts hn hi ha
  have hpa : prv (inL L i a) a = i := by have := prv_nxt n1 hm; rwa [hx] at this
  have key : ∀ j, j ∈ L → prv L j = if prv (inL L i a) j = i then prv (inL L i a) i else prv (inL L i a) j := fun j hj => by
    have h := prv_outL n1 hm ((mem_inL hn hi ha j).2 (Or.inr hj)) (fun e => hi (e ▸ hj))
    rwa [ho] at h
  refine ⟨?_, fun j hj => ?_⟩
  · have := key a ha; rw [if_pos hpa] at this; exact this.symm
  · by_cases c : j = a
    · rw [if_pos c, c, hpa]
    · rw [if_neg c, key j hj, if_neg]
      intro e
      have := nxt_prv n1 ((mem_inL hn hi ha j).2 (Or.inr hj))
      rw [e, hx] at this; exact c this.symm
/-- all from one on: it, and what goes round -/
theorem frm_facts {L : List Int} (hn : L.Nodup) {i : Int} (hi : i ∈ L) : (frm L i).length = L.length ∧ (frm L i)[0]? = some i ∧ (∀ (k : Nat) (x : Int), k + 1 < L.length → (frm L i)[k]? = some x → (frm L i)[k + 1]? = some (nxt L x)) ∧
    (∀ x, (frm L i)[L.length - 1]? = some x → nxt L x = i) ∧ (∀ (k : Nat) (x : Int), (frm L i)[k]? = some x → x ∈ L) ∧ (frm L i).Nodup := by
  obtain ⟨C, h1, h2, h3, h4, _, h6, _⟩ := turned hn hi
  have e : frm L i = i :: C := by
    rw [h6, frm_at h1 (k := 0) rfl]; simp
  rw [e]
  refine ⟨by simp; omega, rfl, fun k x hk hx => ?_, fun x hx => ?_, fun k x hx => ?_, h1⟩
  · rw [h4]
    rcases nxt_get h1 hx with ⟨_, h⟩ | ⟨h, _⟩
    · exact h
    · simp at h; omega
  · rw [h4]
    rcases nxt_get h1 hx with ⟨h, _⟩ | ⟨_, h⟩
    · simp at h; omega
    · simp at h; exact h.symm
  · exact (h3 x).2 (List.mem_cons.1 (List.mem_of_getElem? hx))
/-- one that is taken out, and put in ahead of the one behind it, is where it was -/
theorem back_same {L : List Int} (hn : L.Nodup) {x : Int} (hx : x ∈ L) (hl : 2 ≤ L.length) : (inL (outL L x) x (nxt L x)).Nodup ∧ (inL (outL L x) x (nxt L x)).length = L.length ∧ (∀ j, j ∈ inL (outL L x) x (nxt L x) ↔ j ∈ L) ∧
    (∀ j, nxt (inL (outL L x) x (nxt L x)) j = nxt L j) ∧ (∀ j, prv (inL (outL L x) x (nxt L x)) j = prv L j) ∧ (∀ j, frm (inL (outL L x) x (nxt L x)) j = frm L j) := by
  obtain ⟨C, h1, h2, h3, h4, h5, h6, n2, l2, m2, _, _, f2⟩ := turned hn hx
  have hC := (List.nodup_cons.1 h1).2
  have hxC := (List.nodup_cons.1 h1).1
  obtain ⟨a, T, rfl⟩ : ∃ a T, C = a :: T := by
    cases C with
    | nil => simp at h2; omega
    | cons a T => exact ⟨a, T, rfl⟩
  have ea : nxt L x = a := by
    rw [h4]
    rcases nxt_get h1 (k := 0) rfl with ⟨_, h⟩ | ⟨h, _⟩
    · simpa using h.symm
    · simp at h
  have haO : a ∈ outL L x := (m2 a).2 (by simp)
  have hxO : x ∉ outL L x := fun h => hxC ((m2 x).1 h)
  rw [ea]
  obtain ⟨n1, _, _, _, l1⟩ := inL_facts n2 hxO haO
  obtain ⟨A, B, e, hA, hlA⟩ := split_at n2 haO
  have em : inL (outL L x) x a = A ++ x :: (a :: B) := by
    unfold inL
    rw [if_pos haO, ← hlA]
    conv => lhs; rw [e]
    simp
  have ef : a :: B ++ A = a :: T := by
    have h7 := f2 a
    rw [frm_at hC (k := 0) rfl, e, frm_at (e ▸ n2) (k := A.length) (by simp)] at h7
    simpa using h7
  have er : x :: (a :: B) ++ A = x :: (a :: T) := by rw [← ef]; rfl
  rw [em] at n1 l1 ⊢
  refine ⟨n1, ?_, fun j => ?_, fun j => ?_, fun j => ?_, fun j => ?_⟩
  · rw [l1, l2]; simp at h2 ⊢; omega
  · rw [h3]
    have : j ∈ A ++ x :: (a :: B) ↔ j ∈ x :: (a :: B) ++ A := by simp only [List.mem_append]; exact or_comm
    rw [this, er, List.mem_cons]
  · rw [h4, ← nxt_rot A (x :: (a :: B)) n1 j, er]
  · rw [h5, ← prv_rot A (x :: (a :: B)) n1 j, er]
  · rw [h6, ← frm_rot A (x :: (a :: B)) n1 j, er]
end Wd
end Go.Proofs.Ytdaojohdmidemaa

/- The package's ring, in a seat without the document's own: how it lies in memory. -/
namespace Go.Proofs.Ytdaojohdmidemaa
set_option maxRecDepth 20000
open Go.RowKit
set_option linter.unusedVariables false
namespace Wd
def upd (f : Nat → Int) (a : Nat) (b : Int) : Nat → Int := fun k => if k = a then b else f k
theorem upd_same (f : Nat → Int) (a : Nat) (b : Int) : upd f a b a = b := if_pos rfl
theorem upd_ne (f : Nat → Int) {a k : Nat} (b : Int) (h : k ≠ a) : upd f a b k = f k := if_neg h
/-- may it be put in -/
def putOk (n : Nat) (L : List Int) (i a : Int) : Bool := decide (0 ≤ i ∧ i < n ∧ i ∉ L ∧ (a ∈ L ∨ (a = -1 ∧ L = [])))
/-- a ring of n places at block p: the row of those behind at g1, the row of those ahead at g2; m are in -/
structure RB (w : World) (p g1 g2 n : Nat) (f h : Nat → Int) (m : Int) : Prop where
  c0 : w.cell? ⟨p, 0, none⟩ = some (.slice (some ⟨g1, 0, none⟩) n n)
  c1 : w.cell? ⟨p, 1, none⟩ = some (.slice (some ⟨g2, 0, none⟩) n n)
  c2 : w.cell? ⟨p, 2, none⟩ = some (.int .i64 m)
  z0 : w.frozen? ⟨p, 2, none⟩ = false
  f1 : ∀ k, k < n → w.cell? ⟨g1, k, none⟩ = some (.int .i64 (f k))
  f2 : ∀ k, k < n → w.cell? ⟨g2, k, none⟩ = some (.int .i64 (h k))
  z1 : ∀ k, w.frozen? ⟨g1, k, none⟩ = false
  z2 : ∀ k, w.frozen? ⟨g2, k, none⟩ = false
  e1 : p ≠ g1
  e2 : p ≠ g2
  e3 : g1 ≠ g2
def FF (p g1 g2 : Nat) : Nat → Prop := fun k => k = p ∨ k = g1 ∨ k = g2
theorem RB.same {w w' : World} {p g1 g2 n : Nat} {f h : Nat → Int} {m : Int} (r : RB w p g1 g2 n f h m) (hb : ∀ k, FF p g1 g2 k → w'.heap[k]? = w.heap[k]?) : RB w' p g1 g2 n f h m := by
  have hp := hb p (Or.inl rfl)
  have h1 := hb g1 (Or.inr (Or.inl rfl))
  have h2 := hb g2 (Or.inr (Or.inr rfl))
  exact ⟨(World.cell?_of_block (a := ⟨p, 0, none⟩) hp).trans r.c0, (World.cell?_of_block (a := ⟨p, 1, none⟩) hp).trans r.c1, (World.cell?_of_block (a := ⟨p, 2, none⟩) hp).trans r.c2,
    (World.frozen?_of_block (a := ⟨p, 2, none⟩) hp).trans r.z0, fun k hk => (World.cell?_of_block (a := ⟨g1, k, none⟩) h1).trans (r.f1 k hk), fun k hk => (World.cell?_of_block (a := ⟨g2, k, none⟩) h2).trans (r.f2 k hk),
    fun k => (World.frozen?_of_block (a := ⟨g1, k, none⟩) h1).trans (r.z1 k), fun k => (World.frozen?_of_block (a := ⟨g2, k, none⟩) h2).trans (r.z2 k), r.e1, r.e2, r.e3⟩
theorem RB.set1 {w : World} {p g1 g2 n : Nat} {f h : Nat → Int} {m : Int} (r : RB w p g1 g2 n f h m) {a : Nat} (ha : a < n) (b : Int) : RB (w.setCell ⟨g1, a, none⟩ (.int .i64 b)) p g1 g2 n (upd f a b) h m := by
  have e1 := r.e1; have e3 := r.e3
  refine ⟨(World.cell?_setCell_far _ _ _ _ e1.symm).trans r.c0, (World.cell?_setCell_far _ _ _ _ e1.symm).trans r.c1, (World.cell?_setCell_far _ _ _ _ e1.symm).trans r.c2, by rw [World.frozen?_setCell]; exact r.z0, fun k hk => ?_,
    fun k hk => (World.cell?_setCell_far _ _ _ _ e3).trans (r.f2 k hk), fun k => by rw [World.frozen?_setCell]; exact r.z1 k, fun k => by rw [World.frozen?_setCell]; exact r.z2 k, r.e1, r.e2, r.e3⟩
  by_cases c : k = a
  · subst c; rw [upd_same]; exact World.cell?_setCell_same _ _ _ (r.f1 k hk)
  · rw [upd_ne _ _ c]; exact (World.cell?_setCell_other _ _ _ _ (by intro e; cases e; exact c rfl)).trans (r.f1 k hk)
theorem RB.set2 {w : World} {p g1 g2 n : Nat} {f h : Nat → Int} {m : Int} (r : RB w p g1 g2 n f h m) {a : Nat} (ha : a < n) (b : Int) : RB (w.setCell ⟨g2, a, none⟩ (.int .i64 b)) p g1 g2 n f (upd h a b) m := by
  have e2 := r.e2; have e3 := r.e3
  refine ⟨(World.cell?_setCell_far _ _ _ _ e2.symm).trans r.c0, (World.cell?_setCell_far _ _ _ _ e2.symm).trans r.c1, (World.cell?_setCell_far _ _ _ _ e2.symm).trans r.c2, by rw [World.frozen?_setCell]; exact r.z0,
    fun k hk => (World.cell?_setCell_far _ _ _ _ e3.symm).trans (r.f1 k hk), fun k hk => ?_, fun k => by rw [World.frozen?_setCell]; exact r.z1 k, fun k => by rw [World.frozen?_setCell]; exact r.z2 k, r.e1, r.e2, r.e3⟩
  by_cases c : k = a
  · subst c; rw [upd_same]; exact World.cell?_setCell_same _ _ _ (r.f2 k hk)
  · rw [upd_ne _ _ c]; exact (World.cell?_setCell_other _ _ _ _ (by intro e; cases e; exact c rfl)).trans (r.f2 k hk)
theorem RB.set3 {w : World} {p g1 g2 n : Nat} {f h : Nat → Int} {m : Int} (r : RB w p g1 g2 n f h m) (b : Int) : RB (w.setCell ⟨p, 2, none⟩ (.int .i64 b)) p g1 g2 n f h b := by
  have e1 := r.e1; have e2 := r.e2
  exact ⟨(World.cell?_setCell_other _ _ _ _ (by simp)).trans r.c0, (World.cell?_setCell_other _ _ _ _ (by simp)).trans r.c1, World.cell?_setCell_same _ _ _ r.c2, by rw [World.frozen?_setCell]; exact r.z0,
    fun k hk => (World.cell?_setCell_far _ _ _ _ e1).trans (r.f1 k hk), fun k hk => (World.cell?_setCell_far _ _ _ _ e2).trans (r.f2 k hk), fun k => by rw [World.frozen?_setCell]; exact r.z1 k, fun k => by rw [World.frozen?_setCell]; exact r.z2 k, r.e1, r.e2, r.e3⟩
theorem RB.lt {w : World} {p g1 g2 n : Nat} {f h : Nat → Int} {m : Int} (r : RB w p g1 g2 n f h m) (hn : 0 < n) : ∀ k, FF p g1 g2 k → k < w.heap.size := by
  rintro k (rfl | rfl | rfl)
  · exact World.block_lt_of_cell? w _ r.c0
  · exact World.block_lt_of_cell? w _ (r.f1 0 hn)
  · exact World.block_lt_of_cell? w _ (r.f2 0 hn)
theorem RB.drew {w : World} {p g1 g2 n : Nat} {f h : Nat → Int} {m : Int} (r : RB w p g1 g2 n f h m) : RB w.drew p g1 g2 n f h m := r.same (fun _ _ => rfl)
/-- has -/
theorem has_c (i : Int) (p g1 g2 n : Nat) (f h : Nat → Int) (m : Int) (w : World) (r : RB w p g1 g2 n f h m) :
    Calls Try.prog 70 #[.pointer (some ⟨p, 0, none⟩), .int .i64 i] w fun e w' => e = .returned (.bool (decide (0 ≤ i ∧ i < n))) ∧ w' = w := by
  have c0 := r.c0
  replace r := Lib.hid r
  by_cases h0 : 0 ≤ i
  · by_cases h1 : i < n
    · have e : decide (0 ≤ i ∧ i < n) = true := by simp; omega
      rw [e]; clear e
      have h0' : decide (0 ≤ i) = true := by simpa using h0
      have h0'' : decide (i ≥ 0) = true := by simpa using h0
      have h1' : decide (i < (n : Int)) = true := by simpa using h1
      go_enter Try.func70, Try.ntmps70
      go_wp2
      go_ret
      exact ⟨by simp, rfl⟩
    · have e : decide (0 ≤ i ∧ i < n) = false := by simp; omega
      rw [e]; clear e
      have h0' : decide (0 ≤ i) = true := by simpa using h0
      have h0'' : decide (i ≥ 0) = true := by simpa using h0
      have h1' : decide (i < (n : Int)) = false := by simpa using h1
      go_enter Try.func70, Try.ntmps70
      go_wp2
      go_ret
      exact ⟨by simp, rfl⟩
  · have e : decide (0 ≤ i ∧ i < n) = false := by simp; omega
    rw [e]; clear e
    have h0' : decide (0 ≤ i) = false := by simpa using h0
    have h0'' : decide (i ≥ 0) = false := by simpa using h0
    go_enter Try.func70, Try.ntmps70
    go_wp2
    go_ret
    exact ⟨by simp, rfl⟩
/-- link -/
theorem link_c (a b : Nat) (p g1 g2 n : Nat) (f h : Nat → Int) (m : Int) (w : World) (r : RB w p g1 g2 n f h m) (ha : a < n) (hb : b < n) :
    Calls Try.prog 63 #[.pointer (some ⟨p, 0, none⟩), .int .i64 a, .int .i64 b] w fun e w' => e = .returned (.tuple #[]) ∧ RB w' p g1 g2 n (upd f a b) (upd h b a) m ∧ Ch (FF p g1 g2) w w' := by
  have c0 := r.c0
  have c1 := r.c1
  have ca := r.f1 a ha
  have cb := r.f2 b hb
  have za := r.z1 a
  have zb := r.z2 b
  have e1 := r.e1
  have e2 := r.e2
  have e3 := r.e3
  have x1 := Ne.symm e1
  have x2 := Ne.symm e2
  have x3 := Ne.symm e3
  replace r := Lib.hid r
  go_enter Try.func63, Try.ntmps63
  go_wp2
  go_end0
  exact ⟨rfl, (r.out.set1 ha b).set2 hb a, ((Ch.refl _ _).set _ (Or.inr (Or.inl rfl)) _).set _ (Or.inr (Or.inr rfl)) _⟩
end Wd
end Go.Proofs.Ytdaojohdmidemaa

/- The ring of the package: what its functions return; its lists. -/
namespace Go.Proofs.Ytdaojohdmidemaa
set_option maxRecDepth 20000
open Go.RowKit
set_option linter.unusedVariables false
namespace Wd
theorem has_y {k p g1 g2 n : Nat} {f h : Nat → Int} {m : Int} {w : World} (r : RB w p g1 g2 n f h m) (hk : k < n) :
    Calls Try.prog 70 #[.pointer (some ⟨p, 0, none⟩), .int .i64 (k : Int)] w fun e w' => e = .returned (.bool true) ∧ w' = w := by
  refine (has_c k p g1 g2 n f h m w r).mono ?_
  rintro e w' ⟨rfl, rfl⟩
  exact ⟨by rw [decide_eq_true (by omega)], rfl⟩
theorem has_n {i : Int} {p g1 g2 n : Nat} {f h : Nat → Int} {m : Int} {w : World} (r : RB w p g1 g2 n f h m) (hi : ¬ (0 ≤ i ∧ i < n)) :
    Calls Try.prog 70 #[.pointer (some ⟨p, 0, none⟩), .int .i64 i] w fun e w' => e = .returned (.bool false) ∧ w' = w := by
  refine (has_c i p g1 g2 n f h m w r).mono ?_
  rintro e w' ⟨rfl, rfl⟩
  exact ⟨by rw [decide_eq_false hi], rfl⟩
/-- the lists that the two rows hold -/
structure RL (n : Nat) (L : List Int) (f h : Nat → Int) : Prop where
  n1 : 1 ≤ n
  n2 : n ≤ 4096
  nd : L.Nodup
  bd : ∀ x, x ∈ L → 0 ≤ x ∧ x < n
  ef : ∀ k : Nat, k < n → f k = nxt L k
  eh : ∀ k : Nat, k < n → h k = prv L k
theorem RL.none {n : Nat} {L : List Int} {f h : Nat → Int} (r : RL n L f h) {i : Int} (hi : ¬ (0 ≤ i ∧ i < n)) : i ∉ L := fun h => hi (r.bd i h)
theorem RL.mem {n : Nat} {L : List Int} {f h : Nat → Int} (r : RL n L f h) {i : Int} (hi : i ∈ L) : ∃ k : Nat, i = k ∧ k < n := by
  obtain ⟨a, b⟩ := r.bd i hi
  exact ⟨i.toNat, by omega, by omega⟩
theorem RL.nxt_bd {n : Nat} {L : List Int} {f h : Nat → Int} (r : RL n L f h) {k : Nat} (hk : (k : Int) ∈ L) : ∃ q : Nat, nxt L k = q ∧ q < n ∧ (q : Int) ∈ L := by
  have := nxt_mem r.nd hk
  obtain ⟨q, e, hq⟩ := r.mem this
  exact ⟨q, e, hq, e ▸ this⟩
theorem RL.prv_bd {n : Nat} {L : List Int} {f h : Nat → Int} (r : RL n L f h) {k : Nat} (hk : (k : Int) ∈ L) : ∃ q : Nat, prv L k = q ∧ q < n ∧ (q : Int) ∈ L := by
  have := prv_mem r.nd hk
  obtain ⟨q, e, hq⟩ := r.mem this
  exact ⟨q, e, hq, e ▸ this⟩
/-- the count is below 4097 -/
theorem RL.len {n : Nat} {L : List Int} {f h : Nat → Int} (r : RL n L f h) : L.length ≤ n := by
  have hs : L.length ≤ (rng n).length := by
    refine r.nd.length_le_of_subset (fun x hx => ?_)
    obtain ⟨a, b⟩ := r.bd x hx
    exact List.mem_map.2 ⟨x.toNat, by simp; omega, by omega⟩
  rwa [rng_len] at hs
theorem RL.in_iff {n : Nat} {L : List Int} {f h : Nat → Int} (r : RL n L f h) {k : Nat} (hk : k < n) : f k = -1 ↔ (k : Int) ∉ L := by
  rw [r.ef k hk]
  constructor
  · intro e hm
    have := (r.bd _ (nxt_mem r.nd hm)).1
    omega
  · exact nxt_out
/-- one is taken out -/
theorem RL.out {n : Nat} {L : List Int} {f h : Nat → Int} (r : RL n L f h) {k a b : Nat} (hk : (k : Int) ∈ L) (ea : prv L k = a) (eb : nxt L k = b) :
    RL n (outL L k) (upd (upd f a b) k (-1)) (upd (upd h b a) k (-1)) := by
  refine ⟨r.n1, r.n2, nd_outL r.nd _, fun x hx => r.bd x ((mem_outL r.nd hk x).1 hx).1, fun j hj => ?_, fun j hj => ?_⟩
  · by_cases c : j = k
    · subst c; rw [upd_same, nxt_out]; exact fun hm => ((mem_outL r.nd hk _).1 hm).2 rfl
    · rw [upd_ne _ _ c]
      have hne : (j : Int) ≠ k := by omega
      by_cases hL : (j : Int) ∈ L
      · rw [nxt_outL r.nd hk hL hne]
        by_cases ca : j = a
        · subst ca
          rw [upd_same, if_pos (by rw [← ea, nxt_prv r.nd hk]), eb]
        · rw [upd_ne _ _ ca, r.ef j hj, if_neg]
          intro e
          have := prv_nxt r.nd hL
          rw [e, ea] at this
          omega
      · rw [nxt_out (fun hm => hL ((mem_outL r.nd hk _).1 hm).1)]
        have ca : j ≠ a := by
          rintro rfl
          exact hL (ea ▸ prv_mem r.nd hk)
        rw [upd_ne _ _ ca, r.ef j hj, nxt_out hL]
  · by_cases c : j = k
    · subst c; rw [upd_same, prv_out]; exact fun hm => ((mem_outL r.nd hk _).1 hm).2 rfl
    · rw [upd_ne _ _ c]
      have hne : (j : Int) ≠ k := by omega
      by_cases hL : (j : Int) ∈ L
      · rw [prv_outL r.nd hk hL hne]
        by_cases ca : j = b
        · subst ca
          rw [upd_same, if_pos (by rw [← eb, prv_nxt r.nd hk]), ea]
        · rw [upd_ne _ _ ca, r.eh j hj, if_neg]
          intro e
          have := nxt_prv r.nd hL
          rw [e, eb] at this
          omega
      · rw [prv_out (fun hm => hL ((mem_outL r.nd hk _).1 hm).1)]
        have ca : j ≠ b := by
          rintro rfl
          exact hL (eb ▸ nxt_mem r.nd hk)
        rw [upd_ne _ _ ca, r.eh j hj, prv_out hL]
/-- one is put in ahead of another -/
theorem RL.put {n : Nat} {L : List Int} {f h : Nat → Int} (r : RL n L f h) {k a b : Nat} (hn : k < n) (hk : (k : Int) ∉ L) (ha : (a : Int) ∈ L) (eb : prv L a = b) :
    RL n (inL L k a) (upd (upd f b k) k a) (upd (upd h k b) a k) := by
  obtain ⟨d1, d2, d3, d4, d5⟩ := inL_facts r.nd hk ha
  obtain ⟨p1, p2⟩ := prv_inL r.nd hk ha
  refine ⟨r.n1, r.n2, d1, fun x hx => ?_, fun j hj => ?_, fun j hj => ?_⟩
  · rcases (mem_inL r.nd hk ha x).1 hx with rfl | hx
    · omega
    · exact r.bd x hx
  · by_cases c : j = k
    · subst c; rw [upd_same, d4]
    · rw [upd_ne _ _ c]
      by_cases hL : (j : Int) ∈ L
      · rw [nxt_inL r.nd hk ha hL]
        by_cases cb : j = b
        · subst cb
          rw [upd_same, if_pos (by rw [← eb, nxt_prv r.nd ha])]
        · rw [upd_ne _ _ cb, r.ef j hj, if_neg]
          intro e
          have := prv_nxt r.nd hL
          rw [e, eb] at this
          omega
      · have hn' : (j : Int) ∉ inL L k a := by
          intro hm
          rcases (mem_inL r.nd hk ha _).1 hm with e | e
          · omega
          · exact hL e
        have cb : j ≠ b := by
          rintro rfl
          exact hL (eb ▸ prv_mem r.nd ha)
        rw [nxt_out hn', upd_ne _ _ cb, r.ef j hj, nxt_out hL]
  · by_cases ca : j = a
    · subst ca; rw [upd_same, p2 _ ha, if_pos rfl]
    · rw [upd_ne _ _ ca]
      by_cases c : j = k
      · subst c; rw [upd_same, p1, eb]
      · rw [upd_ne _ _ c, r.eh j hj]
        by_cases hL : (j : Int) ∈ L
        · rw [p2 _ hL, if_neg (by omega)]
        · have hn' : (j : Int) ∉ inL L k a := by
            intro hm
            rcases (mem_inL r.nd hk ha _).1 hm with e | e
            · omega
            · exact hL e
          rw [prv_out hn', prv_out hL]
/-- the first one is put in -/
theorem RL.first {n : Nat} {f h : Nat → Int} (r : RL n [] f h) {k : Nat} (hn : k < n) (a : Int) : RL n (inL [] k a) (upd f k k) (upd h k k) := by
  have e : inL [] (k : Int) a = [(k : Int)] := by simp [inL]
  rw [e]
  refine ⟨r.n1, r.n2, by simp, fun x hx => by simp at hx; omega, fun j hj => ?_, fun j hj => ?_⟩
  · by_cases c : j = k
    · subst c; rw [upd_same]; simp [nxt]
    · rw [upd_ne _ _ c, r.ef j hj, nxt_out (by simp), nxt_out (by simp; omega)]
  · by_cases c : j = k
    · subst c; rw [upd_same]; simp [prv]
    · rw [upd_ne _ _ c, r.eh j hj, prv_out (by simp), prv_out (by simp; omega)]
/-- a ring as it is made -/
theorem RL.made {n : Nat} {f h : Nat → Int} (h1 : 1 ≤ n) (h2 : n ≤ 4096) (hf : ∀ k, k < n → f k = (((k + 1) % n : Nat) : Int) ∧ h ((k + 1) % n) = (k : Int)) : RL n (rng n) f h := by
  have hg : ∀ k : Nat, k < n → (rng n)[k]? = some (k : Int) := fun k hk => by simp [rng, hk]
  refine ⟨h1, h2, rng_nd n, fun x hx => by have := List.mem_map.1 hx; obtain ⟨y, hy, rfl⟩ := this; simp at hy; omega, fun k hk => ?_, fun k hk => ?_⟩
  · rw [(hf k hk).1, nxt_at (rng_nd n) (hg k hk), rng_len, hg _ (Nat.mod_lt _ (by omega))]; rfl
  · rw [prv_at (rng_nd n) (hg k hk), rng_len]
    have hlt : (k + n - 1) % n < n := Nat.mod_lt _ (by omega)
    have := (hf _ hlt).2
    have e : ((k + n - 1) % n + 1) % n = k := by
      by_cases hk0 : k = 0
      · subst hk0
        rw [Nat.mod_eq_of_lt (by omega : 0 + n - 1 < n), show 0 + n - 1 + 1 = n by omega, Nat.mod_self]
      · rw [show k + n - 1 = (k - 1) + n by omega, Nat.add_mod_right, Nat.mod_eq_of_lt (by omega : k - 1 < n), show k - 1 + 1 = k by omega, Nat.mod_eq_of_lt hk]
    rw [e] at this
    rw [this, hg _ hlt]; rfl
end Wd
end Go.Proofs.Ytdaojohdmidemaa

/- The ring of the package: what its functions return. -/
namespace Go.Proofs.Ytdaojohdmidemaa
set_option maxRecDepth 20000
open Go.RowKit
set_option linter.unusedVariables false
namespace Wd
/-- the ring of the package: at block p, of n places, those of L are in -/
def RA (w : World) (p n : Nat) (L : List Int) (F : Nat → Prop) : Prop := ∃ g1 g2 f h, F = FF p g1 g2 ∧ RB w p g1 g2 n f h (L.length : Int) ∧ RL n L f h
theorem next_k {w : World} {p n : Nat} {L : List Int} {F : Nat → Prop} (i : Int) (hR : RA w p n L F) :
    Calls Try.prog 66 #[.pointer (some ⟨p, 0, none⟩), .int .i64 i] w fun e w' => e = .returned (.int .i64 (nxt L i)) ∧ w' = w := by
  obtain ⟨g1, g2, f, h, rfl, hB, hL⟩ := hR
  by_cases hi : 0 ≤ i ∧ i < n
  · obtain ⟨k, rfl⟩ : ∃ k : Nat, i = k := ⟨i.toNat, by omega⟩
    have hk : k < n := by omega
    rw [← hL.ef k hk]
    have c0 := hB.c0
    have c1 := hB.f1 k hk
    replace hB := Lib.hid hB
    clear hi
    go_enter Try.func66, Try.ntmps66
    go_wp2_with (first | (go_at_call 70; ((with_reducible refine (has_y hB.out hk).mono ?_); rintro e w' ⟨rfl, rfl⟩)))
    go_ret
    exact ⟨rfl, rfl⟩
  · rw [nxt_out (hL.none hi)]
    replace hB := Lib.hid hB
    go_enter Try.func66, Try.ntmps66
    go_wp2_with (first | (go_at_call 70; ((with_reducible refine (has_n hB.out hi).mono ?_); rintro e w' ⟨rfl, rfl⟩)))
    go_ret
    exact ⟨rfl, rfl⟩
theorem prev_k {w : World} {p n : Nat} {L : List Int} {F : Nat → Prop} (i : Int) (hR : RA w p n L F) :
    Calls Try.prog 71 #[.pointer (some ⟨p, 0, none⟩), .int .i64 i] w fun e w' => e = .returned (.int .i64 (prv L i)) ∧ w' = w := by
  obtain ⟨g1, g2, f, h, rfl, hB, hL⟩ := hR
  by_cases hi : 0 ≤ i ∧ i < n
  · obtain ⟨k, rfl⟩ : ∃ k : Nat, i = k := ⟨i.toNat, by omega⟩
    have hk : k < n := by omega
    rw [← hL.eh k hk]
    have c0 := hB.c1
    have c1 := hB.f2 k hk
    replace hB := Lib.hid hB
    clear hi
    go_enter Try.func71, Try.ntmps71
    go_wp2_with (first | (go_at_call 70; ((with_reducible refine (has_y hB.out hk).mono ?_); rintro e w' ⟨rfl, rfl⟩)))
    go_ret
    exact ⟨rfl, rfl⟩
  · rw [prv_out (hL.none hi)]
    replace hB := Lib.hid hB
    go_enter Try.func71, Try.ntmps71
    go_wp2_with (first | (go_at_call 70; ((with_reducible refine (has_n hB.out hi).mono ?_); rintro e w' ⟨rfl, rfl⟩)))
    go_ret
    exact ⟨rfl, rfl⟩
end Wd
end Go.Proofs.Ytdaojohdmidemaa

/- The ring of the package: one is taken out. -/
namespace Go.Proofs.Ytdaojohdmidemaa
set_option maxRecDepth 20000
open Go.RowKit
set_option linter.unusedVariables false
namespace Wd
set_option maxHeartbeats 4000000 in
theorem out_y {w : World} {p n g1 g2 k a b : Nat} {L : List Int} {f h : Nat → Int} (hB : RB w p g1 g2 n f h (L.length : Int)) (hL : RL n L f h) (hk : (k : Int) ∈ L) (hn : k < n) (ea : prv L k = a) (eb : nxt L k = b) (ha : a < n) (hb : b < n) :
    Calls Try.prog 67 #[.pointer (some ⟨p, 0, none⟩), .int .i64 (k : Int)] w fun e w' => e = .returned (.bool true) ∧ RB w' p g1 g2 n (upd (upd f a b) k (-1)) (upd (upd h b a) k (-1)) (L.length - 1 : Int) ∧ Ch (FF p g1 g2) w w' := by
  have hf : f k = b := (hL.ef k hn).trans eb
  have hh : h k = a := (hL.eh k hn).trans ea
  have hne : ((b : Int) == -1) = false := by simp
  have c0 := hB.c0
  have c1 := hB.c1
  have c3 := hB.f1 k hn
  have c4 := hB.f2 k hn
  rw [hf] at c3
  rw [hh] at c4
  have hlen : (L.length : Int) ≤ n := by have := hL.len; omega
  have hlen' : (n : Int) ≤ 4096 := by have := hL.n2; omega
  have hw : IntKind.i64.wrap ((L.length : Int) - 1) = (L.length : Int) - 1 := by rw [IntKind.wrap_i64]; omega
  generalize (L.length : Int) = m at *
  replace hB := Lib.hid hB
  clear hL ea eb hf hh hk hlen hlen'
  go_enter Try.func67, Try.ntmps67
  go_wp2_with (first | (go_at_call 70; ((with_reducible refine (has_y hB.out hn).mono ?_); rintro e w' ⟨rfl, rfl⟩)))
  go_still_tail 15, (by kernel_rfl)
  change wpList _ _ _ _ _ (World.drew _)
  go_wp2_with (first | (go_at_call 63; ((with_reducible refine (link_c a b p g1 g2 n f h m _ hB.out.drew ha hb).mono ?_); rintro e w1 ⟨rfl, hB1, hC1⟩)))
  clear c0 c1 c3 c4 hne
  have c0 := hB1.c0
  have c1 := hB1.c1
  have c2 := hB1.c2
  have z0 := hB1.z0
  obtain ⟨u3, c3⟩ : ∃ u, w1.cell? ⟨g1, k, none⟩ = some u := ⟨_, hB1.f1 k hn⟩
  obtain ⟨u4, c4⟩ : ∃ u, w1.cell? ⟨g2, k, none⟩ = some u := ⟨_, hB1.f2 k hn⟩
  have z3 := hB1.z1 k
  have z4 := hB1.z2 k
  have e1 := hB1.e1
  have e2 := hB1.e2
  have e3 := hB1.e3
  have x1 := Ne.symm e1
  have x2 := Ne.symm e2
  have x3 := Ne.symm e3
  replace hB1 := Lib.hid hB1
  replace hC1 := Lib.hid hC1
  go_region
  go_wp2
  go_ret
  exact ⟨rfl, ((hB1.out.drew.set1 hn (-1)).set2 hn (-1)).set3 (m - 1), ((((Ch.refl _ _).drew.trans hC1.out).drew.set _ (Or.inr (Or.inl rfl)) _).set _ (Or.inr (Or.inr rfl)) _).set _ (Or.inl rfl) _⟩
theorem out_n1 {w : World} {p n : Nat} {L : List Int} {F : Nat → Prop} (i : Int) (hR : RA w p n L F) (hi : i ∉ L) :
    Calls Try.prog 67 #[.pointer (some ⟨p, 0, none⟩), .int .i64 i] w fun e w' => e = .returned (.bool false) ∧ w' = w := by
  obtain ⟨g1, g2, f, h, rfl, hB, hL⟩ := hR
  by_cases hr : 0 ≤ i ∧ i < n
  · obtain ⟨k, rfl⟩ : ∃ k : Nat, i = k := ⟨i.toNat, by omega⟩
    have hk : k < n := by omega
    have hf : f k = -1 := (hL.in_iff hk).2 hi
    have c0 := hB.c0
    have c1 := hB.f1 k hk
    rw [hf] at c1
    replace hB := Lib.hid hB
    clear hr hf hL
    go_enter Try.func67, Try.ntmps67
    go_wp2_with (first | (go_at_call 70; ((with_reducible refine (has_y hB.out hk).mono ?_); rintro e w' ⟨rfl, rfl⟩)))
    go_ret
    exact ⟨rfl, rfl⟩
  · replace hB := Lib.hid hB
    go_enter Try.func67, Try.ntmps67
    go_wp2_with (first | (go_at_call 70; ((with_reducible refine (has_n hB.out hr).mono ?_); rintro e w' ⟨rfl, rfl⟩)))
    go_ret
    exact ⟨rfl, rfl⟩
theorem out_k {w : World} {p n : Nat} {L : List Int} {F : Nat → Prop} (i : Int) (hR : RA w p n L F) :
    Calls Try.prog 67 #[.pointer (some ⟨p, 0, none⟩), .int .i64 i] w fun e w' => e = .returned (.bool (decide (i ∈ L))) ∧ RA w' p n (outL L i) F ∧ Ch F w w' := by
  by_cases hi : i ∈ L
  · obtain ⟨g1, g2, f, h, rfl, hB, hL⟩ := hR
    obtain ⟨k, rfl, hk⟩ := hL.mem hi
    obtain ⟨a, ea, ha, _⟩ := hL.prv_bd hi
    obtain ⟨b, eb, hb, _⟩ := hL.nxt_bd hi
    refine (out_y hB hL hi hk ea eb ha hb).mono ?_
    rintro e w' ⟨rfl, h1, h2⟩
    refine ⟨by rw [decide_eq_true hi], ⟨g1, g2, _, _, rfl, ?_, hL.out hi ea eb⟩, h2⟩
    have := len_outL hL.nd hi
    rw [show ((outL L (k : Int)).length : Int) = (L.length : Int) - 1 by omega]
    exact h1
  · refine (out_n1 i hR hi).mono ?_
    rintro e w' ⟨rfl, rfl⟩
    exact ⟨by rw [decide_eq_false hi], by rw [show outL L i = L by simp [outL, hi]]; exact hR, Ch.refl _ _⟩
end Wd
end Go.Proofs.Ytdaojohdmidemaa

/- The ring of the package: one is put in. -/
namespace Go.Proofs.Ytdaojohdmidemaa
set_option maxRecDepth 20000
open Go.RowKit
set_option linter.unusedVariables false
namespace Wd
set_option maxHeartbeats 4000000 in
/-- ahead of another -/
theorem in_y {w : World} {p n g1 g2 k a b : Nat} {L : List Int} {f h : Nat → Int} (hB : RB w p g1 g2 n f h (L.length : Int)) (hL : RL n L f h) (hk : (k : Int) ∉ L) (hn : k < n) (hm : (a : Int) ∈ L) (eb : prv L a = b) (ha : a < n) (hb : b < n) :
    Calls Try.prog 68 #[.pointer (some ⟨p, 0, none⟩), .int .i64 (k : Int), .int .i64 (a : Int)] w fun e w' => e = .returned (.bool true) ∧ RB w' p g1 g2 n (upd (upd f b k) k a) (upd (upd h k b) a k) (L.length + 1 : Int) ∧ Ch (FF p g1 g2) w w' := by
  have hR : RA w p n L (FF p g1 g2) := ⟨g1, g2, f, h, rfl, hB, hL⟩
  have P0 : Calls Try.prog 71 #[.pointer (some ⟨p, 0, none⟩), .int .i64 (a : Int)] w fun e w' => e = .returned (.int .i64 (b : Int)) ∧ w' = w := eb ▸ prev_k a hR
  have hf : f k = -1 := (hL.in_iff hn).2 hk
  have hh : h a = b := (hL.eh a ha).trans eb
  have n1 : ((b : Int) == -1) = false := by simp
  have n2 : ((a : Int) == -1) = false := by simp
  have n3 : ((b : Int) != -1) = true := by simp
  have c0 := hB.c0
  have c1 := hB.c1
  have c3 := hB.f1 k hn
  have c4 := hB.f2 a ha
  rw [hf] at c3
  rw [hh] at c4
  have hlen : (L.length : Int) ≤ n := by have := hL.len; omega
  have hlen' : (n : Int) ≤ 4096 := by have := hL.n2; omega
  have hw : IntKind.i64.wrap ((L.length : Int) + 1) = (L.length : Int) + 1 := by rw [IntKind.wrap_i64]; omega
  generalize (L.length : Int) = m at *
  replace hB := Lib.hid hB
  replace P0 := Lib.hid P0
  clear hL eb hf hh hk hm hlen hlen' hR
  go_enter Try.func68, Try.ntmps68
  go_wp2_with (first | (go_at_call 70; ((with_reducible refine (has_y hB.out hn).mono ?_); rintro e w' ⟨rfl, rfl⟩)) | (go_at_call 71; ((with_reducible refine P0.out.mono ?_); rintro e w' ⟨rfl, rfl⟩)))
  refine (link_c b k p g1 g2 n f h m _ hB.out hb hn).mono ?_
  rintro e w1 ⟨rfl, hB1, hC1⟩
  replace hB1 := Lib.hid hB1
  replace hC1 := Lib.hid hC1
  go_wp2_with fail
  refine (link_c k a p g1 g2 n _ _ m _ hB1.out hn ha).mono ?_
  rintro e w2 ⟨rfl, hB2, hC2⟩
  have d2 := hB2.c2
  have z2 := hB2.z0
  replace hB2 := Lib.hid hB2
  replace hC2 := Lib.hid hC2
  clear c0 c1 c3 c4
  go_wp2
  go_ret
  exact ⟨rfl, hB2.out.set3 (m + 1), (hC1.out.trans hC2.out).set _ (Or.inl rfl) _⟩
set_option maxHeartbeats 4000000 in
/-- into an empty ring -/
theorem in_0 {w : World} {p n g1 g2 k : Nat} {f h : Nat → Int} (hB : RB w p g1 g2 n f h 0) (hL : RL n [] f h) (hn : k < n) :
    Calls Try.prog 68 #[.pointer (some ⟨p, 0, none⟩), .int .i64 (k : Int), .int .i64 (-1)] w fun e w' => e = .returned (.bool true) ∧ RB w' p g1 g2 n (upd f k k) (upd h k k) 1 ∧ Ch (FF p g1 g2) w w' := by
  have hf : f k = -1 := (hL.in_iff hn).2 (by simp)
  have c0 := hB.c0
  have c2 := hB.c2
  have c3 := hB.f1 k hn
  rw [hf] at c3
  replace hB := Lib.hid hB
  clear hL hf
  go_enter Try.func68, Try.ntmps68
  go_wp2_with (first | (go_at_call 70; ((with_reducible refine (has_y hB.out hn).mono ?_); rintro e w' ⟨rfl, rfl⟩)))
  refine (link_c k k p g1 g2 n f h 0 _ hB.out hn hn).mono ?_
  rintro e w1 ⟨rfl, hB1, hC1⟩
  have d2 := hB1.c2
  have z2 := hB1.z0
  replace hB1 := Lib.hid hB1
  replace hC1 := Lib.hid hC1
  clear c0 c2 c3
  go_wp2
  go_ret
  exact ⟨rfl, hB1.out.set3 1, hC1.out.set _ (Or.inl rfl) _⟩
/-- nothing is put in -/
theorem in_n {w : World} {p n : Nat} {L : List Int} {F : Nat → Prop} (i a : Int) (hR : RA w p n L F) (hi : putOk n L i a = false) :
    Calls Try.prog 68 #[.pointer (some ⟨p, 0, none⟩), .int .i64 i, .int .i64 a] w fun e w' => e = .returned (.bool false) ∧ w' = w := by
  unfold putOk at hi
  have hi := of_decide_eq_false hi
  have P0 := prev_k a hR
  obtain ⟨g1, g2, f, h, rfl, hB, hL⟩ := hR
  by_cases hr : 0 ≤ i ∧ i < n
  · obtain ⟨k, rfl⟩ : ∃ k : Nat, i = k := ⟨i.toNat, by omega⟩
    have hk : k < n := by omega
    by_cases hin : (k : Int) ∈ L
    · have hf : ((f k) == -1) = false := by simpa using fun e => (hL.in_iff hk).1 e hin
      have hf' : ((f k) != -1) = true := by simpa using fun e => (hL.in_iff hk).1 e hin
      have c0 := hB.c0
      have c1 := hB.f1 k hk
      generalize f k = u at c1 hf hf'
      replace hB := Lib.hid hB
      clear hr hL P0 hi
      go_enter Try.func68, Try.ntmps68
      go_wp2_with (first | (go_at_call 70; ((with_reducible refine (has_y hB.out hk).mono ?_); rintro e w' ⟨rfl, rfl⟩)))
      go_ret
      exact ⟨rfl, rfl⟩
    · have hf : f k = -1 := (hL.in_iff hk).2 hin
      have haL : a ∉ L := fun e => hi ⟨by omega, by omega, hin, Or.inl e⟩
      have c0 := hB.c0
      have c1 := hB.f1 k hk
      have c2 := hB.c2
      rw [hf] at c1
      rw [prv_out haL] at P0
      by_cases ha : a = -1
      · have hl : ((L.length : Int) == 0) = false := by
          have : L ≠ [] := fun e => hi ⟨by omega, by omega, hin, Or.inr ⟨ha, e⟩⟩
          simpa using this
        subst ha
        generalize (L.length : Int) = m at *
        replace hB := Lib.hid hB
        replace P0 := Lib.hid P0
        clear hr hL hi hf haL
        go_enter Try.func68, Try.ntmps68
        go_wp2_with (first | (go_at_call 70; ((with_reducible refine (has_y hB.out hk).mono ?_); rintro e w' ⟨rfl, rfl⟩)) | (go_at_call 71; ((with_reducible refine P0.out.mono ?_); rintro e w' ⟨rfl, rfl⟩)))
        go_ret
        exact ⟨rfl, rfl⟩
      · have ha' : (a == -1) = false := by simpa using ha
        replace hB := Lib.hid hB
        replace P0 := Lib.hid P0
        clear hr hL hi hf haL
        go_enter Try.func68, Try.ntmps68
        go_wp2_with (first | (go_at_call 70; ((with_reducible refine (has_y hB.out hk).mono ?_); rintro e w' ⟨rfl, rfl⟩)) | (go_at_call 71; ((with_reducible refine P0.out.mono ?_); rintro e w' ⟨rfl, rfl⟩)))
        go_ret
        exact ⟨rfl, rfl⟩
  · replace hB := Lib.hid hB
    go_enter Try.func68, Try.ntmps68
    go_wp2_with (first | (go_at_call 70; ((with_reducible refine (has_n hB.out hr).mono ?_); rintro e w' ⟨rfl, rfl⟩)))
    go_ret
    exact ⟨rfl, rfl⟩
theorem in_k {w : World} {p n : Nat} {L : List Int} {F : Nat → Prop} (i a : Int) (hR : RA w p n L F) :
    Calls Try.prog 68 #[.pointer (some ⟨p, 0, none⟩), .int .i64 i, .int .i64 a] w fun e w' => e = .returned (.bool (putOk n L i a)) ∧ RA w' p n (if putOk n L i a then inL L i a else L) F ∧ Ch F w w' := by
  by_cases hp : putOk n L i a = true
  · rw [hp, if_pos rfl]
    unfold putOk at hp
    obtain ⟨h0, h1, h2, h3⟩ := of_decide_eq_true hp
    obtain ⟨g1, g2, f, h, rfl, hB, hL⟩ := hR
    obtain ⟨k, rfl⟩ : ∃ k : Nat, i = k := ⟨i.toNat, by omega⟩
    by_cases ha : a ∈ L
    · obtain ⟨q, rfl, hq⟩ := hL.mem ha
      obtain ⟨b, eb, hb, _⟩ := hL.prv_bd ha
      refine (in_y hB hL h2 (by omega) ha eb hq hb).mono ?_
      rintro e w' ⟨rfl, d1, d2⟩
      refine ⟨rfl, ⟨g1, g2, _, _, rfl, ?_, hL.put (by omega) h2 ha eb⟩, d2⟩
      rw [(inL_facts hL.nd h2 ha).2.2.2.2]
      exact d1
    · obtain ⟨rfl, rfl⟩ := h3.resolve_left ha
      refine (in_0 hB hL (by omega)).mono ?_
      rintro e w' ⟨rfl, d1, d2⟩
      exact ⟨rfl, ⟨g1, g2, _, _, rfl, d1, hL.first (by omega) _⟩, d2⟩
  · have hp : putOk n L i a = false := by simpa using hp
    rw [hp, if_neg (by simp)]
    refine (in_n i a hR hp).mono ?_
    rintro e w' ⟨rfl, rfl⟩
    exact ⟨rfl, hR, Ch.refl _ _⟩
end Wd
end Go.Proofs.Ytdaojohdmidemaa
