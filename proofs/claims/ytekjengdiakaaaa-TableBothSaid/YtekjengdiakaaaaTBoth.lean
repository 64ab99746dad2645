/- What the laws ask of a table of identities: TableBoth. -/
import Derived.Test.YtekjengdiakaaaaTInv
import Derived.StillTailTactics
namespace Go.Proofs.Ytekjengdiakaaaa
open Go.RowKit
set_option linter.unusedVariables false
namespace Wd
/-- the state while asks are done -/
structure BothSt (TA : TAt) (w0 wr : World) (p : Nat) (T : Tst) (F : Nat → Prop) : Prop where
  pt : PT TA w0 wr p T F
  inv : Inv T
set_option maxHeartbeats 16000000 in
set_option maxRecDepth 20000 in
theorem both_any {TA : TAt} (K : TableK TA) (ad : Option Addr) (len cap : Nat) (w : World) (HA : Asks w ad len) (hlen : len * 24 ≤ 140737488351232) (a : Int) (a0 : -9223372036854775808 ≤ a) (a1 : a ≤ 9223372036854775807) (b : Int) (b0 : -9223372036854775808 ≤ b) (b1 : b ≤ 9223372036854775807) :
    Calls Try.prog 5 #[.slice ad len cap, .int .i64 a, .int .i64 b] w fun e w' => e = .returned (.bool true) ∧ Below w.heap.size w w' := by
  replace HA := Lib.hid HA
  go_enter Try.func5, Try.ntmps5
  go_wp2_with fail
  refine K.new.mono ?_
  rintro e w1 ⟨p, F0, rfl, hm, hF, hb⟩
  have hs : BothSt TA w w1 p noT F0 := ⟨⟨hm, hb, hF⟩, Inv.no⟩
  clear hm hF hb
  replace hs := Lib.hid hs
  go_wp2
  go_loopw [8] (fun i wr => ∃ k : Nat, k ≤ len ∧ k ≤ 60 ∧ i = .int .i64 k ∧ ∃ T F, Hid (BothSt TA w wr p T F)) (fun i _ => 60 - (intOf i).toNat)
  case atStart => exact ⟨0, by omega, by omega, rfl, _, _, hs⟩
  case round =>
    clear hs
    obtain ⟨k, hk, hk2, rfl, T, F, hst⟩ := hrel
    by_cases hlt : k < len ∧ k < 60
    · obtain ⟨g, off, x, y, z, rfl, ⟨x0, x1⟩, ⟨y0, y1⟩, ⟨z0, z1⟩, cx, cy, cz⟩ := HA.out wr hst.out.pt.bel k hlt.1
      have d1 : decide ((k : Int) < (len : Int)) = true := by simp; omega
      have d2 : decide ((k : Int) < 60) = true := by simp; omega
      have hw : IntKind.i64.wrap ((k : Int) + 1) = (k : Int) + 1 := by rw [IntKind.wrap_i64]; omega
      obtain ⟨m, hm3⟩ : ∃ m, bits .and .i64 x 3 = m := ⟨_, rfl⟩
      by_cases hq : m = 3
      · have q3 : (m == 3) = true := by simp; omega
        clear hq
        go_wp2_with fail
        refine (within_c y 0 9 y0 y1 (by omega) (by omega) (by omega) wr).mono ?_
        rintro e w2 ⟨rfl, hw2⟩
        subst w2
        have hy := within_bd y 0 9 (by omega)
        have hwv : IntKind.i64.wrap (4 + within y 0 9) = 4 + within y 0 9 := by rw [IntKind.wrap_i64]; omega
        generalize within y 0 9 = v at *
        go_wp2_with fail
        refine (K.give (4 + v) hst.out.pt.ta (by omega) (by omega)).mono ?_
        rintro e w2 ⟨F2, rfl, hm, hc, hn⟩
        have hst2 : Hid (BothSt TA w w2 p _ F2) := Lib.hid ⟨hst.out.pt.step hm hc hn, hst.out.inv.give _⟩
        clear hm hc hn hst cx cy cz
        go_wp2
        go_roundw
        case rel => exact ⟨k + 1, by omega, by omega, by go_num, _, _, hst2⟩
        case measure => simp [intOf]; omega
      · have q3 : (m == 3) = false := by simp; omega
        clear hq
        obtain ⟨u, hu, u0, u1⟩ : ∃ u, bits .and .i64 y 3 = u ∧ 0 ≤ u ∧ u ≤ 3 := ⟨_, rfl, by rw [i64_and3]; omega, by rw [i64_and3]; omega⟩
        obtain ⟨v, hv, v0, v1⟩ : ∃ u, bits .and .i64 z 15 = u ∧ 0 ≤ u ∧ u ≤ 15 := ⟨_, rfl, by rw [i64_and15]; omega, by rw [i64_and15]; omega⟩
        have hp : plOk (u, v) := ⟨⟨by show -9223372036854775808 ≤ u; omega, by show u ≤ 9223372036854775807; omega⟩, ⟨by show -9223372036854775808 ≤ v; omega, by show v ≤ 9223372036854775807; omega⟩⟩
        replace hp := Lib.hid hp
        go_wp2
        go_still_tail 14, (by kernel_rfl)
        have hst1 : Hid (BothSt TA w wr.drew p T F) := Lib.hid ⟨hst.out.pt.keep K (Below.refl wr.heap.size wr).drew, hst.out.inv⟩
        change wpList _ _ _ _ _ wr.drew
        generalize wr.drew = w2 at hst1 ⊢
        clear hst cx cy cz
        go_wp2_with fail
        refine (K.take (u, v) hst1.out.pt.ta hp.out).mono ?_
        rintro e w3 ⟨F2, rfl, hm, hc, hn⟩
        have hst2 : Hid (BothSt TA w w3 p _ F2) := Lib.hid ⟨hst1.out.pt.step hm hc hn, hst1.out.inv.take hp.out⟩
        clear hm hc hn hst1
        go_wp2
        go_roundw
        case rel => exact ⟨k + 1, by omega, by omega, by go_num, _, _, hst2⟩
        case measure => simp [intOf]; omega
    · have d : ¬ (k < len) ∨ (k < len ∧ ¬ (k < 60)) := by omega
      have hst' := hst
      clear hlt
      rcases d with q1 | ⟨q1, q2⟩
      · have d1 : decide ((k : Int) < (len : Int)) = false := by simp; omega
        clear hst
        go_wp2_with fail
        refine (K.ids hst'.out.pt.ta).mono ?_
        rintro e w2 ⟨ui, rfl, hu, hb, _⟩
        have hst2 : Hid (BothSt TA w w2 p T F) := Lib.hid ⟨hst'.out.pt.keep K hb, hst'.out.inv⟩
        have hl := idsT_len T
        clear hst' hb
        by_cases h0 : idsT T = []
        · obtain ⟨a', c', hv⟩ := hu.form
          rw [h0] at hv
          have hv : ui = .slice a' 0 c' := hv
          have h4 : hasT T 4 = false := by
            cases hh : hasT T 4
            · rfl
            · obtain ⟨k4, e4, hk4, _, q, hq⟩ := hasT_some hh
              have := mem_idsT hk4 hq
              rw [h0] at this
              cases this
          have hsB : swapB T 4 5 = false := by unfold swapB; rw [h4]; rfl
          subst hv
          clear hu h0 h4
          go_wp2
          go_loopw [78] (fun i wr => i = .int .i64 0 ∧ Hid (Below w2.heap.size w2 wr)) (fun i _ => 0)
          case atStart => exact ⟨rfl, Lib.hid (Below.refl _ _)⟩
          case round =>
            obtain ⟨rfl, hbr⟩ := hrel
            go_wp2_with fail
            have hst3 : Hid (BothSt TA w wr p T F) := Lib.hid ⟨hst2.out.pt.keep K hbr.out, hst2.out.inv⟩
            clear hst2 hbr
            have P := K.swap 4 5 hst3.out.pt.ta (by omega) (by omega) (by omega) (by omega)
            rw [hsB] at P
            refine P.mono ?_
            clear P
            rintro e w3 ⟨F3, rfl, hm, hc, hn⟩
            have hst4 := Lib.hid (hst3.out.pt.step hm hc hn)
            clear hst3 hm hc hn
            go_wp2_with fail
            refine (known_any K w3).mono ?_
            rintro e w4 ⟨rfl, hbk⟩
            have hbl := Lib.hid (hst4.out.bel.trans (hbk.mono hst4.out.bel.size))
            clear hst4 hbk
            go_wp2
            go_ret
            exact ⟨rfl, hbl.out⟩
        · obtain ⟨n, hn⟩ : ∃ n, n = (idsT T).length := ⟨_, rfl⟩
          have hn1 : 1 ≤ n := by rw [hn]; exact List.length_pos_iff.2 h0
          rcases hu.cases with ⟨_, h1⟩ | ⟨g', cap', hv, hle, hcp, hg, hown⟩
          · exact absurd h1 h0
          rw [← hn] at hv hl
          clear h0
          have R1 : ∀ wr, Below w2.heap.size w2 wr → ∀ (k : Nat) (x : Int), (idsT T)[k]? = some x → wr.cell? ⟨g', k, none⟩ = some (.int .i64 x) := fun wr hb k x hx => cell_up hb (row_cell hown hx)
          have R2 : ∀ k, k < n → ∃ (x : Nat) (q : Pl), (idsT T)[k]? = some (x : Int) ∧ x < 1024 ∧ T x = some q := by
            intro k hk
            have hx : (idsT T)[k]? = some (idsT T)[k] := List.getElem?_eq_getElem (by omega)
            obtain ⟨x, e, hx1, q, hq⟩ := idsT_mem (List.mem_of_getElem? hx)
            exact ⟨x, q, by rw [hx, e], hx1, hq⟩
          subst hv
          replace R1 := Lib.hid R1
          replace R2 := Lib.hid R2
          replace hn := Lib.hid hn
          clear hown hu hle hg
          go_wp2
          go_loopw [78] (fun i wr => ∃ k : Nat, k ≤ n ∧ i = .int .i64 k ∧ Hid (Below w2.heap.size w2 wr)) (fun i _ => n - (intOf i).toNat)
          case atStart => exact ⟨0, by omega, rfl, Lib.hid (Below.refl _ _)⟩
          case round =>
            obtain ⟨k, hk, rfl, hbr⟩ := hrel
            by_cases hlt : k < n
            · have d1 : decide ((k : Int) < (n : Int)) = true := by simp; omega
              have hw : IntKind.i64.wrap ((k : Int) + 1) = (k : Int) + 1 := by rw [IntKind.wrap_i64]; omega
              obtain ⟨x, ⟨qa, qc⟩, hx, hx1, hq⟩ := R2.out k hlt
              have cx := R1.out wr hbr.out k x hx
              have hst3 : Hid (BothSt TA w wr p T F) := Lib.hid ⟨hst2.out.pt.keep K hbr.out, hst2.out.inv⟩
              have eO := ofR_at hst2.out.inv hq
              have pO := (hst2.out.inv.bd x _ hq).2.2
              replace hx := Lib.hid hx
              replace hq := Lib.hid hq
              replace eO := Lib.hid eO
              replace pO := Lib.hid pO
              go_wp2_with fail
              have P := K.at' (x : Int) hst3.out.pt.ta (by omega) (by omega)
              rw [(atP_at hq.out hx1).1, (atP_at hq.out hx1).2] at P
              refine P.mono ?_
              clear P
              rintro e w3 ⟨he, hg⟩
              replace he : e = .returned (.tuple #[.agg #[.int .i64 qa, .int .i64 qc], .bool true]) := he
              subst he
              have b3 := hbr.out.trans (hg.mono hbr.out.size)
              have b4 : Below w2.heap.size w2 (w3.alloc (.cells #[.int .i64 qa, .int .i64 qc] 30)) := b3.alloc b3.size _
              have hst4 : Hid (BothSt TA w (w3.alloc (.cells #[.int .i64 qa, .int .i64 qc] 30)) p T F) := Lib.hid ⟨hst2.out.pt.keep K b4, hst2.out.inv⟩
              replace b4 := Lib.hid b4
              clear hg b3 hbr hst3 cx
              go_wp2_with fail
              have P := K.of (qa, qc) hst4.out.pt.ta pO.out
              have eI : ofI T (qa, qc) = (x : Int) := by unfold ofI; rw [eO.out]; rfl
              rw [eI, eO.out] at P
              refine P.mono ?_
              clear P eI
              rintro e w5 ⟨he, hg⟩
              replace he : e = .returned (.tuple #[.int .i64 (x : Int), .bool true]) := he
              subst he
              have b5 := Lib.hid (b4.out.trans (hg.mono b4.out.size))
              clear hg b4 hst4
              rcases Nat.eq_zero_or_pos k with h0 | h0
              · subst h0
                go_wp2
                go_roundw
                case rel => exact ⟨0 + 1, by omega, by go_num, b5⟩
                case measure => simp [intOf]; omega
              · have d3 : decide ((k : Int) > 0) = true := by simp; omega
                have d4 : decide (0 < (k : Int)) = true := by simp; omega
                obtain ⟨y, _, hy, _, _⟩ := R2.out (k - 1) (by omega)
                have hyx := idsT_lt (show k - 1 < k by omega) hy hx.out
                have cy := R1.out w5 b5.out (k - 1) y hy
                have wk : IntKind.i64.wrap ((k : Int) - 1) = ((k - 1 : Nat) : Int) := by rw [IntKind.wrap_i64]; omega
                have d5 : decide ((y : Int) ≥ (x : Int)) = false := by simp; omega
                have d6 : decide ((x : Int) ≤ (y : Int)) = false := by simp; omega
                have k1 : ((k - 1 : Nat) : Int) < (n : Int) := by omega
                clear hy
                generalize k - 1 = k' at *
                go_wp2
                go_roundw
                case rel => exact ⟨k + 1, by omega, by go_num, b5⟩
                case measure => simp [intOf]; omega
            · have e : k = n := by omega
              subst e
              have hn0 : ((k : Int) == 0) = false := by simp; omega
              have wn : IntKind.i64.wrap ((k : Int) - 1) = (k : Int) - 1 := by rw [IntKind.wrap_i64]; omega
              have ha := within_bd a 0 ((k : Int) - 1) (by omega)
              have hb2 := within_bd b 0 ((k : Int) - 1) (by omega)
              have Wa := fun w => within_c a 0 ((k : Int) - 1) a0 a1 (by omega) (by omega) (by omega) w
              have Wb := fun w => within_c b 0 ((k : Int) - 1) b0 b1 (by omega) (by omega) (by omega) w
              obtain ⟨i, hi⟩ : ∃ i : Nat, within a 0 ((k : Int) - 1) = i := ⟨(within a 0 ((k : Int) - 1)).toNat, by omega⟩
              obtain ⟨j, hj⟩ : ∃ i : Nat, within b 0 ((k : Int) - 1) = i := ⟨(within b 0 ((k : Int) - 1)).toNat, by omega⟩
              rw [hi] at ha Wa
              rw [hj] at hb2 Wb
              clear hi hj
              obtain ⟨x, ⟨pa, pc⟩, hx, hx1, hTx⟩ := R2.out i (by omega)
              obtain ⟨y, ⟨qa, qc⟩, hy, hy1, hTy⟩ := R2.out j (by omega)
              have hik : (i : Int) < (k : Int) := by omega
              have hjk : (j : Int) < (k : Int) := by omega
              have cx := R1.out wr.drew hbr.out.drew i x hx
              have cy := R1.out wr.drew hbr.out.drew j y hy
              have hb : Hid (PB TA w wr.drew p T F []) := Lib.hid (PB.of ((hst2.out.pt.keep K hbr.out).keep K (Below.refl wr.heap.size wr).drew))
              have S1 := swapT_at hTx hTy hx1 hy1
              have Tx1 : updT (updT T x (some (qa, qc))) y (some (pa, pc)) x = some (qa, qc) := swap_x hTx hTy
              have Ty1 : updT (updT T x (some (qa, qc))) y (some (pa, pc)) y = some (pa, pc) := swap_y
              generalize hT1 : updT (updT T x (some (qa, qc))) y (some (pa, pc)) = T1 at S1 Tx1 Ty1
              have S2 := swapT_at Ty1 Tx1 hy1 hx1
              have Tx2 : updT (updT T1 y (some (qa, qc))) x (some (pa, pc)) x = some (pa, pc) := swap_y
              generalize hT2 : updT (updT T1 y (some (qa, qc))) x (some (pa, pc)) = T2 at S2 Tx2
              replace hTx := Lib.hid hTx
              replace hTy := Lib.hid hTy
              replace Tx1 := Lib.hid Tx1
              replace Ty1 := Lib.hid Ty1
              replace Tx2 := Lib.hid Tx2
              replace S1 := Lib.hid S1
              replace S2 := Lib.hid S2
              replace Wa := Lib.hid Wa
              replace Wb := Lib.hid Wb
              clear hT1 hT2 hst2 hbr hx hy R1 R2 ha hb2
              go_wp2
              refine wp_region_still_lit (by kernel_rfl) (by kernel_rfl) ?_
              iterate 5 still_step
              still_call (Wa.out _)
              iterate 7 still_step
              still_call (Wb.out _)
              iterate 4 still_step
              refine wpStill_nil ?_
              change Exit.then _ _ Exit.normal _ wr.drew
              generalize wr.drew = w4 at *
              clear cx cy Wa Wb
              go_wp2_with fail
              have P := K.at' (x : Int) hb.out.pt.ta (by omega) (by omega)
              rw [(atP_at hTx.out hx1).1, (atP_at hTx.out hx1).2] at P
              refine P.mono ?_
              clear P
              rintro e w5 ⟨he, hg⟩
              replace he : e = .returned (.tuple #[.agg #[.int .i64 pa, .int .i64 pc], .bool true]) := he
              subst he
              replace hb := Lib.hid (PB.made K (hb.out.keep K hg) (pa, pc) 30)
              clear hg
              go_wp2_with fail
              have P := K.at' (y : Int) hb.out.pt.ta (by omega) (by omega)
              rw [(atP_at hTy.out hy1).1, (atP_at hTy.out hy1).2] at P
              refine P.mono ?_
              clear P
              rintro e w6 ⟨he, hg⟩
              replace he : e = .returned (.tuple #[.agg #[.int .i64 qa, .int .i64 qc], .bool true]) := he
              subst he
              replace hb := Lib.hid (PB.made K (hb.out.keep K hg) (qa, qc) 30)
              clear hg
              go_wp2_with fail
              have P := K.swap (x : Int) (y : Int) hb.out.pt.ta (by omega) (by omega) (by omega) (by omega)
              rw [S1.out.1, S1.out.2] at P
              refine P.mono ?_
              clear P
              rintro e w7 ⟨Fw7, rfl, hm, hc, hn⟩
              replace hb := Lib.hid (hb.out.step hm hc hn)
              clear hm hc hn
              go_wp2_with fail
              have P := K.at' (x : Int) hb.out.pt.ta (by omega) (by omega)
              rw [(atP_at Tx1.out hx1).1, (atP_at Tx1.out hx1).2] at P
              refine P.mono ?_
              clear P
              rintro e w8 ⟨he, hg⟩
              replace he : e = .returned (.tuple #[.agg #[.int .i64 qa, .int .i64 qc], .bool true]) := he
              subst he
              replace hb := Lib.hid (PB.made K (hb.out.keep K hg) (qa, qc) 30)
              clear hg
              go_wp2_with fail
              have P := K.at' (y : Int) hb.out.pt.ta (by omega) (by omega)
              rw [(atP_at Ty1.out hy1).1, (atP_at Ty1.out hy1).2] at P
              refine P.mono ?_
              clear P
              rintro e w9 ⟨he, hg⟩
              replace he : e = .returned (.tuple #[.agg #[.int .i64 pa, .int .i64 pc], .bool true]) := he
              subst he
              replace hb := Lib.hid (PB.made K (hb.out.keep K hg) (pa, pc) 30)
              clear hg
              go_wp2_with fail
              have P := K.swap (y : Int) (x : Int) hb.out.pt.ta (by omega) (by omega) (by omega) (by omega)
              rw [S2.out.1, S2.out.2] at P
              refine P.mono ?_
              clear P
              rintro e w10 ⟨Fw10, rfl, hm, hc, hn⟩
              replace hb := Lib.hid (hb.out.step hm hc hn)
              clear hm hc hn
              go_wp2_with fail
              have P := K.at' (x : Int) hb.out.pt.ta (by omega) (by omega)
              rw [(atP_at Tx2.out hx1).1, (atP_at Tx2.out hx1).2] at P
              refine P.mono ?_
              clear P
              rintro e w11 ⟨he, hg⟩
              replace he : e = .returned (.tuple #[.agg #[.int .i64 pa, .int .i64 pc], .bool true]) := he
              subst he
              replace hb := Lib.hid (PB.made K (hb.out.keep K hg) (pa, pc) 30)
              clear hg

              have f1 := hb.out.bx (w11.heap.size, (pa, pc)) (by simp)
              have f2 := hb.out.bx (w9.heap.size, (pa, pc)) (by simp)
              have f3 := hb.out.bx (w8.heap.size, (qa, qc)) (by simp)
              have f4 := hb.out.bx (w6.heap.size, (qa, qc)) (by simp)
              have f5 := hb.out.bx (w5.heap.size, (pa, pc)) (by simp)
              dsimp only at f1 f2 f3 f4 f5
              obtain ⟨f1a, f1b, _⟩ := f1
              obtain ⟨f2a, f2b, _⟩ := f2
              obtain ⟨f3a, f3b, _⟩ := f3
              obtain ⟨f4a, f4b, _⟩ := f4
              obtain ⟨f5a, f5b, _⟩ := f5
              go_wp2_with fail
              refine (known_any K _).mono ?_
              rintro e w12 ⟨rfl, hbk⟩
              have hbl := Lib.hid (hb.out.pt.bel.trans (hbk.mono hb.out.pt.bel.size))
              clear hb hbk f1a f1b f2a f2b f3a f3b f4a f4b f5a f5b
              go_wp2
              go_ret
              exact ⟨rfl, hbl.out⟩
      · have d1 : decide ((k : Int) < (len : Int)) = true := by simp; omega
        have d2 : decide ((k : Int) < 60) = false := by simp; omega
        clear hst
        go_wp2_with fail
        refine (K.ids hst'.out.pt.ta).mono ?_
        rintro e w2 ⟨ui, rfl, hu, hb, _⟩
        have hst2 : Hid (BothSt TA w w2 p T F) := Lib.hid ⟨hst'.out.pt.keep K hb, hst'.out.inv⟩
        have hl := idsT_len T
        clear hst' hb
        by_cases h0 : idsT T = []
        · obtain ⟨a', c', hv⟩ := hu.form
          rw [h0] at hv
          have hv : ui = .slice a' 0 c' := hv
          have h4 : hasT T 4 = false := by
            cases hh : hasT T 4
            · rfl
            · obtain ⟨k4, e4, hk4, _, q, hq⟩ := hasT_some hh
              have := mem_idsT hk4 hq
              rw [h0] at this
              cases this
          have hsB : swapB T 4 5 = false := by unfold swapB; rw [h4]; rfl
          subst hv
          clear hu h0 h4
          go_wp2
          go_loopw [78] (fun i wr => i = .int .i64 0 ∧ Hid (Below w2.heap.size w2 wr)) (fun i _ => 0)
          case atStart => exact ⟨rfl, Lib.hid (Below.refl _ _)⟩
          case round =>
            obtain ⟨rfl, hbr⟩ := hrel
            go_wp2_with fail
            have hst3 : Hid (BothSt TA w wr p T F) := Lib.hid ⟨hst2.out.pt.keep K hbr.out, hst2.out.inv⟩
            clear hst2 hbr
            have P := K.swap 4 5 hst3.out.pt.ta (by omega) (by omega) (by omega) (by omega)
            rw [hsB] at P
            refine P.mono ?_
            clear P
            rintro e w3 ⟨F3, rfl, hm, hc, hn⟩
            have hst4 := Lib.hid (hst3.out.pt.step hm hc hn)
            clear hst3 hm hc hn
            go_wp2_with fail
            refine (known_any K w3).mono ?_
            rintro e w4 ⟨rfl, hbk⟩
            have hbl := Lib.hid (hst4.out.bel.trans (hbk.mono hst4.out.bel.size))
            clear hst4 hbk
            go_wp2
            go_ret
            exact ⟨rfl, hbl.out⟩
        · obtain ⟨n, hn⟩ : ∃ n, n = (idsT T).length := ⟨_, rfl⟩
          have hn1 : 1 ≤ n := by rw [hn]; exact List.length_pos_iff.2 h0
          rcases hu.cases with ⟨_, h1⟩ | ⟨g', cap', hv, hle, hcp, hg, hown⟩
          · exact absurd h1 h0
          rw [← hn] at hv hl
          clear h0
          have R1 : ∀ wr, Below w2.heap.size w2 wr → ∀ (k : Nat) (x : Int), (idsT T)[k]? = some x → wr.cell? ⟨g', k, none⟩ = some (.int .i64 x) := fun wr hb k x hx => cell_up hb (row_cell hown hx)
          have R2 : ∀ k, k < n → ∃ (x : Nat) (q : Pl), (idsT T)[k]? = some (x : Int) ∧ x < 1024 ∧ T x = some q := by
            intro k hk
            have hx : (idsT T)[k]? = some (idsT T)[k] := List.getElem?_eq_getElem (by omega)
            obtain ⟨x, e, hx1, q, hq⟩ := idsT_mem (List.mem_of_getElem? hx)
            exact ⟨x, q, by rw [hx, e], hx1, hq⟩
          subst hv
          replace R1 := Lib.hid R1
          replace R2 := Lib.hid R2
          replace hn := Lib.hid hn
          clear hown hu hle hg
          go_wp2
          go_loopw [78] (fun i wr => ∃ k : Nat, k ≤ n ∧ i = .int .i64 k ∧ Hid (Below w2.heap.size w2 wr)) (fun i _ => n - (intOf i).toNat)
          case atStart => exact ⟨0, by omega, rfl, Lib.hid (Below.refl _ _)⟩
          case round =>
            obtain ⟨k, hk, rfl, hbr⟩ := hrel
            by_cases hlt : k < n
            · have d1 : decide ((k : Int) < (n : Int)) = true := by simp; omega
              have hw : IntKind.i64.wrap ((k : Int) + 1) = (k : Int) + 1 := by rw [IntKind.wrap_i64]; omega
              obtain ⟨x, ⟨qa, qc⟩, hx, hx1, hq⟩ := R2.out k hlt
              have cx := R1.out wr hbr.out k x hx
              have hst3 : Hid (BothSt TA w wr p T F) := Lib.hid ⟨hst2.out.pt.keep K hbr.out, hst2.out.inv⟩
              have eO := ofR_at hst2.out.inv hq
              have pO := (hst2.out.inv.bd x _ hq).2.2
              replace hx := Lib.hid hx
              replace hq := Lib.hid hq
              replace eO := Lib.hid eO
              replace pO := Lib.hid pO
              go_wp2_with fail
              have P := K.at' (x : Int) hst3.out.pt.ta (by omega) (by omega)
              rw [(atP_at hq.out hx1).1, (atP_at hq.out hx1).2] at P
              refine P.mono ?_
              clear P
              rintro e w3 ⟨he, hg⟩
              replace he : e = .returned (.tuple #[.agg #[.int .i64 qa, .int .i64 qc], .bool true]) := he
              subst he
              have b3 := hbr.out.trans (hg.mono hbr.out.size)
              have b4 : Below w2.heap.size w2 (w3.alloc (.cells #[.int .i64 qa, .int .i64 qc] 30)) := b3.alloc b3.size _
              have hst4 : Hid (BothSt TA w (w3.alloc (.cells #[.int .i64 qa, .int .i64 qc] 30)) p T F) := Lib.hid ⟨hst2.out.pt.keep K b4, hst2.out.inv⟩
              replace b4 := Lib.hid b4
              clear hg b3 hbr hst3 cx
              go_wp2_with fail
              have P := K.of (qa, qc) hst4.out.pt.ta pO.out
              have eI : ofI T (qa, qc) = (x : Int) := by unfold ofI; rw [eO.out]; rfl
              rw [eI, eO.out] at P
              refine P.mono ?_
              clear P eI
              rintro e w5 ⟨he, hg⟩
              replace he : e = .returned (.tuple #[.int .i64 (x : Int), .bool true]) := he
              subst he
              have b5 := Lib.hid (b4.out.trans (hg.mono b4.out.size))
              clear hg b4 hst4
              rcases Nat.eq_zero_or_pos k with h0 | h0
              · subst h0
                go_wp2
                go_roundw
                case rel => exact ⟨0 + 1, by omega, by go_num, b5⟩
                case measure => simp [intOf]; omega
              · have d3 : decide ((k : Int) > 0) = true := by simp; omega
                have d4 : decide (0 < (k : Int)) = true := by simp; omega
                obtain ⟨y, _, hy, _, _⟩ := R2.out (k - 1) (by omega)
                have hyx := idsT_lt (show k - 1 < k by omega) hy hx.out
                have cy := R1.out w5 b5.out (k - 1) y hy
                have wk : IntKind.i64.wrap ((k : Int) - 1) = ((k - 1 : Nat) : Int) := by rw [IntKind.wrap_i64]; omega
                have d5 : decide ((y : Int) ≥ (x : Int)) = false := by simp; omega
                have d6 : decide ((x : Int) ≤ (y : Int)) = false := by simp; omega
                have k1 : ((k - 1 : Nat) : Int) < (n : Int) := by omega
                clear hy
                generalize k - 1 = k' at *
                go_wp2
                go_roundw
                case rel => exact ⟨k + 1, by omega, by go_num, b5⟩
                case measure => simp [intOf]; omega
            · have e : k = n := by omega
              subst e
              have hn0 : ((k : Int) == 0) = false := by simp; omega
              have wn : IntKind.i64.wrap ((k : Int) - 1) = (k : Int) - 1 := by rw [IntKind.wrap_i64]; omega
              have ha := within_bd a 0 ((k : Int) - 1) (by omega)
              have hb2 := within_bd b 0 ((k : Int) - 1) (by omega)
              have Wa := fun w => within_c a 0 ((k : Int) - 1) a0 a1 (by omega) (by omega) (by omega) w
              have Wb := fun w => within_c b 0 ((k : Int) - 1) b0 b1 (by omega) (by omega) (by omega) w
              obtain ⟨i, hi⟩ : ∃ i : Nat, within a 0 ((k : Int) - 1) = i := ⟨(within a 0 ((k : Int) - 1)).toNat, by omega⟩
              obtain ⟨j, hj⟩ : ∃ i : Nat, within b 0 ((k : Int) - 1) = i := ⟨(within b 0 ((k : Int) - 1)).toNat, by omega⟩
              rw [hi] at ha Wa
              rw [hj] at hb2 Wb
              clear hi hj
              obtain ⟨x, ⟨pa, pc⟩, hx, hx1, hTx⟩ := R2.out i (by omega)
              obtain ⟨y, ⟨qa, qc⟩, hy, hy1, hTy⟩ := R2.out j (by omega)
              have hik : (i : Int) < (k : Int) := by omega
              have hjk : (j : Int) < (k : Int) := by omega
              have cx := R1.out wr.drew hbr.out.drew i x hx
              have cy := R1.out wr.drew hbr.out.drew j y hy
              have hb : Hid (PB TA w wr.drew p T F []) := Lib.hid (PB.of ((hst2.out.pt.keep K hbr.out).keep K (Below.refl wr.heap.size wr).drew))
              have S1 := swapT_at hTx hTy hx1 hy1
              have Tx1 : updT (updT T x (some (qa, qc))) y (some (pa, pc)) x = some (qa, qc) := swap_x hTx hTy
              have Ty1 : updT (updT T x (some (qa, qc))) y (some (pa, pc)) y = some (pa, pc) := swap_y
              generalize hT1 : updT (updT T x (some (qa, qc))) y (some (pa, pc)) = T1 at S1 Tx1 Ty1
              have S2 := swapT_at Ty1 Tx1 hy1 hx1
              have Tx2 : updT (updT T1 y (some (qa, qc))) x (some (pa, pc)) x = some (pa, pc) := swap_y
              generalize hT2 : updT (updT T1 y (some (qa, qc))) x (some (pa, pc)) = T2 at S2 Tx2
              replace hTx := Lib.hid hTx
              replace hTy := Lib.hid hTy
              replace Tx1 := Lib.hid Tx1
              replace Ty1 := Lib.hid Ty1
              replace Tx2 := Lib.hid Tx2
              replace S1 := Lib.hid S1
              replace S2 := Lib.hid S2
              replace Wa := Lib.hid Wa
              replace Wb := Lib.hid Wb
              clear hT1 hT2 hst2 hbr hx hy R1 R2 ha hb2
              go_wp2
              refine wp_region_still_lit (by kernel_rfl) (by kernel_rfl) ?_
              iterate 5 still_step
              still_call (Wa.out _)
              iterate 7 still_step
              still_call (Wb.out _)
              iterate 4 still_step
              refine wpStill_nil ?_
              change Exit.then _ _ Exit.normal _ wr.drew
              generalize wr.drew = w4 at *
              clear cx cy Wa Wb
              go_wp2_with fail
              have P := K.at' (x : Int) hb.out.pt.ta (by omega) (by omega)
              rw [(atP_at hTx.out hx1).1, (atP_at hTx.out hx1).2] at P
              refine P.mono ?_
              clear P
              rintro e w5 ⟨he, hg⟩
              replace he : e = .returned (.tuple #[.agg #[.int .i64 pa, .int .i64 pc], .bool true]) := he
              subst he
              replace hb := Lib.hid (PB.made K (hb.out.keep K hg) (pa, pc) 30)
              clear hg
              go_wp2_with fail
              have P := K.at' (y : Int) hb.out.pt.ta (by omega) (by omega)
              rw [(atP_at hTy.out hy1).1, (atP_at hTy.out hy1).2] at P
              refine P.mono ?_
              clear P
              rintro e w6 ⟨he, hg⟩
              replace he : e = .returned (.tuple #[.agg #[.int .i64 qa, .int .i64 qc], .bool true]) := he
              subst he
              replace hb := Lib.hid (PB.made K (hb.out.keep K hg) (qa, qc) 30)
              clear hg
              go_wp2_with fail
              have P := K.swap (x : Int) (y : Int) hb.out.pt.ta (by omega) (by omega) (by omega) (by omega)
              rw [S1.out.1, S1.out.2] at P
              refine P.mono ?_
              clear P
              rintro e w7 ⟨Fw7, rfl, hm, hc, hn⟩
              replace hb := Lib.hid (hb.out.step hm hc hn)
              clear hm hc hn
              go_wp2_with fail
              have P := K.at' (x : Int) hb.out.pt.ta (by omega) (by omega)
              rw [(atP_at Tx1.out hx1).1, (atP_at Tx1.out hx1).2] at P
              refine P.mono ?_
              clear P
              rintro e w8 ⟨he, hg⟩
              replace he : e = .returned (.tuple #[.agg #[.int .i64 qa, .int .i64 qc], .bool true]) := he
              subst he
              replace hb := Lib.hid (PB.made K (hb.out.keep K hg) (qa, qc) 30)
              clear hg
              go_wp2_with fail
              have P := K.at' (y : Int) hb.out.pt.ta (by omega) (by omega)
              rw [(atP_at Ty1.out hy1).1, (atP_at Ty1.out hy1).2] at P
              refine P.mono ?_
              clear P
              rintro e w9 ⟨he, hg⟩
              replace he : e = .returned (.tuple #[.agg #[.int .i64 pa, .int .i64 pc], .bool true]) := he
              subst he
              replace hb := Lib.hid (PB.made K (hb.out.keep K hg) (pa, pc) 30)
              clear hg
              go_wp2_with fail
              have P := K.swap (y : Int) (x : Int) hb.out.pt.ta (by omega) (by omega) (by omega) (by omega)
              rw [S2.out.1, S2.out.2] at P
              refine P.mono ?_
              clear P
              rintro e w10 ⟨Fw10, rfl, hm, hc, hn⟩
              replace hb := Lib.hid (hb.out.step hm hc hn)
              clear hm hc hn
              go_wp2_with fail
              have P := K.at' (x : Int) hb.out.pt.ta (by omega) (by omega)
              rw [(atP_at Tx2.out hx1).1, (atP_at Tx2.out hx1).2] at P
              refine P.mono ?_
              clear P
              rintro e w11 ⟨he, hg⟩
              replace he : e = .returned (.tuple #[.agg #[.int .i64 pa, .int .i64 pc], .bool true]) := he
              subst he
              replace hb := Lib.hid (PB.made K (hb.out.keep K hg) (pa, pc) 30)
              clear hg

              have f1 := hb.out.bx (w11.heap.size, (pa, pc)) (by simp)
              have f2 := hb.out.bx (w9.heap.size, (pa, pc)) (by simp)
              have f3 := hb.out.bx (w8.heap.size, (qa, qc)) (by simp)
              have f4 := hb.out.bx (w6.heap.size, (qa, qc)) (by simp)
              have f5 := hb.out.bx (w5.heap.size, (pa, pc)) (by simp)
              dsimp only at f1 f2 f3 f4 f5
              obtain ⟨f1a, f1b, _⟩ := f1
              obtain ⟨f2a, f2b, _⟩ := f2
              obtain ⟨f3a, f3b, _⟩ := f3
              obtain ⟨f4a, f4b, _⟩ := f4
              obtain ⟨f5a, f5b, _⟩ := f5
              go_wp2_with fail
              refine (known_any K _).mono ?_
              rintro e w12 ⟨rfl, hbk⟩
              have hbl := Lib.hid (hb.out.pt.bel.trans (hbk.mono hb.out.pt.bel.size))
              clear hb hbk f1a f1b f2a f2b f3a f3b f4a f4b f5a f5b
              go_wp2
              go_ret
              exact ⟨rfl, hbl.out⟩
end Wd
end Go.Proofs.Ytekjengdiakaaaa
