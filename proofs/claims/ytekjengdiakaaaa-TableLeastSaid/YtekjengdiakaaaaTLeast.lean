/- What the laws ask of a table of identities: TableLeast. -/
import Derived.Test.YtekjengdiakaaaaTLeast0
import Derived.Deep.RegionHeld3
namespace Go.Proofs.Ytekjengdiakaaaa
open Go.RowKit Go.Maps
set_option linter.unusedVariables false
namespace Wd
set_option maxHeartbeats 16000000 in
set_option maxRecDepth 20000 in
theorem least_any {TA : TAt} (K : TableK TA) (n : Int) (j0 : -9223372036854775808 ≤ n) (j1 : n ≤ 9223372036854775807) (ad : Option Addr) (len cap : Nat) (w : World) (HA : Nums w ad len) (hlen : len ≤ maxLen) :
    Calls Try.prog 6 #[.int .i64 n, .slice ad len cap] w fun e w' => e = .returned (.bool true) ∧ Below w.heap.size w w' := by
  replace HA := Lib.hid HA
  obtain ⟨b0, b1⟩ := within_bd n 0 40 (by omega)
  go_enter Try.func6, Try.ntmps6
  go_wp2_with fail
  refine K.new.mono ?_
  rintro e w1 ⟨p, F0, rfl, hm, hF, hb⟩
  have hs : PT TA w w1 p (TS 0 [] 0) F0 := by rw [TS_zero]; exact ⟨hm, hb, hF⟩
  clear hm hF hb
  replace hs := Lib.hid hs
  go_wp2_with fail
  refine (within_c n 0 40 j0 j1 (by omega) (by omega) (by omega) w1).mono ?_
  rintro e w2 ⟨rfl, hw2⟩
  subst w2
  obtain ⟨k, hk, k1, k2⟩ : ∃ m : Nat, 1 + within n 0 40 = m ∧ 1 ≤ m ∧ m ≤ 41 := ⟨(1 + within n 0 40).toNat, by omega, by omega, by omega⟩
  have hwk : IntKind.i64.wrap (1 + within n 0 40) = (k : Int) := by rw [IntKind.wrap_i64]; omega
  clear b0 b1
  generalize within n 0 40 = v at *
  go_wp2
  clear hwk hk
  have wk1 : IntKind.i64.wrap ((k : Int) - 1) = (k : Int) - 1 := by rw [IntKind.wrap_i64]; omega
  have wk4 : IntKind.i64.wrap (4 + (k : Int)) = 4 + (k : Int) := by rw [IntKind.wrap_i64]; omega
  go_loopw [7] (fun i wr => ∃ j : Nat, j ≤ k ∧ i = .int .i64 j ∧ ∃ F, Hid (PT TA w wr p (TS j [] 0) F)) (fun i _ => k - (intOf i).toNat)
  case atStart => exact ⟨0, by omega, rfl, _, hs⟩
  case round =>
    clear hs
    obtain ⟨j, hj, rfl, F, hst⟩ := hrel
    by_cases hlt : j < k
    · have d1 : decide ((j : Int) < (k : Int)) = true := by simp; omega
      have hw : IntKind.i64.wrap ((j : Int) + 1) = (j : Int) + 1 := by rw [IntKind.wrap_i64]; omega
      have hw4 : IntKind.i64.wrap (4 + (j : Int)) = 4 + (j : Int) := by rw [IntKind.wrap_i64]; omega
      have E1 := TS_take1 (i := j) (by omega)
      have hc4 : ((4 + j : Nat) : Int) = 4 + (j : Int) := by omega
      rw [hc4] at E1
      clear hc4
      go_wp2_with fail
      have P := K.take (1, (j : Int)) hst.out.ta (by unfold plOk; simp; omega)
      rw [E1.1, E1.2] at P
      clear E1
      refine P.mono ?_
      clear P
      rintro e w2 ⟨F2, he, hm, hc, hn⟩
      replace he : e = .returned (.int .i64 (4 + (j : Int))) := he
      subst he
      have hst2 := Lib.hid (hst.out.step hm hc hn)
      clear hm hc hn hst
      go_wp2
      go_roundw
      case rel => exact ⟨j + 1, by omega, by go_num, _, hst2⟩
      case measure => simp [intOf]; omega
    · have hjk : j = k := by omega
      subst hjk
      have d1 : decide ((j : Int) < (j : Int)) = false := by simp
      clear hlt hj
      have hmm := @run_makeMap Try.prog
      have hs2 : Hid (LeSt TA w (wr.alloc (.map #[] 0)) p wr.heap.size j 0 [] 0 F) := Lib.hid ⟨hst.out.keep K ((Below.refl _ _).alloc (Nat.le_refl _) _), MapX.made wr, fun hF => by have := K.lt hst.out.ta _ hF; omega, hst.out.bel.size⟩
      obtain ⟨b, hb⟩ : ∃ b, wr.heap.size = b := ⟨_, rfl⟩
      go_wp2
      rw [hb] at hs2
      clear hb hmm hst
      go_loopw [9] (fun i wr => ∃ q : Nat, q ≤ len ∧ q ≤ 20 ∧ i = .int .i64 q ∧ ∃ F X, (∀ x, x ∈ X → 4 ≤ x ∧ x < 4 + (j : Int)) ∧ Hid (LeSt TA w wr p b j q X 0 F)) (fun i _ => 20 - (intOf i).toNat)
      case atStart => exact ⟨0, by omega, by omega, rfl, _, [], (fun x hx => by cases hx), hs2⟩
      case round =>
        clear hs2
        obtain ⟨q, hq, hq2, rfl, F, X, hX, hst⟩ := hrel
        by_cases hlt : q < len ∧ q < 20
        · obtain ⟨g, off, x, rfl, ⟨x0, x1⟩, cx⟩ := HA.out _ hst.out.pt.bel q hlt.1
          have d2 : decide ((q : Int) < (len : Int)) = true := by simp; omega
          have d3 : decide ((q : Int) < 20) = true := by simp; omega
          have hw : IntKind.i64.wrap ((q : Int) + 1) = (q : Int) + 1 := by rw [IntKind.wrap_i64]; omega
          have hy := within_bd x 0 ((j : Int) - 1) (by omega)
          go_wp2_with fail
          refine (within_c x 0 ((j : Int) - 1) x0 x1 (by omega) (by omega) (by omega) _).mono ?_
          rintro e w3 ⟨rfl, hw3⟩
          subst w3
          obtain ⟨m, hm⟩ : ∃ m : Nat, within x 0 ((j : Int) - 1) = m := ⟨(within x 0 ((j : Int) - 1)).toNat, by omega⟩
          rw [hm] at hy ⊢
          clear hm
          have hw4 : IntKind.i64.wrap (4 + (m : Int)) = 4 + (m : Int) := by rw [IntKind.wrap_i64]; omega
          have E1 := TS_give (k := j) (m := m) (X := X) (by omega) (by omega)
          have hc4 : ((4 + m : Nat) : Int) = 4 + (m : Int) := by omega
          rw [hc4] at E1
          have hwf : (Lit.int .i64 (4 + (m : Int))).wf = true := WalkArith.wf_i64 (by omega)
          have hX2 : ∀ x, x ∈ (4 + (m : Int)) :: X → 4 ≤ x ∧ x < 4 + (j : Int) := fun x hx => by
            rcases List.mem_cons.1 hx with rfl | hx
            · omega
            · exact hX x hx
          clear hc4 hX cx
          obtain ⟨c, hc, hcc⟩ : ∃ c : Int, (if (4 + (m : Int)) ∈ X then (1 : Int) else 0) = c ∧ (c == 0) = !decide ((4 + (m : Int)) ∈ X) := by
            by_cases h : (4 + (m : Int)) ∈ X
            · exact ⟨1, by rw [if_pos h], by rw [decide_eq_true h]; rfl⟩
            · exact ⟨0, by rw [if_neg h], by rw [decide_eq_false h]; rfl⟩
          have L0 := hst.out.mp.look hwf
          have hstd := Lib.hid (hst.out.keep K (Below.refl wr.heap.size wr).drew)
          have Ld := hstd.out.mp.look hwf
          rw [hc] at L0 Ld
          have Gv := K.give (4 + (m : Int)) hstd.out.pt.ta (by omega) (by omega)
          rw [E1.1, E1.2, ← hcc] at Gv
          replace Gv := Lib.hid Gv
          replace hc := Lib.hid hc
          clear E1 hy L0
          replace Ld := Lib.hid Ld
          go_wp2
          replace Ld := Ld.out
          generalize hxe : (4 + (m : Int)) = xe at *
          clear hxe
          go_region_held3 (fun w' => (Instr.lookup 42 (.map (some b)) (.int .i64 xe) false).run Try.prog w' = .ok (.int .i64 c) w') (first | assumption | exact Ld | exact (by have := (hstd.out.mp.same (hch.block b hstd.out.mp.lt hstd.out.nF)).look hwf; rw [hc.out] at this; exact this)) (first
            | (go_at_call 10; ((with_reducible refine Gv.out.mono ?_); rintro e wB ⟨F2, rfl, hrB, hch, hnw⟩)))
          · have hst2 := hstd.out.step hrB hch hnw
            obtain ⟨w5, hup, hmp5, hg5⟩ := hst2.2.1.put (by unfold maxLen; omega) hwf
            have hst3 := Lib.hid (LeSt.put K hst2.1 hst2.2.2 hstd.out.nb hmp5 hg5)
            clear hst hstd hrB hch hnw hst2 hmp5 hg5 Ld Gv
            go_wp2
            go_roundw
            case rel => exact ⟨q + 1, by omega, by omega, by go_num, _, _, hX2, hst3⟩
            case measure => simp [intOf]; omega
          · have hst2 := hstd.out.step hrB hch hnw
            obtain ⟨w5, hup, hmp5, hg5⟩ := hst2.2.1.put (by unfold maxLen; omega) hwf
            have hst3 := Lib.hid (LeSt.put K hst2.1 hst2.2.2 hstd.out.nb hmp5 hg5)
            clear hst hstd hrB hch hnw hst2 hmp5 hg5 Ld Gv
            go_wp2
            go_roundw
            case rel => exact ⟨q + 1, by omega, by omega, by go_num, _, _, hX2, hst3⟩
            case measure => simp [intOf]; omega
        · have d : ¬ (q < len) ∨ (q < len ∧ ¬ (q < 20)) := by omega
          have hst' := hst
          clear hst hlt
          rcases d with q1 | ⟨q1, q2⟩
          · have d2 : decide ((q : Int) < (len : Int)) = false := by simp; omega
            go_wp2
            go_loopw [11] (fun i wr => ∃ i3 : Nat, i3 ≤ j ∧ i = .int .i64 i3 ∧ ∃ F, Hid (LeSt TA w wr p b j q X i3 F)) (fun i _ => j - (intOf i).toNat)
            case atStart => exact ⟨0, by omega, rfl, _, hst'⟩
            case round =>
              clear hst'
              obtain ⟨i3, hi3, rfl, F3, hst⟩ := hrel
              by_cases hlt3 : i3 < j
              · have d4 : decide ((i3 : Int) < (j : Int)) = true := by simp; omega
                have hw : IntKind.i64.wrap ((i3 : Int) + 1) = (i3 : Int) + 1 := by rw [IntKind.wrap_i64]; omega
                have hw4 : IntKind.i64.wrap (4 + (i3 : Int)) = 4 + (i3 : Int) := by rw [IntKind.wrap_i64]; omega
                have hwf : (Lit.int .i64 (4 + (i3 : Int))).wf = true := WalkArith.wf_i64 (by omega)
                have Lk := hst.out.mp.look hwf
                have hc4 : ((4 + i3 : Nat) : Int) = 4 + (i3 : Int) := by omega
                by_cases hin : (4 + (i3 : Int)) ∈ X
                · have E1 := TS_take2 (k := j) (i := i3) (X := X) (by omega) hlt3 (by rw [hc4]; exact hin)
                  rw [hc4] at E1
                  rw [if_pos hin] at Lk
                  have P := K.take (2, (i3 : Int)) hst.out.pt.ta (by unfold plOk; simp; omega)
                  rw [E1.1, E1.2] at P
                  replace P := Lib.hid P
                  clear E1 hin hc4
                  go_wp2_with fail
                  refine P.out.mono ?_
                  clear P
                  rintro e w6 ⟨F6, he, hm, hc, hn⟩
                  replace he : e = .returned (.int .i64 (4 + (i3 : Int))) := he
                  subst he
                  have h6 := hst.out.step hm hc hn
                  have hst6 : Hid (LeSt TA w w6 p b j q X (i3 + 1) F6) := Lib.hid ⟨h6.1, h6.2.1, h6.2.2, hst.out.nb⟩
                  clear h6 hm hc hn hst Lk
                  go_wp2
                  go_roundw
                  case rel => exact ⟨i3 + 1, by omega, by go_num, _, hst6⟩
                  case measure => simp [intOf]; omega
                · have E1 := TS_skip (k := j) (i := i3) (X := X) (by rw [hc4]; exact hin)
                  rw [if_neg hin] at Lk
                  have hst6 : Hid (LeSt TA w wr p b j q X (i3 + 1) F3) := Lib.hid ⟨by rw [E1]; exact hst.out.pt, hst.out.mp, hst.out.nF, hst.out.nb⟩
                  clear E1 hin hc4 hst
                  go_wp2
                  go_roundw
                  case rel => exact ⟨i3 + 1, by omega, by go_num, _, hst6⟩
                  case measure => simp [intOf]; omega
              · have d4 : decide ((i3 : Int) < (j : Int)) = false := by simp; omega
                have hij : i3 = j := by omega
                subst hij
                have E1 := TS_end (k := i3) (X := X) (by omega)
                have hc4 : ((4 + i3 : Nat) : Int) = 4 + (i3 : Int) := by omega
                rw [hc4] at E1
                clear hc4
                go_wp2_with fail
                refine (K.ids hst.out.pt.ta).mono ?_
                rintro e w6 ⟨u, rfl, hu, hb, _⟩
                have hp6 := Lib.hid (hst.out.pt.keep K hb)
                obtain ⟨ua, uc, rfl⟩ := hu.form
                rw [E1.2]
                clear hu hb hst
                go_wp2_with fail
                have P := K.take (3, 0) hp6.out.ta (by unfold plOk; simp)
                rw [E1.1] at P
                refine P.mono ?_
                clear P
                rintro e w7 ⟨F7, he, hm, hc, hn⟩
                replace he : e = .returned (.int .i64 (4 + (i3 : Int))) := he
                subst he
                have hp7 := Lib.hid (hp6.out.step hm hc hn)
                clear hp6 hm hc hn E1
                go_wp2_with fail
                refine (known_any K w7).mono ?_
                rintro e w8 ⟨rfl, hbk⟩
                have hbl := Lib.hid (hp7.out.bel.trans (hbk.mono hp7.out.bel.size))
                clear hp7 hbk
                go_wp2
                go_ret
                exact ⟨rfl, hbl.out⟩
          · have d2 : decide ((q : Int) < (len : Int)) = true := by simp; omega
            have d3 : decide ((q : Int) < 20) = false := by simp; omega
            go_wp2
            go_loopw [11] (fun i wr => ∃ i3 : Nat, i3 ≤ j ∧ i = .int .i64 i3 ∧ ∃ F, Hid (LeSt TA w wr p b j q X i3 F)) (fun i _ => j - (intOf i).toNat)
            case atStart => exact ⟨0, by omega, rfl, _, hst'⟩
            case round =>
              clear hst'
              obtain ⟨i3, hi3, rfl, F3, hst⟩ := hrel
              by_cases hlt3 : i3 < j
              · have d4 : decide ((i3 : Int) < (j : Int)) = true := by simp; omega
                have hw : IntKind.i64.wrap ((i3 : Int) + 1) = (i3 : Int) + 1 := by rw [IntKind.wrap_i64]; omega
                have hw4 : IntKind.i64.wrap (4 + (i3 : Int)) = 4 + (i3 : Int) := by rw [IntKind.wrap_i64]; omega
                have hwf : (Lit.int .i64 (4 + (i3 : Int))).wf = true := WalkArith.wf_i64 (by omega)
                have Lk := hst.out.mp.look hwf
                have hc4 : ((4 + i3 : Nat) : Int) = 4 + (i3 : Int) := by omega
                by_cases hin : (4 + (i3 : Int)) ∈ X
                · have E1 := TS_take2 (k := j) (i := i3) (X := X) (by omega) hlt3 (by rw [hc4]; exact hin)
                  rw [hc4] at E1
                  rw [if_pos hin] at Lk
                  have P := K.take (2, (i3 : Int)) hst.out.pt.ta (by unfold plOk; simp; omega)
                  rw [E1.1, E1.2] at P
                  replace P := Lib.hid P
                  clear E1 hin hc4
                  go_wp2_with fail
                  refine P.out.mono ?_
                  clear P
                  rintro e w6 ⟨F6, he, hm, hc, hn⟩
                  replace he : e = .returned (.int .i64 (4 + (i3 : Int))) := he
                  subst he
                  have h6 := hst.out.step hm hc hn
                  have hst6 : Hid (LeSt TA w w6 p b j q X (i3 + 1) F6) := Lib.hid ⟨h6.1, h6.2.1, h6.2.2, hst.out.nb⟩
                  clear h6 hm hc hn hst Lk
                  go_wp2
                  go_roundw
                  case rel => exact ⟨i3 + 1, by omega, by go_num, _, hst6⟩
                  case measure => simp [intOf]; omega
                · have E1 := TS_skip (k := j) (i := i3) (X := X) (by rw [hc4]; exact hin)
                  rw [if_neg hin] at Lk
                  have hst6 : Hid (LeSt TA w wr p b j q X (i3 + 1) F3) := Lib.hid ⟨by rw [E1]; exact hst.out.pt, hst.out.mp, hst.out.nF, hst.out.nb⟩
                  clear E1 hin hc4 hst
                  go_wp2
                  go_roundw
                  case rel => exact ⟨i3 + 1, by omega, by go_num, _, hst6⟩
                  case measure => simp [intOf]; omega
              · have d4 : decide ((i3 : Int) < (j : Int)) = false := by simp; omega
                have hij : i3 = j := by omega
                subst hij
                have E1 := TS_end (k := i3) (X := X) (by omega)
                have hc4 : ((4 + i3 : Nat) : Int) = 4 + (i3 : Int) := by omega
                rw [hc4] at E1
                clear hc4
                go_wp2_with fail
                refine (K.ids hst.out.pt.ta).mono ?_
                rintro e w6 ⟨u, rfl, hu, hb, _⟩
                have hp6 := Lib.hid (hst.out.pt.keep K hb)
                obtain ⟨ua, uc, rfl⟩ := hu.form
                rw [E1.2]
                clear hu hb hst
                go_wp2_with fail
                have P := K.take (3, 0) hp6.out.ta (by unfold plOk; simp)
                rw [E1.1] at P
                refine P.mono ?_
                clear P
                rintro e w7 ⟨F7, he, hm, hc, hn⟩
                replace he : e = .returned (.int .i64 (4 + (i3 : Int))) := he
                subst he
                have hp7 := Lib.hid (hp6.out.step hm hc hn)
                clear hp6 hm hc hn E1
                go_wp2_with fail
                refine (known_any K w7).mono ?_
                rintro e w8 ⟨rfl, hbk⟩
                have hbl := Lib.hid (hp7.out.bel.trans (hbk.mono hp7.out.bel.size))
                clear hp7 hbk
                go_wp2
                go_ret
                exact ⟨rfl, hbl.out⟩
end Wd
end Go.Proofs.Ytekjengdiakaaaa
