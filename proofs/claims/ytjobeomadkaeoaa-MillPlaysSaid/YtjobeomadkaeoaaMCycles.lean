/- What the laws ask of a mill, whoever keeps it: MillCycles. -/
import Derived.Test.YtjobeomadkaeoaaMOrder
namespace Go.Proofs.Ytjobeomadkaeoaa
open Go.RowKit
set_option linter.unusedVariables false
namespace Wd
/-- the bools of a list that came in, in the world at hand and in any that only grew -/
def Bools (w0 : World) (ad : Option Addr) (len : Nat) (kf : Nat → Bool) : Prop := ∀ wr, Below w0.heap.size w0 wr → ∀ k, k < len → ∃ (g off : Nat), ad = some ⟨g, off, none⟩ ∧ wr.cell? ⟨g, off + k, none⟩ = some (.bool (kf k))
/-- is it kept -/
def kq (len : Nat) (kf : Nat → Bool) (i : Nat) : Bool := decide (i < len) && kf i
/-- those that stay, of the first i -/
def stay (len : Nat) (kf : Nat → Bool) (m i : Nat) : List Int := ((rng m).take i).filter (fun x => kq len kf x.toNat)
/-- those that are Ecru when the first i are done -/
def left (len : Nat) (kf : Nat → Bool) (m i : Nat) : List Int := (rng m).filter (fun x => decide ((i : Int) ≤ x) || !kq len kf x.toNat)
theorem stay_in {len : Nat} {kf : Nat → Bool} {m i : Nat} (hi : i < m) (h : kq len kf i = true) : stay len kf m (i + 1) = stay len kf m i ++ [(i : Int)] := by
  unfold stay
  rw [rng_take hi, List.filter_append]
  simp [h]
theorem stay_out {len : Nat} {kf : Nat → Bool} {m i : Nat} (hi : i < m) (h : kq len kf i = false) : stay len kf m (i + 1) = stay len kf m i := by
  unfold stay
  rw [rng_take hi, List.filter_append]
  simp [h]
theorem left_in {len : Nat} {kf : Nat → Bool} {m i : Nat} (h : kq len kf i = true) : left len kf m (i + 1) = (left len kf m i).filter (· ≠ (i : Int)) := by
  unfold left
  rw [List.filter_filter]
  refine List.filter_congr (fun x hx => ?_)
  by_cases c : x = i
  · subst c; simp [h]; omega
  · have : decide (((i + 1 : Nat) : Int) ≤ x) = decide ((i : Int) ≤ x) := by
      rw [decide_eq_decide]; omega
    rw [this]
    simp [c]
theorem left_out {len : Nat} {kf : Nat → Bool} {m i : Nat} (h : kq len kf i = false) : left len kf m (i + 1) = left len kf m i := by
  unfold left
  refine List.filter_congr (fun x hx => ?_)
  by_cases c : x = i
  · subst c; simp [h]
  · have : decide (((i + 1 : Nat) : Int) ≤ x) = decide ((i : Int) ≤ x) := by
      rw [decide_eq_decide]; omega
    rw [this]
theorem left_start (len : Nat) (kf : Nat → Bool) (m : Nat) : left len kf m 0 = rng m := by
  unfold left
  refine List.filter_eq_self.2 (fun x hx => ?_)
  simp only [rng, List.mem_map] at hx
  obtain ⟨y, _, rfl⟩ := hx
  simp
theorem left_mem {len : Nat} {kf : Nat → Bool} {m i : Nat} (hi : i < m) : (i : Int) ∈ left len kf m i := by
  unfold left
  refine List.mem_filter.2 ⟨?_, by simp⟩
  simp only [rng, List.mem_map, List.mem_range]
  exact ⟨i, hi, rfl⟩
theorem left_end {len : Nat} {kf : Nat → Bool} {m : Nat} {x : Int} (h : x ∈ left len kf m m) : ∃ k : Nat, x = k ∧ k < m ∧ kq len kf k = false := by
  unfold left at h
  obtain ⟨h1, h2⟩ := List.mem_filter.1 h
  simp only [rng, List.mem_map, List.mem_range] at h1
  obtain ⟨k, hk, rfl⟩ := h1
  refine ⟨k, rfl, hk, ?_⟩
  simp at h2
  rcases h2 with h2 | h2
  · omega
  · exact h2
theorem color3 {n : Nat} {A : Mst} (h : Good n A) {i : Int} (hi : i ∈ A 3) : colorR A i = 3 := by
  have hn := good_nd h
  obtain ⟨_, n1, d0⟩ := List.nodup_append.1 hn
  obtain ⟨_, n2, d1⟩ := List.nodup_append.1 n1
  obtain ⟨_, _, d2⟩ := List.nodup_append.1 n2
  unfold colorR
  rw [if_neg (fun h0 => d0 i h0 i (by simp [hi]) rfl), if_neg (fun h0 => d1 i h0 i (by simp [hi]) rfl), if_neg (fun h0 => d2 i h0 i hi rfl), if_pos hi]
theorem base_of {w : World} {base n : Nat} {v : Value} {xs : List Value} (h : w.ownsRow 0 3 1 v n xs) (hb : ∀ g, v.ownBlock = some g → base ≤ g) : w.ownsRow base 3 1 v n xs := by
  refine ⟨h.1, ?_⟩
  rcases h.2 with h | ⟨g, cap, cur, h1, _, h3⟩
  · exact Or.inl h
  · exact Or.inr ⟨g, cap, cur, h1, hb g (by rw [h1]; rfl), h3⟩
set_option maxHeartbeats 16000000 in
theorem cycles_any {MA : MAt} (K : MillK MA) (n : Int) (j0 : -9223372036854775808 ≤ n) (j1 : n ≤ 9223372036854775807) (ad : Option Addr) (len cap : Nat) (kf : Nat → Bool) (w : World) (HA : Bools w ad len kf) (hlen : len ≤ maxLen) :
    Calls Try.prog 6 #[.int .i64 n, .slice ad len cap] w fun e w' => e = .returned (.bool true) ∧ Below w.heap.size w w' := by
  replace HA := Lib.hid HA
  obtain ⟨b0, b1⟩ := within_bd n 0 25 (by omega)
  go_enter Try.func6, Try.ntmps6
  go_wp2_with fail
  refine (within_c n 0 25 j0 j1 (by omega) (by omega) (by omega) w).mono ?_
  rintro e w1 ⟨rfl, hw1⟩
  subst w1
  obtain ⟨m, hm, m1, m2⟩ : ∃ m : Nat, 1 + within n 0 25 = m ∧ 1 ≤ m ∧ m ≤ 26 := ⟨(1 + within n 0 25).toNat, by omega, by omega, by omega⟩
  clear b0 b1
  have wm : IntKind.i64.wrap ((m : Int) - 1) = (m : Int) - 1 := by rw [IntKind.wrap_i64]; omega
  go_wp2_with fail
  refine (K.new m (by omega) (by omega)).mono ?_
  rintro e w1 ⟨p, F, rfl, hra, hF, hb⟩
  have hs : PM MA w w1 p m (startA m) F := ⟨hra, hb, hF, good_start m⟩
  clear hra hb hF
  replace hs := Lib.hid hs
  go_wp2
  go_loopw [7] (fun i wr => ∃ j : Nat, j ≤ m ∧ i = .int .i64 j ∧ ∃ A F, Hid (PM MA w wr p m A F ∧ RowsAt A ((rng m).drop j) ((rng m).take j) [] [])) (fun i _ => m - (intOf i).toNat)
  case atStart => exact ⟨0, by omega, rfl, _, _, Lib.hid ⟨hs.out, by simpa using rows_start m⟩⟩
  case round =>
    obtain ⟨j, hj, rfl, A, F, hst⟩ := hrel
    clear hs
    by_cases hlt : j < m
    · have d1 : decide ((j : Int) < (m : Int)) = true := by simp; omega
      have R1 := RowsAt.alloc (i := (j : Int)) (a := (rng m).drop (j + 1)) (by have := hst.out.2; rwa [rng_drop hlt] at this)
      have P := K.alloc hst.out.1.ma
      rw [R1.2] at P
      go_wp2_with fail
      refine P.mono ?_
      clear P
      rintro e w2 ⟨F2, rfl, hm2, hc2, hn2⟩
      have hst2 := Lib.hid (show PM MA w w2 p m (firstA A 0 1) F2 ∧ RowsAt (firstA A 0 1) ((rng m).drop (j + 1)) ((rng m).take (j + 1)) [] [] from ⟨hst.out.1.step hm2 hc2 hn2 (good_first hst.out.1.good 0 (Or.inl rfl)), by rw [rng_take hlt]; exact R1.1⟩)
      have e3 : ((j : Int) != (j : Int)) = false := by simp
      clear hst hm2 hc2 hn2 R1
      go_wp2
      go_roundw
      case rel => exact ⟨j + 1, by omega, by go_num, _, _, hst2⟩
      case measure => simp [intOf]; omega
    · have d1 : decide ((j : Int) < (m : Int)) = false := by simp; omega
      have hjm : j = m := by omega
      subst hjm
      have R1 := RowsAt.flip (a := []) (b := rng j) (d := []) (by have := hst.out.2; rwa [List.drop_eq_nil_of_le (by rw [rng_len]; exact Nat.le_refl _), List.take_of_length_le (by rw [rng_len]; exact Nat.le_refl _)] at this)
      go_wp2_with fail
      refine (K.flip hst.out.1.ma).mono ?_
      rintro e w2 ⟨u0, F2, rfl, hm2, hc2, hn2, _, _⟩
      have hst2 := Lib.hid (show PM MA w w2 p j (flipA A) F2 ∧ RowsAt (flipA A) [] [] [] (rng j) from ⟨hst.out.1.step hm2 hc2 hn2 (good_flip hst.out.1.good), R1.1⟩)
      clear hst hm2 hc2 hn2 R1
      have s0 : Hid (PM MA w w2 p j (flipA A) F2 ∧ RowsAt (flipA A) [] (stay len kf j 0) [] (left len kf j 0)) := Lib.hid ⟨hst2.out.1, by rw [left_start]; exact hst2.out.2⟩
      clear hst2
      go_wp2
      go_loopw [8, 9] (fun c i wr => ∃ t : Nat, t ≤ j ∧ i = .int .i64 t ∧ c = .int .i64 (stay len kf j t).length ∧ ∃ A F, Hid (PM MA w wr p j A F ∧ RowsAt A [] (stay len kf j t) [] (left len kf j t))) (fun _ i _ => j - (intOf i).toNat)
      case atStart => exact ⟨0, by omega, rfl, by simp [stay], _, _, s0⟩
      case round =>
        obtain ⟨t, ht, rfl, rfl, A, F, hst⟩ := hrel
        clear s0
        have hsl : (stay len kf j t).length ≤ j := by have := good_le hst.out.1.good 1 (by decide); rwa [hst.out.2.r1] at this
        by_cases hlt2 : t < j
        · have d2 : decide ((t : Int) < (j : Int)) = true := by simp; omega
          by_cases hq : kq len kf t = true
          · have hq' := hq
            unfold kq at hq'
            simp only [Bool.and_eq_true, decide_eq_true_eq] at hq'
            obtain ⟨g, off, rfl, cx⟩ := HA.out _ hst.out.1.bel t hq'.1
            rw [hq'.2] at cx
            have d3 : decide ((t : Int) < (len : Int)) = true := by simp; omega
            have p0 : (0 : Int) ≤ (t : Int) := by omega
            have p1 : (t : Int) < (len : Int) := by omega
            have hc := color3 hst.out.1.good (i := (t : Int)) (by rw [hst.out.2.r3]; exact left_mem hlt2)
            have P := K.shade (t : Int) hst.out.1.ma (by omega) (by omega)
            rw [decide_eq_true hc] at P
            have R1 := Lib.hid (hst.out.2.shade hc)
            have hq2 := Lib.hid hq
            have wk : IntKind.i64.wrap (((stay len kf j t).length : Int) + 1) = ((stay len kf j t).length : Int) + 1 := by rw [IntKind.wrap_i64]; omega
            clear hc hq hq'
            go_wp2_with fail
            refine P.mono ?_
            clear P
            rintro e w3 ⟨F3, rfl, hm3, hc3, hn3⟩
            have st3 := Lib.hid (hst.out.1.step hm3 hc3 hn3 (good_shade hst.out.1.good (t : Int)))
            clear hst hm3 hc3 hn3
            have R2 := RowsAt.scan (i := (t : Int)) (c := []) R1.out
            have P := K.scan st3.out.ma
            rw [R2.2] at P
            replace R2 := Lib.hid R2.1
            have e3 : ((t : Int) != (t : Int)) = false := by simp
            clear R1
            go_wp2_with fail
            refine P.mono ?_
            clear P
            rintro e w4 ⟨F4, rfl, hm4, hc4, hn4⟩
            have st4 := Lib.hid (show PM MA w w4 p j (firstA (shadeA A (t : Int)) 2 1) F4 ∧ RowsAt (firstA (shadeA A (t : Int)) 2 1) [] (stay len kf j (t + 1)) [] (left len kf j (t + 1)) from ⟨st3.out.step hm4 hc4 hn4 (good_first st3.out.good 2 (Or.inr rfl)), by rw [stay_in hlt2 hq2.out, left_in hq2.out]; exact R2.out⟩)
            clear st3 hm4 hc4 hn4 R2
            go_wp2
            go_roundw
            case rel => exact ⟨t + 1, by omega, by go_num, by rw [stay_in hlt2 hq2.out, List.length_append]; rfl, _, _, st4⟩
            case measure => simp [intOf]; omega
          · have hq2 : kq len kf t = false := by simpa using hq
            have st4 := Lib.hid (show PM MA w _ p j A F ∧ RowsAt A [] (stay len kf j (t + 1)) [] (left len kf j (t + 1)) from ⟨hst.out.1, by rw [stay_out hlt2 hq2, left_out hq2]; exact hst.out.2⟩)
            have hq3 := Lib.hid hq2
            by_cases hlt3 : t < len
            · obtain ⟨g, off, rfl, cx⟩ := HA.out _ hst.out.1.bel t hlt3
              have hk0 : kf t = false := by unfold kq at hq2; simpa [hlt3] using hq2
              rw [hk0] at cx
              have d3 : decide ((t : Int) < (len : Int)) = true := by simp; omega
              have p0 : (0 : Int) ≤ (t : Int) := by omega
              have p1 : (t : Int) < (len : Int) := by omega
              clear hq hq2 hk0 hst
              go_wp2
              go_roundw
              case rel => exact ⟨t + 1, by omega, by go_num, by rw [stay_out hlt2 hq3.out], _, _, st4⟩
              case measure => simp [intOf]; omega
            · have d3 : decide ((t : Int) < (len : Int)) = false := by simp; omega
              clear hq hq2 hst
              go_wp2
              go_roundw
              case rel => exact ⟨t + 1, by omega, by go_num, by rw [stay_out hlt2 hq3.out], _, _, st4⟩
              case measure => simp [intOf]; omega
        · have htj : t = j := by omega
          subst htj
          have d2 : decide ((t : Int) < (t : Int)) = false := by simp
          have R1 := hst.out.2.flip
          have hlen := good_len hst.out.1.good
          rw [hst.out.2.r0, hst.out.2.r1, hst.out.2.r2, hst.out.2.r3] at hlen
          simp only [List.length_nil, Nat.zero_add] at hlen
          have hE := Lib.hid (fun x => left_end (len := len) (kf := kf) (m := t) (x := x))
          generalize stay len kf t t = B at *
          generalize left len kf t t = D at *
          have P := K.flip hst.out.1.ma
          rw [R1.2] at P
          go_wp2_with fail
          refine P.mono ?_
          clear P
          rintro e w3 ⟨u, F3, rfl, hm3, hc3, hn3, hu, huf⟩
          have st3 := Lib.hid (show WSt MA w w3 p t (flipA A) F3 u D ∧ RowsAt (flipA A) D [] [] B from ⟨⟨hst.out.1.step hm3 hc3 hn3 (good_flip hst.out.1.good), base_of hu (fun g hg => Nat.le_trans hst.out.1.bel.size (huf g hg).1), fun g hg => (huf g hg).2⟩, by simpa using R1.1⟩)
          clear hst hm3 hc3 hn3 hu huf R1
          obtain ⟨x9, n9, c9, rfl⟩ := slice_form st3.out.1.own
          obtain ⟨t9, ht9⟩ : ∃ t9, t9 = D.length := ⟨_, rfl⟩
          have hn9 : n9 = t9 := by
            rcases st3.out.1.own.2 with ⟨e, h0⟩ | ⟨g, cap, cur, e, _⟩
            · cases e; omega
            · cases e; exact ht9.symm
          subst hn9
          have ek : IntKind.i64.wrap ((t : Int) - (B.length : Int)) = (n9 : Int) := by rw [IntKind.wrap_i64]; omega
          have C0 := K.count 0 st3.out.1.pm.ma (by omega) (by omega)
          rw [show rowA (flipA A) 0 = D from (rowA_in _ 0 (by decide)).trans st3.out.2.r0, ← ht9] at C0
          have HT := Lib.hid ht9
          clear ht9
          go_wp2_with fail
          refine C0.mono ?_
          clear C0
          rintro e w4 ⟨rfl, hb4⟩
          have st4 := Lib.hid (And.intro (st3.out.1.keep K hb4) st3.out.2)
          clear st3 hb4
          have C3 := K.count 3 st4.out.1.pm.ma (by omega) (by omega)
          rw [show rowA (flipA A) 3 = B from (rowA_in _ 3 (by decide)).trans st4.out.2.r3] at C3
          go_wp2_with fail
          refine C3.mono ?_
          clear C3
          rintro e w5 ⟨rfl, hb5⟩
          have st5 := Lib.hid (And.intro (st4.out.1.keep K hb5) st4.out.2)
          clear st4 hb5
          rcases (show SL _ 3 _ D from own_base st5.out.1.own).cases with ⟨hv, hD0⟩ | ⟨g9, cap9, hv, _, _, _, _⟩
          · cases hv
            subst hD0
            have st := st5
            clear st5
            go_wp2
            refine wp_loop_rounds 1 ?_
            rw [rounds_succ]
            go_wp2_with fail
            have P := K.alloc st.out.1.pm.ma
            rw [(RowsAt.noalloc st.out.2).2] at P
            go_wp2_with fail
            refine P.mono ?_
            clear P
            rintro e wa ⟨Fa, rfl, hma, hca, hna⟩
            have st1 := Lib.hid (st.out.1.step hma hca hna (good_first st.out.1.pm.good 0 (Or.inl rfl))).pm.bel
            clear hma hca hna st
            go_wp2_with fail
            refine (known_c K _).mono ?_
            rintro e wd ⟨rfl, hd⟩
            have hbel := Lib.hid (st1.out.trans (hd.mono st1.out.size))
            clear hd
            go_wp2
            go_ret
            exact ⟨rfl, hbel.out⟩
          · have hv2 := hv
            simp only [Value.slice.injEq] at hv2
            obtain ⟨rfl, _, _⟩ := hv2
            clear hv
            have s0 := Lib.hid (show WSt MA w _ p t (flipA A) F3 (.slice (some ⟨g9, 0, none⟩) n9 c9) D ∧ RowsAt (flipA A) (D.drop 0) (D.take 0) [] B from ⟨st5.out.1, by simpa using st5.out.2⟩)
            have ht26 : n9 ≤ 26 := by omega
            clear st5
            go_wp2
            go_loopw [82] (fun i wr => ∃ q : Nat, q ≤ n9 ∧ i = .int .i64 q ∧ ∃ A F, Hid (WSt MA w wr p t A F (.slice (some ⟨g9, 0, none⟩) n9 c9) D ∧ RowsAt A (D.drop q) (D.take q) [] B)) (fun i _ => n9 - (intOf i).toNat)
            case atStart => exact ⟨0, by omega, rfl, _, _, s0⟩
            case round =>
              obtain ⟨q, hq0, rfl, A, F, hst⟩ := hrel
              clear s0
              by_cases hlt3 : q < n9
              · have d3 : decide ((q : Int) < (n9 : Int)) = true := by simp; omega
                obtain ⟨x, hx⟩ : ∃ x, D[q]? = some x := ⟨D[q]'(by have := HT.out; omega), by simp⟩
                obtain ⟨y, rfl, hy, hyq⟩ := hE.out x (List.mem_of_getElem? hx)
                have hd : D.drop q = (y : Int) :: D.drop (q + 1) := by
                  obtain ⟨hl, he⟩ := List.getElem?_eq_some_iff.1 hx
                  rw [← he, List.drop_eq_getElem_cons hl]
                have R1 := Lib.hid (RowsAt.alloc (i := (y : Int)) (a := D.drop (q + 1)) (by have := hst.out.2; rwa [hd] at this))
                have cx := row_cell (own_base (by have := hst.out.1.own; rwa [← HT.out] at this)) hx
                have p0 : (0 : Int) ≤ (q : Int) := by omega
                have p1 : (q : Int) < (n9 : Int) := by omega
                have HX : Hid (D.take (q + 1) = D.take q ++ [(y : Int)]) := Lib.hid (by rw [List.take_add_one, hx]; rfl)
                have d4 : decide ((y : Int) < 0) = false := by simp
                have d5 : decide ((y : Int) ≥ (t : Int)) = false := by simp; omega
                have d6 : decide ((t : Int) ≤ (y : Int)) = false := by simp; omega
                clear hd hx
                by_cases hyl : y < len
                · obtain ⟨g7, off7, rfl, c7⟩ := HA.out _ hst.out.1.pm.bel y hyl
                  have hk0 : kf y = false := by unfold kq at hyq; simpa [hyl] using hyq
                  rw [hk0] at c7
                  have d7 : decide ((y : Int) < (len : Int)) = true := by simp; omega
                  have p2 : (0 : Int) ≤ (y : Int) := by omega
                  have p3 : (y : Int) < (len : Int) := by omega
                  clear hyq hk0
                  have P := K.alloc hst.out.1.pm.ma
                  rw [R1.out.2] at P
                  have R2 := Lib.hid R1.out.1
                  go_wp2_with fail
                  refine P.mono ?_
                  clear P
                  rintro e w7 ⟨F7, rfl, hm7, hc7, hn7⟩
                  have st7 := Lib.hid (show WSt MA w w7 p t (firstA A 0 1) F7 (.slice (some ⟨g9, 0, none⟩) n9 c9) D ∧ RowsAt (firstA A 0 1) (D.drop (q + 1)) (D.take (q + 1)) [] B from ⟨hst.out.1.step hm7 hc7 hn7 (good_first hst.out.1.pm.good 0 (Or.inl rfl)), by rw [HX.out]; exact R2.out⟩)
                  have e3 : ((y : Int) != (y : Int)) = false := by simp
                  clear hst hm7 hc7 hn7 R1 R2
                  go_wp2
                  go_roundw
                  case rel => exact ⟨q + 1, by omega, by go_num, _, _, st7⟩
                  case measure => simp [intOf]; omega
                · have d7 : decide ((y : Int) < (len : Int)) = false := by simp; omega
                  clear hyq
                  have P := K.alloc hst.out.1.pm.ma
                  rw [R1.out.2] at P
                  have R2 := Lib.hid R1.out.1
                  go_wp2_with fail
                  refine P.mono ?_
                  clear P
                  rintro e w7 ⟨F7, rfl, hm7, hc7, hn7⟩
                  have st7 := Lib.hid (show WSt MA w w7 p t (firstA A 0 1) F7 (.slice (some ⟨g9, 0, none⟩) n9 c9) D ∧ RowsAt (firstA A 0 1) (D.drop (q + 1)) (D.take (q + 1)) [] B from ⟨hst.out.1.step hm7 hc7 hn7 (good_first hst.out.1.pm.good 0 (Or.inl rfl)), by rw [HX.out]; exact R2.out⟩)
                  have e3 : ((y : Int) != (y : Int)) = false := by simp
                  clear hst hm7 hc7 hn7 R1 R2
                  go_wp2
                  go_roundw
                  case rel => exact ⟨q + 1, by omega, by go_num, _, _, st7⟩
                  case measure => simp [intOf]; omega
              · have d3 : decide ((q : Int) < (n9 : Int)) = false := by simp; omega
                have st := Lib.hid (show WSt MA w _ p t A F (.slice (some ⟨g9, 0, none⟩) n9 c9) D ∧ RowsAt A [] D [] B from ⟨hst.out.1, by have := hst.out.2; rwa [List.take_of_length_le (by have := HT.out; omega), List.drop_eq_nil_of_le (by have := HT.out; omega)] at this⟩)
                clear hst
                have P := K.alloc st.out.1.pm.ma
                rw [(RowsAt.noalloc st.out.2).2] at P
                go_wp2_with fail
                refine P.mono ?_
                clear P
                rintro e wa ⟨Fa, rfl, hma, hca, hna⟩
                have st1 := Lib.hid (st.out.1.step hma hca hna (good_first st.out.1.pm.good 0 (Or.inl rfl))).pm.bel
                clear hma hca hna st
                go_wp2_with fail
                refine (known_c K _).mono ?_
                rintro e wd ⟨rfl, hd⟩
                have hbel := Lib.hid (st1.out.trans (hd.mono st1.out.size))
                clear hd
                go_wp2
                go_ret
                exact ⟨rfl, hbel.out⟩
end Wd
end Go.Proofs.Ytjobeomadkaeoaa
