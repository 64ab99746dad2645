/- What the laws ask of a mill, whoever keeps it: MillOrder. -/
import Derived.Test.YtjobeomadkaeoaaMPlays
import Derived.Deep.AppendLies
import Derived.OpenShut
import Derived.Deep.RegionHeld3
namespace Go.Proofs.Ytjobeomadkaeoaa
open Go.RowKit
set_option linter.unusedVariables false
namespace Wd
/-- the rows of a mill, one by one -/
structure RowsAt (A : Mst) (a b c d : List Int) : Prop where
  r0 : A 0 = a
  r1 : A 1 = b
  r2 : A 2 = c
  r3 : A 3 = d
theorem rows_start (m : Nat) : RowsAt (startA m) (rng m) [] [] [] := ⟨rfl, rfl, rfl, rfl⟩
theorem RowsAt.alloc {A : Mst} {a b c d : List Int} {i : Int} (h : RowsAt A (i :: a) b c d) : RowsAt (firstA A 0 1) a (b ++ [i]) c d ∧ firstR A 0 = i := by
  unfold firstA firstR
  rw [h.r0]
  exact ⟨⟨rfl, by simp [upA, h.r1], by simp [upA, h.r2], by simp [upA, h.r3]⟩, rfl⟩
theorem RowsAt.noalloc {A : Mst} {b c d : List Int} (h : RowsAt A [] b c d) : RowsAt (firstA A 0 1) [] b c d ∧ firstR A 0 = -1 := by
  unfold firstA firstR
  rw [h.r0]
  exact ⟨h, rfl⟩
theorem RowsAt.scan {A : Mst} {a b c d : List Int} {i : Int} (h : RowsAt A a b (i :: c) d) : RowsAt (firstA A 2 1) a (b ++ [i]) c d ∧ firstR A 2 = i := by
  unfold firstA firstR
  rw [h.r2]
  exact ⟨⟨by simp [upA, h.r0], by simp [upA, h.r1], rfl, by simp [upA, h.r3]⟩, rfl⟩
theorem RowsAt.noscan {A : Mst} {a b d : List Int} (h : RowsAt A a b [] d) : RowsAt (firstA A 2 1) a b [] d ∧ firstR A 2 = -1 := by
  unfold firstA firstR
  rw [h.r2]
  exact ⟨h, rfl⟩
theorem RowsAt.flip {A : Mst} {a b d : List Int} (h : RowsAt A a b [] d) : RowsAt (flipA A) (a ++ d) [] [] b ∧ flipR A = d := by
  unfold flipA flipR
  rw [if_pos h.r2, if_pos h.r2]
  exact ⟨⟨by simp [upA, h.r0, h.r3], rfl, by simp [upA, h.r2], by simp [upA, h.r1]⟩, h.r3⟩
theorem RowsAt.shade {A : Mst} {a b c d : List Int} (h : RowsAt A a b c d) {i : Int} (hc : colorR A i = 3) : RowsAt (shadeA A i) a b (c ++ [i]) (d.filter (· ≠ i)) := by
  unfold shadeA
  rw [if_pos hc]
  exact ⟨by simp [upA, h.r0], by simp [upA, h.r1], by simp [upA, h.r2], by simp [upA, h.r3]⟩
theorem shade_not {A : Mst} {i : Int} (hc : colorR A i ≠ 3) : shadeA A i = A := if_neg hc
theorem rng_drop {m j : Nat} (h : j < m) : (rng m).drop j = (j : Int) :: (rng m).drop (j + 1) := by
  rw [List.drop_eq_getElem_cons (by rw [rng_len]; exact h)]
  simp [rng]
theorem rng_take {m j : Nat} (h : j < m) : (rng m).take (j + 1) = (rng m).take j ++ [(j : Int)] := by
  rw [List.take_add_one]
  simp [rng, h]
/-- the numbers of a list that came in, in the world at hand and in any that only grew -/
def Nums (w0 : World) (ad : Option Addr) (len : Nat) : Prop := ∀ wr, Below w0.heap.size w0 wr → ∀ k, k < len → ∃ (g off : Nat) (x : Int), ad = some ⟨g, off, none⟩ ∧ (-9223372036854775808 ≤ x ∧ x ≤ 9223372036854775807) ∧ wr.cell? ⟨g, off + k, none⟩ = some (.int .i64 x)
/-- a mill of the package's and a row of numbers, of the call's own -/
structure WSt (MA : MAt) (w0 wr : World) (p n : Nat) (A : Mst) (F : Nat → Prop) (v : Value) (W : List Int) : Prop where
  pm : PM MA w0 wr p n A F
  own : wr.ownsRow w0.heap.size 3 1 v W.length (ints W)
  fv : ∀ g, v.ownBlock = some g → ¬ F g
section
variable {MA : MAt} {w0 wr wA w1 : World} {p n : Nat} {A A' : Mst} {F F' : Nat → Prop} {v v' : Value} {W : List Int}
theorem WSt.keep (K : MillK MA) (h : WSt MA w0 wr p n A F v W) (g : Below wr.heap.size wr wA) : WSt MA w0 wA p n A F v W :=
  ⟨h.pm.keep K g, h.own.kept (row := none) ⟨g.os, g.tape, g.output, g.size, fun k hk _ => g.block k hk⟩ (by cases v.ownBlock <;> simp), h.fv⟩
theorem own_ch {w w' : World} {base n : Nat} {xs : List Value} (h : w.ownsRow base 3 1 v n xs) (c : Ch F w w') (hF : ∀ g, v.ownBlock = some g → ¬ F g) : w'.ownsRow base 3 1 v n xs := by
  refine ⟨h.1, ?_⟩
  rcases h.2 with hh | ⟨g, cap, cur, rfl, h0, h2, h3⟩
  · exact Or.inl hh
  · exact Or.inr ⟨g, cap, cur, rfl, h0, (c.block g (Array.getElem?_eq_some_iff.1 h2).1 (hF g rfl)).trans h2, h3⟩
theorem WSt.step (h : WSt MA w0 wr p n A F v W) (hm : MA w1 p n A' F') (c : Ch F wr w1) (hn : Newer F F' wr.heap.size) (good : Good n A') : WSt MA w0 w1 p n A' F' v W := by
  refine ⟨h.pm.step hm c hn good, own_ch h.own c h.fv, fun g hg hF => ?_⟩
  rcases hn g hF with h' | h'
  · exact h.fv g hg h'
  · have := (h.own.lt g hg).2; omega
theorem WSt.app (K : MillK MA) (h : WSt MA w0 wr p n A F v W) {x : Int} {o : Obj} (hown : w1.ownsRow w0.heap.size 3 1 v' (W ++ [x]).length (ints (W ++ [x]))) (hg : (wr.alloc o).grownBy w1 v.ownBlock) (hat : v'.ownBlock = v.ownBlock ∨ v'.ownBlock = some (wr.alloc o).heap.size) :
    WSt MA w0 w1 p n A F v' (W ++ [x]) := by
  have hF : ∀ k, F k → k < wr.heap.size := K.lt h.pm.ma
  refine ⟨⟨K.keep h.pm.ma (fun k hk => ?_), (h.pm.bel.alloc h.pm.bel.size _).grown hg (by have := h.pm.bel.size; simp; omega) (fun k' hk => (h.own.lt k' hk).1), h.pm.fF, h.pm.good⟩, hown, fun g hg' hFg => ?_⟩
  · exact (hg.block k (by have := hF k hk; simp; omega) (fun e => h.fv k e.symm hk)).trans (Below.heap_alloc _ _ _ (hF k hk))
  · rcases hat with e | e
    · exact h.fv g (e.symm.trans hg') hFg
    · have := hF g hFg
      rw [e] at hg'
      simp at hg'
      omega
end
/-- the state while shades are asked for: what is grey is what is wanted -/
structure OSt (MA : MAt) (w0 wr : World) (p n : Nat) (A : Mst) (F : Nat → Prop) (v : Value) (W D : List Int) : Prop where
  st : WSt MA w0 wr p n A F v W
  rows : RowsAt A [] [] W D
theorem OSt.len {MA : MAt} {w0 wr : World} {p n : Nat} {A : Mst} {F : Nat → Prop} {v : Value} {W D : List Int} (h : OSt MA w0 wr p n A F v W D) : W.length ≤ n := by
  have := good_le h.st.pm.good 2 (by decide)
  rwa [h.rows.r2] at this
set_option maxHeartbeats 16000000 in
theorem order_any {MA : MAt} (K : MillK MA) (n : Int) (j0 : -9223372036854775808 ≤ n) (j1 : n ≤ 9223372036854775807) (ad : Option Addr) (len cap : Nat) (w : World) (HA : Nums w ad len) (hlen : len ≤ maxLen) :
    Calls Try.prog 7 #[.int .i64 n, .slice ad len cap] w fun e w' => e = .returned (.bool true) ∧ Below w.heap.size w w' := by
  replace HA := Lib.hid HA
  obtain ⟨b0, b1⟩ := within_bd n 0 25 (by omega)
  go_enter Try.func7, Try.ntmps7
  go_wp2_with fail
  refine (within_c n 0 25 j0 j1 (by omega) (by omega) (by omega) w).mono ?_
  rintro e w1 ⟨rfl, hw1⟩
  subst w1
  obtain ⟨m, hm, m1, m2⟩ : ∃ m : Nat, 1 + within n 0 25 = m ∧ 1 ≤ m ∧ m ≤ 26 := ⟨(1 + within n 0 25).toNat, by omega, by omega, by omega⟩
  clear b0 b1
  have wm : IntKind.i64.wrap ((m : Int) - 1) = (m : Int) - 1 := by rw [IntKind.wrap_i64]; omega
  go_wp2_with fail
  refine (K.new m (by omega) (by omega)).mono ?_
  rintro e w1 ⟨p, F, rfl, hra, hF, hb⟩
  have hs : PM MA w w1 p m (startA m) F := ⟨hra, hb, hF, good_start m⟩
  clear hra hb hF
  replace hs := Lib.hid hs
  go_wp2
  go_loopw [7] (fun i wr => ∃ j : Nat, j ≤ m ∧ i = .int .i64 j ∧ ∃ A F, Hid (PM MA w wr p m A F ∧ RowsAt A ((rng m).drop j) ((rng m).take j) [] [])) (fun i _ => m - (intOf i).toNat)
  case atStart => exact ⟨0, by omega, rfl, _, _, Lib.hid ⟨hs.out, by simpa using rows_start m⟩⟩
  case round =>
    obtain ⟨j, hj, rfl, A, F, hst⟩ := hrel
    clear hs
    by_cases hlt : j < m
    · have d1 : decide ((j : Int) < (m : Int)) = true := by simp; omega
      have R1 := RowsAt.alloc (i := (j : Int)) (a := (rng m).drop (j + 1)) (by have := hst.out.2; rwa [rng_drop hlt] at this)
      have P := K.alloc hst.out.1.ma
      rw [R1.2] at P
      go_wp2_with fail
      refine P.mono ?_
      clear P
      rintro e w2 ⟨F2, rfl, hm2, hc2, hn2⟩
      have hst2 := Lib.hid (show PM MA w w2 p m (firstA A 0 1) F2 ∧ RowsAt (firstA A 0 1) ((rng m).drop (j + 1)) ((rng m).take (j + 1)) [] [] from ⟨hst.out.1.step hm2 hc2 hn2 (good_first hst.out.1.good 0 (Or.inl rfl)), by rw [rng_take hlt]; exact R1.1⟩)
      clear hst hm2 hc2 hn2 R1
      go_wp2
      go_roundw
      case rel => exact ⟨j + 1, by omega, by go_num, _, _, hst2⟩
      case measure => simp [intOf]; omega
    · have d1 : decide ((j : Int) < (m : Int)) = false := by simp; omega
      have hjm : j = m := by omega
      subst hjm
      have R1 := RowsAt.flip (a := []) (b := rng j) (d := []) (by have := hst.out.2; rwa [List.drop_eq_nil_of_le (by rw [rng_len]; exact Nat.le_refl _), List.take_of_length_le (by rw [rng_len]; exact Nat.le_refl _)] at this)
      go_wp2_with fail
      refine (K.flip hst.out.1.ma).mono ?_
      rintro e w2 ⟨u0, F2, rfl, hm2, hc2, hn2, _, _⟩
      have hst2 := Lib.hid (show PM MA w w2 p j (flipA A) F2 ∧ RowsAt (flipA A) [] [] [] (rng j) from ⟨hst.out.1.step hm2 hc2 hn2 (good_flip hst.out.1.good), R1.1⟩)
      clear hst hm2 hc2 hn2 R1
      have s0 : Hid (OSt MA w w2 p j (flipA A) F2 (.slice none 0 0) [] (rng j)) := Lib.hid ⟨⟨hst2.out.1, World.ownsRow_nil _ _ _ _, fun g hg => by cases hg⟩, hst2.out.2⟩
      clear hst2
      go_wp2
      go_loopw [8, 9] (fun v i wr => ∃ k : Nat, k ≤ len ∧ k ≤ 30 ∧ i = .int .i64 k ∧ ∃ A F W D, Hid (OSt MA w wr p j A F v W D)) (fun _ i _ => 30 - (intOf i).toNat)
      case atStart => exact ⟨0, by omega, by omega, rfl, _, _, _, _, s0⟩
      case round =>
        obtain ⟨k, hk, hk2, rfl, A, F, W, D, hst⟩ := hrel
        clear s0
        by_cases hlt2 : k < len ∧ k < 30
        · obtain ⟨g, off, x, rfl, ⟨x0, x1⟩, cx⟩ := HA.out _ hst.out.st.pm.bel k hlt2.1
          have d2 : decide ((k : Int) < (len : Int)) = true := by simp; omega
          have d3 : decide ((k : Int) < 30) = true := by simp; omega
          obtain ⟨y0, y1⟩ := within_bd x 0 ((j : Int) - 1) (by omega)
          go_wp2_with fail
          refine (within_c x 0 ((j : Int) - 1) x0 x1 (by omega) (by omega) (by omega) _).mono ?_
          rintro e w5 ⟨rfl, hw5⟩
          subst w5
          generalize within x 0 ((j : Int) - 1) = y at *
          have P := K.shade y hst.out.st.pm.ma (by omega) (by omega)
          by_cases hc : colorR A y = 3
          · rw [decide_eq_true hc] at P
            replace hc := Lib.hid hc
            go_wp2_with fail
            refine P.mono ?_
            clear P
            rintro e w6 ⟨F3, rfl, hm3, hc3, hn3⟩
            have st3 := Lib.hid (hst.out.st.step hm3 hc3 hn3 (good_shade hst.out.st.pm.good y))
            have R3 := Lib.hid (hst.out.rows.shade hc.out)
            have hW : W.length ≤ 26 := Nat.le_trans hst.out.len (by omega)
            clear hst hm3 hc3 hn3
            go_wp2_with (first | (at_builtin; refine wpList_app rfl (.tmp 49) (.tmp 51) rfl w.heap.size _ u8 _ W [y] (by simp [Act.eval]) rfl (st3.out.own.alloc _) (Reads.one ((World.cell?_alloc_new _ _ _ 0).trans rfl)) (by simp only [List.length_singleton]; omega) (by have := st3.out.pm.bel.size; simp; omega) ?_; intro v1 w7 hown1 hgrow1 hat1; rw [← List.length_append] at hown1; have st4 := Lib.hid (st3.out.app K hown1 hgrow1 hat1); clear hown1 hgrow1 hat1))
            go_roundw
            case rel => exact ⟨k + 1, by omega, by omega, by go_num, _, _, _, _, Lib.hid ⟨st4.out, R3.out⟩⟩
            case measure => simp [intOf]; omega
          · rw [decide_eq_false hc, shade_not hc] at P
            clear hc
            go_wp2_with fail
            refine P.mono ?_
            clear P
            rintro e w6 ⟨F3, rfl, hm3, hc3, hn3⟩
            have st3 := Lib.hid (show OSt MA w w6 p j A F3 _ W D from ⟨hst.out.st.step hm3 hc3 hn3 hst.out.st.pm.good, hst.out.rows⟩)
            clear hst hm3 hc3 hn3
            go_wp2
            go_roundw
            case rel => exact ⟨k + 1, by omega, by omega, by go_num, _, _, _, _, st3⟩
            case measure => simp [intOf]; omega
        · have hW : W.length ≤ 26 := Nat.le_trans hst.out.len (by omega)
          have LK := K.list 2 hst.out.st.pm.ma (by omega) (by omega)
          rw [show rowA A 2 = W from (rowA_in A 2 (by decide)).trans hst.out.rows.r2] at LK
          replace LK := Lib.hid LK
          by_cases hl1 : k < len
          · have d2 : decide ((k : Int) < (len : Int)) = true := by simp; omega
            have d3 : decide ((k : Int) < 30) = false := by simp; omega
            go_wp2_with fail
            refine LK.out.mono ?_
            clear LK
            rintro e w5 ⟨u, rfl, hu, hb5, _⟩
            have st5 := Lib.hid (hst.out.st.keep K hb5)
            have R5 := Lib.hid hst.out.rows
            have S1 := Lib.hid (same_ints W W u _ w5 hu (own_base st5.out.own) (by omega) (by omega))
            clear hu hb5 hst
            go_wp2_with fail
            refine S1.out.mono ?_
            clear S1
            rintro e w6 ⟨rfl, q, rfl⟩
            have st6 := Lib.hid (st5.out.keep K (drewN_bel w5 q))
            clear st5
            rcases (show SL _ 3 _ W from own_base st6.out.own).cases with ⟨hv, hW0⟩ | ⟨g9, cap9, hv, _, _, _, _⟩
            · subst hv
              subst hW0
              have st := Lib.hid (And.intro st6.out R5.out)
              clear st6 R5
              go_wp2
              refine wp_loop_rounds 1 ?_
              rw [rounds_succ]
              go_wp2_with fail
              have P := K.scan st.out.1.pm.ma
              rw [(RowsAt.noscan st.out.2).2] at P
              go_wp2_with fail
              refine P.mono ?_
              clear P
              rintro e wa ⟨Fa, rfl, hma, hca, hna⟩
              have st1 := Lib.hid (And.intro (st.out.1.step hma hca hna (good_first st.out.1.pm.good 2 (Or.inr rfl))) (RowsAt.noscan st.out.2).1)
              have L1 := K.list 1 st1.out.1.pm.ma (by omega) (by omega)
              rw [show rowA (firstA A 2 1) 1 = [] from (rowA_in _ 1 (by decide)).trans st1.out.2.r1] at L1
              clear hma hca hna st
              go_wp2_with fail
              refine L1.mono ?_
              clear L1
              rintro e wb ⟨ub, rfl, hub, hbb, _⟩
              have st2 := Lib.hid (st1.out.1.keep K hbb)
              have S2 := Lib.hid (same_ints [] [] ub _ wb hub (own_base st2.out.own) (by simp) (by simp))
              clear hub hbb st1
              go_wp2_with fail
              refine S2.out.mono ?_
              clear S2
              rintro e wc ⟨rfl, q2, rfl⟩
              have st3 := Lib.hid (st2.out.keep K (drewN_bel wb q2)).pm.bel
              clear st2
              go_wp2_with fail
              refine (known_c K _).mono ?_
              rintro e wd ⟨rfl, hd⟩
              have hbel := Lib.hid (st3.out.trans (hd.mono st3.out.size))
              clear hd
              go_wp2
              go_ret
              exact ⟨rfl, hbel.out⟩
            · subst hv
              obtain ⟨t9, ht9⟩ : ∃ t9, t9 = W.length := ⟨_, rfl⟩
              rw [← ht9] at st6 ⊢
              have HT := Lib.hid ht9
              have ht26 : t9 ≤ 26 := by omega
              have s0 := Lib.hid (show WSt MA w _ p j A F _ W ∧ RowsAt A [] (W.take 0) (W.drop 0) D from ⟨st6.out, by simpa using R5.out⟩)
              clear st6 R5 ht9
              go_wp2
              go_loopw [60] (fun i wr => ∃ t : Nat, t ≤ t9 ∧ i = .int .i64 t ∧ ∃ A F, Hid (WSt MA w wr p j A F (.slice (some ⟨g9, 0, none⟩) t9 cap9) W ∧ RowsAt A [] (W.take t) (W.drop t) D)) (fun i _ => t9 - (intOf i).toNat)
              case atStart => exact ⟨0, by omega, rfl, _, _, s0⟩
              case round =>
                obtain ⟨t, ht, rfl, A, F, hst⟩ := hrel
                clear s0
                by_cases hlt3 : t < t9
                · have d3 : decide ((t : Int) < (t9 : Int)) = true := by simp; omega
                  obtain ⟨x, hx⟩ : ∃ x, W[t]? = some x := ⟨W[t]'(by have := HT.out; omega), by simp⟩
                  have hd : W.drop t = x :: W.drop (t + 1) := by
                    obtain ⟨hl, he⟩ := List.getElem?_eq_some_iff.1 hx
                    rw [← he, List.drop_eq_getElem_cons hl]
                  have R1 := RowsAt.scan (i := x) (c := W.drop (t + 1)) (by have := hst.out.2; rwa [hd] at this)
                  have cx := row_cell (own_base (by have := hst.out.1.own; rwa [← HT.out] at this)) hx
                  have P := K.scan hst.out.1.pm.ma
                  rw [R1.2] at P
                  have p0 : (0 : Int) ≤ (t : Int) := by omega
                  have p1 : (t : Int) < (t9 : Int) := by omega
                  have HX : Hid (W.take (t + 1) = W.take t ++ [x]) := Lib.hid (by rw [List.take_add_one, hx]; rfl)
                  replace R1 := Lib.hid R1
                  clear hd hx
                  go_wp2_with fail
                  refine P.mono ?_
                  clear P
                  rintro e w7 ⟨F7, rfl, hm7, hc7, hn7⟩
                  have st7 := Lib.hid (show WSt MA w w7 p j (firstA A 2 1) F7 (.slice (some ⟨g9, 0, none⟩) t9 cap9) W ∧ RowsAt (firstA A 2 1) [] (W.take (t + 1)) (W.drop (t + 1)) D from ⟨hst.out.1.step hm7 hc7 hn7 (good_first hst.out.1.pm.good 2 (Or.inr rfl)), by rw [HX.out]; exact R1.out.1⟩)
                  have e3 : (x != x) = false := by simp
                  clear hst hm7 hc7 hn7 R1 cx
                  go_wp2
                  go_roundw
                  case rel => exact ⟨t + 1, by omega, by go_num, _, _, st7⟩
                  case measure => simp [intOf]; omega
                · have d3 : decide ((t : Int) < (t9 : Int)) = false := by simp; omega
                  have st := Lib.hid (show WSt MA w _ p j A F (.slice (some ⟨g9, 0, none⟩) t9 cap9) W ∧ RowsAt A [] W [] D from ⟨hst.out.1, by have := hst.out.2; rwa [List.take_of_length_le (by have := HT.out; omega), List.drop_eq_nil_of_le (by have := HT.out; omega)] at this⟩)
                  clear hst
                  have P := K.scan st.out.1.pm.ma
                  rw [(RowsAt.noscan st.out.2).2] at P
                  go_wp2_with fail
                  refine P.mono ?_
                  clear P
                  rintro e wa ⟨Fa, rfl, hma, hca, hna⟩
                  have st1 := Lib.hid (And.intro (st.out.1.step hma hca hna (good_first st.out.1.pm.good 2 (Or.inr rfl))) (RowsAt.noscan st.out.2).1)
                  have L1 := K.list 1 st1.out.1.pm.ma (by omega) (by omega)
                  rw [show rowA (firstA A 2 1) 1 = W from (rowA_in _ 1 (by decide)).trans st1.out.2.r1] at L1
                  clear hma hca hna st
                  go_wp2_with fail
                  refine L1.mono ?_
                  clear L1
                  rintro e wb ⟨ub, rfl, hub, hbb, _⟩
                  have st2 := Lib.hid (st1.out.1.keep K hbb)
                  have S2 := Lib.hid (same_ints W W ub _ wb hub (own_base st2.out.own) (by omega) (by omega))
                  clear hub hbb st1
                  go_wp2_with fail
                  refine S2.out.mono ?_
                  clear S2
                  rintro e wc ⟨rfl, q2, rfl⟩
                  have st3 := Lib.hid (st2.out.keep K (drewN_bel wb q2)).pm.bel
                  clear st2
                  go_wp2_with fail
                  refine (known_c K _).mono ?_
                  rintro e wd ⟨rfl, hd⟩
                  have hbel := Lib.hid (st3.out.trans (hd.mono st3.out.size))
                  clear hd
                  go_wp2
                  go_ret
                  exact ⟨rfl, hbel.out⟩
          · have d2 : decide ((k : Int) < (len : Int)) = false := by simp; omega
            go_wp2_with fail
            refine LK.out.mono ?_
            clear LK
            rintro e w5 ⟨u, rfl, hu, hb5, _⟩
            have st5 := Lib.hid (hst.out.st.keep K hb5)
            have R5 := Lib.hid hst.out.rows
            have S1 := Lib.hid (same_ints W W u _ w5 hu (own_base st5.out.own) (by omega) (by omega))
            clear hu hb5 hst
            go_wp2_with fail
            refine S1.out.mono ?_
            clear S1
            rintro e w6 ⟨rfl, q, rfl⟩
            have st6 := Lib.hid (st5.out.keep K (drewN_bel w5 q))
            clear st5
            rcases (show SL _ 3 _ W from own_base st6.out.own).cases with ⟨hv, hW0⟩ | ⟨g9, cap9, hv, _, _, _, _⟩
            · subst hv
              subst hW0
              have st := Lib.hid (And.intro st6.out R5.out)
              clear st6 R5
              go_wp2
              refine wp_loop_rounds 1 ?_
              rw [rounds_succ]
              go_wp2_with fail
              have P := K.scan st.out.1.pm.ma
              rw [(RowsAt.noscan st.out.2).2] at P
              go_wp2_with fail
              refine P.mono ?_
              clear P
              rintro e wa ⟨Fa, rfl, hma, hca, hna⟩
              have st1 := Lib.hid (And.intro (st.out.1.step hma hca hna (good_first st.out.1.pm.good 2 (Or.inr rfl))) (RowsAt.noscan st.out.2).1)
              have L1 := K.list 1 st1.out.1.pm.ma (by omega) (by omega)
              rw [show rowA (firstA A 2 1) 1 = [] from (rowA_in _ 1 (by decide)).trans st1.out.2.r1] at L1
              clear hma hca hna st
              go_wp2_with fail
              refine L1.mono ?_
              clear L1
              rintro e wb ⟨ub, rfl, hub, hbb, _⟩
              have st2 := Lib.hid (st1.out.1.keep K hbb)
              have S2 := Lib.hid (same_ints [] [] ub _ wb hub (own_base st2.out.own) (by simp) (by simp))
              clear hub hbb st1
              go_wp2_with fail
              refine S2.out.mono ?_
              clear S2
              rintro e wc ⟨rfl, q2, rfl⟩
              have st3 := Lib.hid (st2.out.keep K (drewN_bel wb q2)).pm.bel
              clear st2
              go_wp2_with fail
              refine (known_c K _).mono ?_
              rintro e wd ⟨rfl, hd⟩
              have hbel := Lib.hid (st3.out.trans (hd.mono st3.out.size))
              clear hd
              go_wp2
              go_ret
              exact ⟨rfl, hbel.out⟩
            · subst hv
              obtain ⟨t9, ht9⟩ : ∃ t9, t9 = W.length := ⟨_, rfl⟩
              rw [← ht9] at st6 ⊢
              have HT := Lib.hid ht9
              have ht26 : t9 ≤ 26 := by omega
              have s0 := Lib.hid (show WSt MA w _ p j A F _ W ∧ RowsAt A [] (W.take 0) (W.drop 0) D from ⟨st6.out, by simpa using R5.out⟩)
              clear st6 R5 ht9
              go_wp2
              go_loopw [60] (fun i wr => ∃ t : Nat, t ≤ t9 ∧ i = .int .i64 t ∧ ∃ A F, Hid (WSt MA w wr p j A F (.slice (some ⟨g9, 0, none⟩) t9 cap9) W ∧ RowsAt A [] (W.take t) (W.drop t) D)) (fun i _ => t9 - (intOf i).toNat)
              case atStart => exact ⟨0, by omega, rfl, _, _, s0⟩
              case round =>
                obtain ⟨t, ht, rfl, A, F, hst⟩ := hrel
                clear s0
                by_cases hlt3 : t < t9
                · have d3 : decide ((t : Int) < (t9 : Int)) = true := by simp; omega
                  obtain ⟨x, hx⟩ : ∃ x, W[t]? = some x := ⟨W[t]'(by have := HT.out; omega), by simp⟩
                  have hd : W.drop t = x :: W.drop (t + 1) := by
                    obtain ⟨hl, he⟩ := List.getElem?_eq_some_iff.1 hx
                    rw [← he, List.drop_eq_getElem_cons hl]
                  have R1 := RowsAt.scan (i := x) (c := W.drop (t + 1)) (by have := hst.out.2; rwa [hd] at this)
                  have cx := row_cell (own_base (by have := hst.out.1.own; rwa [← HT.out] at this)) hx
                  have P := K.scan hst.out.1.pm.ma
                  rw [R1.2] at P
                  have p0 : (0 : Int) ≤ (t : Int) := by omega
                  have p1 : (t : Int) < (t9 : Int) := by omega
                  have HX : Hid (W.take (t + 1) = W.take t ++ [x]) := Lib.hid (by rw [List.take_add_one, hx]; rfl)
                  replace R1 := Lib.hid R1
                  clear hd hx
                  go_wp2_with fail
                  refine P.mono ?_
                  clear P
                  rintro e w7 ⟨F7, rfl, hm7, hc7, hn7⟩
                  have st7 := Lib.hid (show WSt MA w w7 p j (firstA A 2 1) F7 (.slice (some ⟨g9, 0, none⟩) t9 cap9) W ∧ RowsAt (firstA A 2 1) [] (W.take (t + 1)) (W.drop (t + 1)) D from ⟨hst.out.1.step hm7 hc7 hn7 (good_first hst.out.1.pm.good 2 (Or.inr rfl)), by rw [HX.out]; exact R1.out.1⟩)
                  have e3 : (x != x) = false := by simp
                  clear hst hm7 hc7 hn7 R1 cx
                  go_wp2
                  go_roundw
                  case rel => exact ⟨t + 1, by omega, by go_num, _, _, st7⟩
                  case measure => simp [intOf]; omega
                · have d3 : decide ((t : Int) < (t9 : Int)) = false := by simp; omega
                  have st := Lib.hid (show WSt MA w _ p j A F (.slice (some ⟨g9, 0, none⟩) t9 cap9) W ∧ RowsAt A [] W [] D from ⟨hst.out.1, by have := hst.out.2; rwa [List.take_of_length_le (by have := HT.out; omega), List.drop_eq_nil_of_le (by have := HT.out; omega)] at this⟩)
                  clear hst
                  have P := K.scan st.out.1.pm.ma
                  rw [(RowsAt.noscan st.out.2).2] at P
                  go_wp2_with fail
                  refine P.mono ?_
                  clear P
                  rintro e wa ⟨Fa, rfl, hma, hca, hna⟩
                  have st1 := Lib.hid (And.intro (st.out.1.step hma hca hna (good_first st.out.1.pm.good 2 (Or.inr rfl))) (RowsAt.noscan st.out.2).1)
                  have L1 := K.list 1 st1.out.1.pm.ma (by omega) (by omega)
                  rw [show rowA (firstA A 2 1) 1 = W from (rowA_in _ 1 (by decide)).trans st1.out.2.r1] at L1
                  clear hma hca hna st
                  go_wp2_with fail
                  refine L1.mono ?_
                  clear L1
                  rintro e wb ⟨ub, rfl, hub, hbb, _⟩
                  have st2 := Lib.hid (st1.out.1.keep K hbb)
                  have S2 := Lib.hid (same_ints W W ub _ wb hub (own_base st2.out.own) (by omega) (by omega))
                  clear hub hbb st1
                  go_wp2_with fail
                  refine S2.out.mono ?_
                  clear S2
                  rintro e wc ⟨rfl, q2, rfl⟩
                  have st3 := Lib.hid (st2.out.keep K (drewN_bel wb q2)).pm.bel
                  clear st2
                  go_wp2_with fail
                  refine (known_c K _).mono ?_
                  rintro e wd ⟨rfl, hd⟩
                  have hbel := Lib.hid (st3.out.trans (hd.mono st3.out.size))
                  clear hd
                  go_wp2
                  go_ret
                  exact ⟨rfl, hbel.out⟩
end Wd
end Go.Proofs.Ytjobeomadkaeoaa
