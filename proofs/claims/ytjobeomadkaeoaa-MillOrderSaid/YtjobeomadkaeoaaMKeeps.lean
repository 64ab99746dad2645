/- What the laws ask of a mill, whoever keeps it: MillKeeps. -/
import Derived.Test.YtjobeomadkaeoaaMCycles
namespace Go.Proofs.Ytjobeomadkaeoaa
open Go.RowKit
set_option linter.unusedVariables false
namespace Wd
/-- a mill of the package's, and who is given, in block gb: those that are not in X -/
structure KSt (MA : MAt) (w0 wr : World) (p n gb : Nat) (A : Mst) (F : Nat → Prop) (X : List Int) : Prop where
  pm : PM MA w0 wr p n A F
  gv : ∀ c : Nat, c < n → wr.cell? ⟨gb, c, none⟩ = some (.bool (decide ((c : Int) ∉ X)))
  gz : ∀ c, wr.frozen? ⟨gb, c, none⟩ = false
  gf : ¬ F gb
  gb0 : w0.heap.size ≤ gb
section
variable {MA : MAt} {w0 wr wA w1 : World} {p n gb : Nat} {A A' : Mst} {F F' : Nat → Prop} {X : List Int}
theorem KSt.lt (h : KSt MA w0 wr p n gb A F X) (hn : 0 < n) : gb < wr.heap.size := World.block_lt_of_cell? wr _ (h.gv 0 hn)
theorem KSt.keep (K : MillK MA) (h : KSt MA w0 wr p n gb A F X) (hn : 0 < n) (g : Below wr.heap.size wr wA) : KSt MA w0 wA p n gb A F X :=
  ⟨h.pm.keep K g, fun c hc => (g.cell (p := ⟨gb, c, none⟩) (h.lt hn)).trans (h.gv c hc), fun c => (g.frozen (p := ⟨gb, c, none⟩) (h.lt hn)).trans (h.gz c), h.gf, h.gb0⟩
theorem KSt.step (h : KSt MA w0 wr p n gb A F X) (hp : 0 < n) (hm : MA w1 p n A' F') (c : Ch F wr w1) (hn : Newer F F' wr.heap.size) (good : Good n A') : KSt MA w0 w1 p n gb A' F' X := by
  have hb := c.block gb (h.lt hp) h.gf
  refine ⟨h.pm.step hm c hn good, fun q hq => (World.cell?_of_block (a := ⟨gb, q, none⟩) hb).trans (h.gv q hq), fun q => (World.frozen?_of_block (a := ⟨gb, q, none⟩) hb).trans (h.gz q), fun hF => ?_, h.gb0⟩
  rcases hn gb hF with h' | h'
  · exact h.gf h'
  · have := h.lt hp; omega
theorem KSt.set (K : MillK MA) (h : KSt MA w0 wr p n gb A F X) {e : Nat} {b : Bool} {Y : List Int} (he : e < n) (hb : b = decide ((e : Int) ∉ Y)) (hY : ∀ c : Nat, c < n → c ≠ e → ((c : Int) ∈ Y ↔ (c : Int) ∈ X)) : KSt MA w0 (wr.setCell ⟨gb, e, none⟩ (.bool b)) p n gb A F Y := by
  refine ⟨⟨K.keep h.pm.ma (fun k hk => Below.heap_setCell _ _ _ _ (fun e' => h.gf (by have : k = gb := e'; rw [← this]; exact hk))), h.pm.bel.setCell h.gb0 _, h.pm.fF, h.pm.good⟩, fun c hc => ?_, fun c => by rw [World.frozen?_setCell]; exact h.gz c, h.gf, h.gb0⟩
  by_cases ce : c = e
  · subst ce
    rw [← hb]
    exact World.cell?_setCell_same _ _ _ (h.gv c hc)
  · refine (World.cell?_setCell_other _ _ _ _ (by intro e'; cases e'; exact ce rfl)).trans ((h.gv c hc).trans ?_)
    have := hY c hc ce
    simp only [Option.some.injEq, Value.bool.injEq, decide_eq_decide]
    exact (not_congr this).symm
end
def psum (A : Mst) : Nat → Nat
  | 0 => 0
  | t + 1 => psum A t + (A t).length
theorem psum4 {n : Nat} {A : Mst} (h : Good n A) : psum A 4 = n := by
  have := good_len h
  simp only [psum]
  omega
theorem psum_le {n : Nat} {A : Mst} (h : Good n A) : ∀ t, t ≤ 4 → psum A t ≤ n := by
  have := good_len h
  intro t ht
  rcases (show t = 0 ∨ t = 1 ∨ t = 2 ∨ t = 3 ∨ t = 4 by omega) with rfl | rfl | rfl | rfl | rfl <;> simp only [psum] <;> omega
theorem color0 {A : Mst} {i : Int} (h : i ∈ A 0) : colorR A i = 0 := if_pos h
theorem color0_not {A : Mst} {i : Int} (h : i ∉ A 0) : (colorR A i == 0) = false := by
  unfold colorR
  rw [if_neg h]
  split
  · rfl
  · split
    · rfl
    · split <;> rfl
theorem color1 {n : Nat} {A : Mst} (h : Good n A) {i : Int} (hi : i ∈ A 1) : colorR A i = 1 := by
  obtain ⟨_, n1, d0⟩ := List.nodup_append.1 (good_nd h)
  unfold colorR
  rw [if_neg (fun h0 => d0 i h0 i (by simp [hi]) rfl), if_pos hi]
theorem good_bd {n : Nat} {A : Mst} (h : Good n A) {x : Int} {k : Nat} (hk : k < 4) (hx : x ∈ A k) : ∃ y : Nat, x = y ∧ y < n := by
  have : x ∈ rng n := (h.mem_iff).1 (by
    rcases (show k = 0 ∨ k = 1 ∨ k = 2 ∨ k = 3 by omega) with rfl | rfl | rfl | rfl <;> simp [hx])
  simp only [rng, List.mem_map, List.mem_range] at this
  obtain ⟨y, hy, rfl⟩ := this
  exact ⟨y, rfl, hy⟩
theorem shade0 (A : Mst) (i : Int) : shadeA A i 0 = A 0 := by
  unfold shadeA
  split
  · simp [upA]
  · rfl
theorem scan0 (A : Mst) : firstA A 2 1 0 = A 0 := by
  cases h : A 2 with
  | nil => simp [firstA, h]
  | cons i T => simp [firstA, h, upA]
theorem flip0 (A : Mst) : flipA A 0 = A 0 ++ flipR A := by
  unfold flipA flipR
  split
  · simp [upA]
  · simp
theorem KS.keep {MA : MAt} (K : MillK MA) {w0 w w' : World} {p n gb t : Nat} {A : Mst} {F : Nat → Prop} {X : List Int} {u : Value} (hn : 0 < n) (h : w.cell? ⟨gb, t, none⟩ = some u ∧ KSt MA w0 w p n gb A F X) (g : Below w.heap.size w w') : w'.cell? ⟨gb, t, none⟩ = some u ∧ KSt MA w0 w' p n gb A F X :=
  ⟨(g.cell (p := ⟨gb, t, none⟩) (h.2.lt hn)).trans h.1, h.2.keep K hn g⟩
theorem KS.ma {MA : MAt} {w0 w : World} {p n gb : Nat} {A : Mst} {F : Nat → Prop} {X : List Int} {u : Value} {q : Addr} (h : w.cell? q = some u ∧ KSt MA w0 w p n gb A F X) : MA w p n A F := h.2.pm.ma
/-- at the beginning nobody is given -/
theorem KSt.start {MA : MAt} (K : MillK MA) {w0 w1 : World} {p m : Nat} {F : Nat → Prop} {cs : Array Value} {T : TypeId} (h : PM MA w0 w1 p m (startA m) F) (hm : m ≤ 32) (hc : cs = (List.replicate 32 (Value.bool false)).toArray) : KSt MA w0 (w1.alloc (.cells cs T)) p m w1.heap.size (startA m) F (startA m 0) := by
  refine ⟨h.keep K ((Below.refl _ _).alloc (Nat.le_refl _) _), fun c hcm => ?_, fun c => World.frozen?_alloc_new _ _ _ _, fun hF => ?_, h.bel.size⟩
  · have e : decide ((c : Int) ∉ startA m 0) = false := by
      simp only [decide_eq_false_iff_not, Classical.not_not]
      show (c : Int) ∈ rng m
      simp only [rng, List.mem_map, List.mem_range]
      exact ⟨c, hcm, rfl⟩
    rw [e, World.cell?_alloc_new, hc, List.getElem?_toArray, List.getElem?_replicate, if_pos (by omega)]
  · have := K.lt h.ma _ hF; omega
set_option maxRecDepth 20000 in
set_option maxHeartbeats 16000000 in
theorem keeps_any {MA : MAt} (K : MillK MA) (n : Int) (j0 : -9223372036854775808 ≤ n) (j1 : n ≤ 9223372036854775807) (ad : Option Addr) (len cap : Nat) (w : World) (HA : Asks w ad len) (hlen : len * 16 ≤ 140737488351232) :
    Calls Try.prog 5 #[.int .i64 n, .slice ad len cap] w fun e w' => e = .returned (.bool true) ∧ Below w.heap.size w w' := by
  replace HA := Lib.hid HA
  obtain ⟨b0, b1⟩ := within_bd n 0 20 (by omega)
  go_enter Try.func5, Try.ntmps5
  go_wp2_with fail
  refine (within_c n 0 20 j0 j1 (by omega) (by omega) (by omega) w).mono ?_
  rintro e w1 ⟨rfl, hw1⟩
  subst w1
  obtain ⟨m, hm, m1, m2⟩ : ∃ m : Nat, 1 + within n 0 20 = m ∧ 1 ≤ m ∧ m ≤ 21 := ⟨(1 + within n 0 20).toNat, by omega, by omega, by omega⟩
  clear b0 b1
  have wm : IntKind.i64.wrap ((m : Int) - 1) = (m : Int) - 1 := by rw [IntKind.wrap_i64]; omega
  go_wp2_with fail
  refine (K.new m (by omega) (by omega)).mono ?_
  rintro e w1 ⟨p, F, rfl, hra, hF, hb⟩
  have hs : PM MA w w1 p m (startA m) F := ⟨hra, hb, hF, good_start m⟩
  clear hra hb hF
  replace hs := Lib.hid hs
  have ks := Lib.hid (KSt.start K (cs := #[.bool false, .bool false, .bool false, .bool false, .bool false, .bool false, .bool false, .bool false, .bool false, .bool false, .bool false, .bool false, .bool false, .bool false, .bool false, .bool false, .bool false, .bool false, .bool false, .bool false, .bool false, .bool false, .bool false, .bool false, .bool false, .bool false, .bool false, .bool false, .bool false, .bool false, .bool false, .bool false]) (T := 30) hs.out (by omega) rfl)
  clear hs
  go_wp2
  obtain ⟨gb, hgb⟩ : ∃ gb, gb = w1.heap.size := ⟨_, rfl⟩
  rw [← hgb] at ks
  simp only [← hgb]
  generalize (w1.alloc (.cells #[.bool false, .bool false, .bool false, .bool false, .bool false, .bool false, .bool false, .bool false, .bool false, .bool false, .bool false, .bool false, .bool false, .bool false, .bool false, .bool false, .bool false, .bool false, .bool false, .bool false, .bool false, .bool false, .bool false, .bool false, .bool false, .bool false, .bool false, .bool false, .bool false, .bool false, .bool false, .bool false] 30)) = wz at ks ⊢
  clear hgb
  go_loopw [8] (fun i wr => ∃ k : Nat, k ≤ len ∧ k ≤ 120 ∧ i = .int .i64 k ∧ ∃ A F, Hid (KSt MA w wr p m gb A F (A 0))) (fun i _ => 120 - (intOf i).toNat)
  case atStart => exact ⟨0, by omega, by omega, rfl, _, _, ks⟩
  case round =>
    clear ks
    obtain ⟨k, hk, hk2, rfl, A, F, hst⟩ := hrel
    by_cases hlt : k < len ∧ k < 120
    · obtain ⟨g, off, x, y, rfl, ⟨x0, x1⟩, ⟨y0, y1⟩, cx, cy⟩ := HA.out _ hst.out.pm.bel k hlt.1
      have d1 : decide ((k : Int) < (len : Int)) = true := by simp; omega
      have d2 : decide ((k : Int) < 120) = true := by simp; omega
      obtain ⟨z0, z1⟩ := within_bd x 0 6 (by omega)
      go_wp2_with fail
      refine (within_c x 0 6 x0 x1 (by omega) (by omega) (by omega) _).mono ?_
      rintro e w5 ⟨rfl, hw5⟩
      subst w5
      generalize within x 0 6 = z at *
      by_cases hz3 : z = 3
      · have q3 : (z == 3) = true := by simp [hz3]
        clear hz3
        obtain ⟨y2, y3⟩ := within_bd y 0 ((m : Int) - 1) (by omega)
        go_wp2_with fail
        refine (within_c y 0 ((m : Int) - 1) y0 y1 (by omega) (by omega) (by omega) _).mono ?_
        rintro e w5 ⟨rfl, hw5⟩
        subst w5
        generalize within y 0 ((m : Int) - 1) = i at *
        have P := K.shade i hst.out.pm.ma (by omega) (by omega)
        go_wp2_with fail
        refine P.mono ?_
        clear P
        rintro e w6 ⟨F2, rfl, hm2, hc2, hn2⟩
        generalize decide (colorR A i = 3) = bb at *
        obtain ⟨A2, hA2⟩ : ∃ A2, A2 = shadeA A i := ⟨_, rfl⟩
        have st : Hid (KSt MA w w6 p m gb A2 F2 (A2 0)) := Lib.hid (by rw [hA2, shade0]; exact hst.out.step (by omega) hm2 hc2 hn2 (good_shade hst.out.pm.good i))
        clear hst hm2 hc2 hn2 hA2
        go_wp2
        go_loopw [12, 13] (fun s c wr => ∃ t : Nat, t ≤ 4 ∧ c = .int .i64 t ∧ s = .int .i64 (psum A2 t) ∧ Hid (KSt MA w wr p m gb A2 F2 (A2 0))) (fun _ c _ => 4 - (intOf c).toNat)
        case atStart => exact ⟨0, by omega, rfl, rfl, st⟩
        case round =>
          clear st
          obtain ⟨t, ht, rfl, rfl, st⟩ := hrel
          by_cases h4 : t ≤ 3
          · have d4 : decide ((t : Int) ≤ 3) = true := by simp; omega
            have ps := psum_le st.out.pm.good (t + 1) (by omega)
            have wp : IntKind.i64.wrap ((psum A2 t : Int) + ((A2 t).length : Int)) = (psum A2 (t + 1) : Int) := by
              have e : psum A2 (t + 1) = psum A2 t + (A2 t).length := rfl
              rw [IntKind.wrap_i64]; omega
            have C := K.count (t : Int) st.out.pm.ma (by omega) (by omega)
            rw [rowA_in A2 t (by omega)] at C
            go_wp2_with fail
            refine C.mono ?_
            clear C
            rintro e w9 ⟨rfl, hb9⟩
            have st9 := Lib.hid (st.out.keep K (by omega) hb9)
            clear st hb9 ps
            go_wp2
            go_roundw
            case rel => exact ⟨t + 1, by omega, by go_num, rfl, st9⟩
            case measure => simp [intOf]; omega
          · have ht4 : t = 4 := by omega
            subst ht4
            have hp4 : (psum A2 4 : Int) = (m : Int) := by rw [psum4 st.out.pm.good]
            rw [hp4]
            simp only [show ((4 : Nat) : Int) = (4 : Int) from rfl]
            have em : ((m : Int) != (m : Int)) = false := by simp
            clear hp4
            go_wp2
            go_loopw [14] (fun c wr => ∃ t : Nat, t ≤ m ∧ c = .int .i64 t ∧ Hid (KSt MA w wr p m gb A2 F2 (A2 0))) (fun c _ => m - (intOf c).toNat)
            case atStart => exact ⟨0, by omega, rfl, st⟩
            case round =>
              clear st
              obtain ⟨t, ht, rfl, st⟩ := hrel
              by_cases hlt4 : t < m
              · have d4 : decide ((t : Int) < (m : Int)) = true := by simp; omega
                have p0 : (0 : Int) ≤ (t : Int) := by omega
                have p1 : (t : Int) < 32 := by omega
                have cg := st.out.gv t hlt4
                have hlg := st.out.lt (by omega)
                have ma9 := st.out.pm.ma
                by_cases hmem : (t : Int) ∈ A2 0
                · have PC : Hid (∀ wX, (wX.cell? ⟨gb, t, none⟩ = some (.bool false) ∧ KSt MA w wX p m gb A2 F2 (A2 0)) → Calls Try.prog 16 #[.pointer (some ⟨p, 0, none⟩), .int .i64 (t : Int)] wX fun e w' => e = .returned (.int .i64 0) ∧ Below wX.heap.size wX w') := Lib.hid (fun wX h => by have P := K.color (t : Int) h.2.pm.ma (by omega) (by omega); rwa [color0 hmem] at P)
                  have ST := Lib.hid st.out
                  rw [show decide ((t : Int) ∉ A2 0) = false by simp [hmem]] at cg
                  clear hmem
                  go_wp2
                  go_region_held3 (fun w' => w'.cell? ⟨gb, t, none⟩ = some (.bool false) ∧ KSt MA w w' p m gb A2 F2 (A2 0)) (first | assumption | exact KS.keep K (by omega) ⟨cg, ST.out⟩ (Below.refl _ _).drew | exact KS.keep K (by omega) (by assumption) hb9) (first
                    | (go_at_call 16; ((with_reducible refine (PC.out _ (by assumption)).mono ?_); rintro e w9 ⟨rfl, hb9⟩)))
                  go_wp2
                  go_roundw
                  case rel => exact ⟨t + 1, by omega, by go_num, Lib.hid (show KSt MA w _ p m gb A2 F2 (A2 0) from And.right (by assumption))⟩
                  case measure => simp [intOf]; omega
                · have PC : Hid (∀ wX, (wX.cell? ⟨gb, t, none⟩ = some (.bool true) ∧ KSt MA w wX p m gb A2 F2 (A2 0)) → Calls Try.prog 16 #[.pointer (some ⟨p, 0, none⟩), .int .i64 (t : Int)] wX fun e w' => e = .returned (.int .i64 (colorR A2 (t : Int))) ∧ Below wX.heap.size wX w') := Lib.hid (fun wX h => K.color (t : Int) h.2.pm.ma (by omega) (by omega))
                  have ec := color0_not hmem
                  have ST := Lib.hid st.out
                  rw [show decide ((t : Int) ∉ A2 0) = true by simp [hmem]] at cg
                  generalize colorR A2 (t : Int) = u at *
                  clear hmem
                  go_wp2
                  go_region_held3 (fun w' => w'.cell? ⟨gb, t, none⟩ = some (.bool true) ∧ KSt MA w w' p m gb A2 F2 (A2 0)) (first | assumption | exact KS.keep K (by omega) ⟨cg, ST.out⟩ (Below.refl _ _).drew | exact KS.keep K (by omega) (by assumption) hb9) (first
                    | (go_at_call 16; ((with_reducible refine (PC.out _ (by assumption)).mono ?_); rintro e w9 ⟨rfl, hb9⟩)))
                  go_wp2
                  go_roundw
                  case rel => exact ⟨t + 1, by omega, by go_num, Lib.hid (show KSt MA w _ p m gb A2 F2 (A2 0) from And.right (by assumption))⟩
                  case measure => simp [intOf]; omega
              · have d4 : decide ((t : Int) < (m : Int)) = false := by simp; omega
                go_wp2
                go_roundw
                case rel => exact ⟨k + 1, by omega, by omega, by go_num, _, _, st⟩
                case measure => simp [intOf]; omega
      · have q3 : (z == 3) = false := by simpa using hz3
        by_cases hz4 : z = 4
        · have q4 : (z == 4) = true := by simp [hz4]
          clear hz3 hz4
          obtain ⟨y2, y3⟩ := within_bd y 0 ((m : Int) - 1) (by omega)
          go_wp2_with fail
          refine (within_c y 0 ((m : Int) - 1) y0 y1 (by omega) (by omega) (by omega) _).mono ?_
          rintro e w5 ⟨rfl, hw5⟩
          subst w5
          generalize within y 0 ((m : Int) - 1) = i at *
          have P := K.shade i hst.out.pm.ma (by omega) (by omega)
          go_wp2_with fail
          refine P.mono ?_
          clear P
          rintro e w6 ⟨F2, rfl, hm2, hc2, hn2⟩
          generalize decide (colorR A i = 3) = bb at *
          obtain ⟨A2, hA2⟩ : ∃ A2, A2 = shadeA A i := ⟨_, rfl⟩
          have st : Hid (KSt MA w w6 p m gb A2 F2 (A2 0)) := Lib.hid (by rw [hA2, shade0]; exact hst.out.step (by omega) hm2 hc2 hn2 (good_shade hst.out.pm.good i))
          clear hst hm2 hc2 hn2 hA2
          go_wp2
          go_loopw [12, 13] (fun s c wr => ∃ t : Nat, t ≤ 4 ∧ c = .int .i64 t ∧ s = .int .i64 (psum A2 t) ∧ Hid (KSt MA w wr p m gb A2 F2 (A2 0))) (fun _ c _ => 4 - (intOf c).toNat)
          case atStart => exact ⟨0, by omega, rfl, rfl, st⟩
          case round =>
            clear st
            obtain ⟨t, ht, rfl, rfl, st⟩ := hrel
            by_cases h4 : t ≤ 3
            · have d4 : decide ((t : Int) ≤ 3) = true := by simp; omega
              have ps := psum_le st.out.pm.good (t + 1) (by omega)
              have wp : IntKind.i64.wrap ((psum A2 t : Int) + ((A2 t).length : Int)) = (psum A2 (t + 1) : Int) := by
                have e : psum A2 (t + 1) = psum A2 t + (A2 t).length := rfl
                rw [IntKind.wrap_i64]; omega
              have C := K.count (t : Int) st.out.pm.ma (by omega) (by omega)
              rw [rowA_in A2 t (by omega)] at C
              go_wp2_with fail
              refine C.mono ?_
              clear C
              rintro e w9 ⟨rfl, hb9⟩
              have st9 := Lib.hid (st.out.keep K (by omega) hb9)
              clear st hb9 ps
              go_wp2
              go_roundw
              case rel => exact ⟨t + 1, by omega, by go_num, rfl, st9⟩
              case measure => simp [intOf]; omega
            · have ht4 : t = 4 := by omega
              subst ht4
              have hp4 : (psum A2 4 : Int) = (m : Int) := by rw [psum4 st.out.pm.good]
              rw [hp4]
              simp only [show ((4 : Nat) : Int) = (4 : Int) from rfl]
              have em : ((m : Int) != (m : Int)) = false := by simp
              clear hp4
              go_wp2
              go_loopw [14] (fun c wr => ∃ t : Nat, t ≤ m ∧ c = .int .i64 t ∧ Hid (KSt MA w wr p m gb A2 F2 (A2 0))) (fun c _ => m - (intOf c).toNat)
              case atStart => exact ⟨0, by omega, rfl, st⟩
              case round =>
                clear st
                obtain ⟨t, ht, rfl, st⟩ := hrel
                by_cases hlt4 : t < m
                · have d4 : decide ((t : Int) < (m : Int)) = true := by simp; omega
                  have p0 : (0 : Int) ≤ (t : Int) := by omega
                  have p1 : (t : Int) < 32 := by omega
                  have cg := st.out.gv t hlt4
                  have hlg := st.out.lt (by omega)
                  have ma9 := st.out.pm.ma
                  by_cases hmem : (t : Int) ∈ A2 0
                  · have PC : Hid (∀ wX, (wX.cell? ⟨gb, t, none⟩ = some (.bool false) ∧ KSt MA w wX p m gb A2 F2 (A2 0)) → Calls Try.prog 16 #[.pointer (some ⟨p, 0, none⟩), .int .i64 (t : Int)] wX fun e w' => e = .returned (.int .i64 0) ∧ Below wX.heap.size wX w') := Lib.hid (fun wX h => by have P := K.color (t : Int) h.2.pm.ma (by omega) (by omega); rwa [color0 hmem] at P)
                    have ST := Lib.hid st.out
                    rw [show decide ((t : Int) ∉ A2 0) = false by simp [hmem]] at cg
                    clear hmem
                    go_wp2
                    go_region_held3 (fun w' => w'.cell? ⟨gb, t, none⟩ = some (.bool false) ∧ KSt MA w w' p m gb A2 F2 (A2 0)) (first | assumption | exact KS.keep K (by omega) ⟨cg, ST.out⟩ (Below.refl _ _).drew | exact KS.keep K (by omega) (by assumption) hb9) (first
                      | (go_at_call 16; ((with_reducible refine (PC.out _ (by assumption)).mono ?_); rintro e w9 ⟨rfl, hb9⟩)))
                    go_wp2
                    go_roundw
                    case rel => exact ⟨t + 1, by omega, by go_num, Lib.hid (show KSt MA w _ p m gb A2 F2 (A2 0) from And.right (by assumption))⟩
                    case measure => simp [intOf]; omega
                  · have PC : Hid (∀ wX, (wX.cell? ⟨gb, t, none⟩ = some (.bool true) ∧ KSt MA w wX p m gb A2 F2 (A2 0)) → Calls Try.prog 16 #[.pointer (some ⟨p, 0, none⟩), .int .i64 (t : Int)] wX fun e w' => e = .returned (.int .i64 (colorR A2 (t : Int))) ∧ Below wX.heap.size wX w') := Lib.hid (fun wX h => K.color (t : Int) h.2.pm.ma (by omega) (by omega))
                    have ec := color0_not hmem
                    have ST := Lib.hid st.out
                    rw [show decide ((t : Int) ∉ A2 0) = true by simp [hmem]] at cg
                    generalize colorR A2 (t : Int) = u at *
                    clear hmem
                    go_wp2
                    go_region_held3 (fun w' => w'.cell? ⟨gb, t, none⟩ = some (.bool true) ∧ KSt MA w w' p m gb A2 F2 (A2 0)) (first | assumption | exact KS.keep K (by omega) ⟨cg, ST.out⟩ (Below.refl _ _).drew | exact KS.keep K (by omega) (by assumption) hb9) (first
                      | (go_at_call 16; ((with_reducible refine (PC.out _ (by assumption)).mono ?_); rintro e w9 ⟨rfl, hb9⟩)))
                    go_wp2
                    go_roundw
                    case rel => exact ⟨t + 1, by omega, by go_num, Lib.hid (show KSt MA w _ p m gb A2 F2 (A2 0) from And.right (by assumption))⟩
                    case measure => simp [intOf]; omega
                · have d4 : decide ((t : Int) < (m : Int)) = false := by simp; omega
                  go_wp2
                  go_roundw
                  case rel => exact ⟨k + 1, by omega, by omega, by go_num, _, _, st⟩
                  case measure => simp [intOf]; omega
        · have q4 : (z == 4) = false := by simpa using hz4
          by_cases hz5 : z = 5
          · have q5 : (z == 5) = true := by simp [hz5]
            clear hz3 hz4 hz5
            have P := K.scan hst.out.pm.ma
            go_wp2_with fail
            refine P.mono ?_
            clear P
            rintro e w6 ⟨F2, rfl, hm2, hc2, hn2⟩
            obtain ⟨A2, hA2⟩ : ∃ A2, A2 = firstA A 2 1 := ⟨_, rfl⟩
            have st : Hid (KSt MA w w6 p m gb A2 F2 (A2 0)) := Lib.hid (by rw [hA2, scan0]; exact hst.out.step (by omega) hm2 hc2 hn2 (good_first hst.out.pm.good 2 (Or.inr rfl)))
            clear hst hm2 hc2 hn2 hA2
            go_wp2
            go_loopw [12, 13] (fun s c wr => ∃ t : Nat, t ≤ 4 ∧ c = .int .i64 t ∧ s = .int .i64 (psum A2 t) ∧ Hid (KSt MA w wr p m gb A2 F2 (A2 0))) (fun _ c _ => 4 - (intOf c).toNat)
            case atStart => exact ⟨0, by omega, rfl, rfl, st⟩
            case round =>
              clear st
              obtain ⟨t, ht, rfl, rfl, st⟩ := hrel
              by_cases h4 : t ≤ 3
              · have d4 : decide ((t : Int) ≤ 3) = true := by simp; omega
                have ps := psum_le st.out.pm.good (t + 1) (by omega)
                have wp : IntKind.i64.wrap ((psum A2 t : Int) + ((A2 t).length : Int)) = (psum A2 (t + 1) : Int) := by
                  have e : psum A2 (t + 1) = psum A2 t + (A2 t).length := rfl
                  rw [IntKind.wrap_i64]; omega
                have C := K.count (t : Int) st.out.pm.ma (by omega) (by omega)
                rw [rowA_in A2 t (by omega)] at C
                go_wp2_with fail
                refine C.mono ?_
                clear C
                rintro e w9 ⟨rfl, hb9⟩
                have st9 := Lib.hid (st.out.keep K (by omega) hb9)
                clear st hb9 ps
                go_wp2
                go_roundw
                case rel => exact ⟨t + 1, by omega, by go_num, rfl, st9⟩
                case measure => simp [intOf]; omega
              · have ht4 : t = 4 := by omega
                subst ht4
                have hp4 : (psum A2 4 : Int) = (m : Int) := by rw [psum4 st.out.pm.good]
                rw [hp4]
                simp only [show ((4 : Nat) : Int) = (4 : Int) from rfl]
                have em : ((m : Int) != (m : Int)) = false := by simp
                clear hp4
                go_wp2
                go_loopw [14] (fun c wr => ∃ t : Nat, t ≤ m ∧ c = .int .i64 t ∧ Hid (KSt MA w wr p m gb A2 F2 (A2 0))) (fun c _ => m - (intOf c).toNat)
                case atStart => exact ⟨0, by omega, rfl, st⟩
                case round =>
                  clear st
                  obtain ⟨t, ht, rfl, st⟩ := hrel
                  by_cases hlt4 : t < m
                  · have d4 : decide ((t : Int) < (m : Int)) = true := by simp; omega
                    have p0 : (0 : Int) ≤ (t : Int) := by omega
                    have p1 : (t : Int) < 32 := by omega
                    have cg := st.out.gv t hlt4
                    have hlg := st.out.lt (by omega)
                    have ma9 := st.out.pm.ma
                    by_cases hmem : (t : Int) ∈ A2 0
                    · have PC : Hid (∀ wX, (wX.cell? ⟨gb, t, none⟩ = some (.bool false) ∧ KSt MA w wX p m gb A2 F2 (A2 0)) → Calls Try.prog 16 #[.pointer (some ⟨p, 0, none⟩), .int .i64 (t : Int)] wX fun e w' => e = .returned (.int .i64 0) ∧ Below wX.heap.size wX w') := Lib.hid (fun wX h => by have P := K.color (t : Int) h.2.pm.ma (by omega) (by omega); rwa [color0 hmem] at P)
                      have ST := Lib.hid st.out
                      rw [show decide ((t : Int) ∉ A2 0) = false by simp [hmem]] at cg
                      clear hmem
                      go_wp2
                      go_region_held3 (fun w' => w'.cell? ⟨gb, t, none⟩ = some (.bool false) ∧ KSt MA w w' p m gb A2 F2 (A2 0)) (first | assumption | exact KS.keep K (by omega) ⟨cg, ST.out⟩ (Below.refl _ _).drew | exact KS.keep K (by omega) (by assumption) hb9) (first
                        | (go_at_call 16; ((with_reducible refine (PC.out _ (by assumption)).mono ?_); rintro e w9 ⟨rfl, hb9⟩)))
                      go_wp2
                      go_roundw
                      case rel => exact ⟨t + 1, by omega, by go_num, Lib.hid (show KSt MA w _ p m gb A2 F2 (A2 0) from And.right (by assumption))⟩
                      case measure => simp [intOf]; omega
                    · have PC : Hid (∀ wX, (wX.cell? ⟨gb, t, none⟩ = some (.bool true) ∧ KSt MA w wX p m gb A2 F2 (A2 0)) → Calls Try.prog 16 #[.pointer (some ⟨p, 0, none⟩), .int .i64 (t : Int)] wX fun e w' => e = .returned (.int .i64 (colorR A2 (t : Int))) ∧ Below wX.heap.size wX w') := Lib.hid (fun wX h => K.color (t : Int) h.2.pm.ma (by omega) (by omega))
                      have ec := color0_not hmem
                      have ST := Lib.hid st.out
                      rw [show decide ((t : Int) ∉ A2 0) = true by simp [hmem]] at cg
                      generalize colorR A2 (t : Int) = u at *
                      clear hmem
                      go_wp2
                      go_region_held3 (fun w' => w'.cell? ⟨gb, t, none⟩ = some (.bool true) ∧ KSt MA w w' p m gb A2 F2 (A2 0)) (first | assumption | exact KS.keep K (by omega) ⟨cg, ST.out⟩ (Below.refl _ _).drew | exact KS.keep K (by omega) (by assumption) hb9) (first
                        | (go_at_call 16; ((with_reducible refine (PC.out _ (by assumption)).mono ?_); rintro e w9 ⟨rfl, hb9⟩)))
                      go_wp2
                      go_roundw
                      case rel => exact ⟨t + 1, by omega, by go_num, Lib.hid (show KSt MA w _ p m gb A2 F2 (A2 0) from And.right (by assumption))⟩
                      case measure => simp [intOf]; omega
                  · have d4 : decide ((t : Int) < (m : Int)) = false := by simp; omega
                    go_wp2
                    go_roundw
                    case rel => exact ⟨k + 1, by omega, by omega, by go_num, _, _, st⟩
                    case measure => simp [intOf]; omega
          · have q5 : (z == 5) = false := by simpa using hz5
            by_cases hz6 : z = 6
            · have q6 : (z == 6) = true := by simp [hz6]
              clear hz3 hz4 hz5 hz6
              have P := K.flip hst.out.pm.ma
              obtain ⟨E, hE⟩ : ∃ E, E = flipR A := ⟨_, rfl⟩
              rw [← hE] at P
              have hg2 := good_flip hst.out.pm.good
              have f0 := flip0 A
              rw [← hE] at f0
              go_wp2_with fail
              refine P.mono ?_
              clear P
              rintro e w6 ⟨u, F2, rfl, hm2, hc2, hn2, hu, huf⟩
              obtain ⟨A2, hA2⟩ : ∃ A2, A2 = flipA A := ⟨_, rfl⟩
              rw [← hA2] at hm2 hg2 f0
              have hgu : u.ownBlock ≠ some gb := fun e => by have := (huf gb e).1; have := hst.out.lt (by omega); omega
              have nd : (A 0 ++ E).Nodup := by rw [← f0]; exact (List.nodup_append.1 (good_nd hg2)).1
              have s6 := Lib.hid (And.intro (hst.out.step (by omega) hm2 hc2 hn2 hg2) hu)
              have hEm : Hid (∀ x, x ∈ E → ∃ y : Nat, x = y ∧ y < m) := Lib.hid (fun x hx => good_bd hg2 (k := 0) (by decide) (by rw [f0]; simp [hx]))
              generalize A 0 = A0 at *
              have hf0 := Lib.hid f0
              have hnd := Lib.hid nd
              have hgu2 := Lib.hid hgu
              clear hst hm2 hc2 hn2 hA2 hg2 hE hu huf nd f0 hgu
              rcases s6.out.2.cases with ⟨rfl, hE0⟩ | ⟨g9, cap9, rfl, hle9, _, _, _⟩
              · subst hE0
                have st : Hid (KSt MA w w6 p m gb A2 F2 (A2 0)) := Lib.hid (by rw [hf0.out, List.append_nil]; exact s6.out.1)
                clear s6
                go_wp2
                refine wp_loop_rounds 1 ?_
                rw [rounds_succ]
                go_wp2
                go_loopw [12, 13] (fun s c wr => ∃ t : Nat, t ≤ 4 ∧ c = .int .i64 t ∧ s = .int .i64 (psum A2 t) ∧ Hid (KSt MA w wr p m gb A2 F2 (A2 0))) (fun _ c _ => 4 - (intOf c).toNat)
                case atStart => exact ⟨0, by omega, rfl, rfl, st⟩
                case round =>
                  clear st
                  obtain ⟨t, ht, rfl, rfl, st⟩ := hrel
                  by_cases h4 : t ≤ 3
                  · have d4 : decide ((t : Int) ≤ 3) = true := by simp; omega
                    have ps := psum_le st.out.pm.good (t + 1) (by omega)
                    have wp : IntKind.i64.wrap ((psum A2 t : Int) + ((A2 t).length : Int)) = (psum A2 (t + 1) : Int) := by
                      have e : psum A2 (t + 1) = psum A2 t + (A2 t).length := rfl
                      rw [IntKind.wrap_i64]; omega
                    have C := K.count (t : Int) st.out.pm.ma (by omega) (by omega)
                    rw [rowA_in A2 t (by omega)] at C
                    go_wp2_with fail
                    refine C.mono ?_
                    clear C
                    rintro e w9 ⟨rfl, hb9⟩
                    have st9 := Lib.hid (st.out.keep K (by omega) hb9)
                    clear st hb9 ps
                    go_wp2
                    go_roundw
                    case rel => exact ⟨t + 1, by omega, by go_num, rfl, st9⟩
                    case measure => simp [intOf]; omega
                  · have ht4 : t = 4 := by omega
                    subst ht4
                    have hp4 : (psum A2 4 : Int) = (m : Int) := by rw [psum4 st.out.pm.good]
                    rw [hp4]
                    simp only [show ((4 : Nat) : Int) = (4 : Int) from rfl]
                    have em : ((m : Int) != (m : Int)) = false := by simp
                    clear hp4
                    go_wp2
                    go_loopw [14] (fun c wr => ∃ t : Nat, t ≤ m ∧ c = .int .i64 t ∧ Hid (KSt MA w wr p m gb A2 F2 (A2 0))) (fun c _ => m - (intOf c).toNat)
                    case atStart => exact ⟨0, by omega, rfl, st⟩
                    case round =>
                      clear st
                      obtain ⟨t, ht, rfl, st⟩ := hrel
                      by_cases hlt4 : t < m
                      · have d4 : decide ((t : Int) < (m : Int)) = true := by simp; omega
                        have p0 : (0 : Int) ≤ (t : Int) := by omega
                        have p1 : (t : Int) < 32 := by omega
                        have cg := st.out.gv t hlt4
                        have hlg := st.out.lt (by omega)
                        have ma9 := st.out.pm.ma
                        by_cases hmem : (t : Int) ∈ A2 0
                        · have PC : Hid (∀ wX, (wX.cell? ⟨gb, t, none⟩ = some (.bool false) ∧ KSt MA w wX p m gb A2 F2 (A2 0)) → Calls Try.prog 16 #[.pointer (some ⟨p, 0, none⟩), .int .i64 (t : Int)] wX fun e w' => e = .returned (.int .i64 0) ∧ Below wX.heap.size wX w') := Lib.hid (fun wX h => by have P := K.color (t : Int) h.2.pm.ma (by omega) (by omega); rwa [color0 hmem] at P)
                          have ST := Lib.hid st.out
                          rw [show decide ((t : Int) ∉ A2 0) = false by simp [hmem]] at cg
                          clear hmem
                          go_wp2
                          go_region_held3 (fun w' => w'.cell? ⟨gb, t, none⟩ = some (.bool false) ∧ KSt MA w w' p m gb A2 F2 (A2 0)) (first | assumption | exact KS.keep K (by omega) ⟨cg, ST.out⟩ (Below.refl _ _).drew | exact KS.keep K (by omega) (by assumption) hb9) (first
                            | (go_at_call 16; ((with_reducible refine (PC.out _ (by assumption)).mono ?_); rintro e w9 ⟨rfl, hb9⟩)))
                          go_wp2
                          go_roundw
                          case rel => exact ⟨t + 1, by omega, by go_num, Lib.hid (show KSt MA w _ p m gb A2 F2 (A2 0) from And.right (by assumption))⟩
                          case measure => simp [intOf]; omega
                        · have PC : Hid (∀ wX, (wX.cell? ⟨gb, t, none⟩ = some (.bool true) ∧ KSt MA w wX p m gb A2 F2 (A2 0)) → Calls Try.prog 16 #[.pointer (some ⟨p, 0, none⟩), .int .i64 (t : Int)] wX fun e w' => e = .returned (.int .i64 (colorR A2 (t : Int))) ∧ Below wX.heap.size wX w') := Lib.hid (fun wX h => K.color (t : Int) h.2.pm.ma (by omega) (by omega))
                          have ec := color0_not hmem
                          have ST := Lib.hid st.out
                          rw [show decide ((t : Int) ∉ A2 0) = true by simp [hmem]] at cg
                          generalize colorR A2 (t : Int) = u at *
                          clear hmem
                          go_wp2
                          go_region_held3 (fun w' => w'.cell? ⟨gb, t, none⟩ = some (.bool true) ∧ KSt MA w w' p m gb A2 F2 (A2 0)) (first | assumption | exact KS.keep K (by omega) ⟨cg, ST.out⟩ (Below.refl _ _).drew | exact KS.keep K (by omega) (by assumption) hb9) (first
                            | (go_at_call 16; ((with_reducible refine (PC.out _ (by assumption)).mono ?_); rintro e w9 ⟨rfl, hb9⟩)))
                          go_wp2
                          go_roundw
                          case rel => exact ⟨t + 1, by omega, by go_num, Lib.hid (show KSt MA w _ p m gb A2 F2 (A2 0) from And.right (by assumption))⟩
                          case measure => simp [intOf]; omega
                      · have d4 : decide ((t : Int) < (m : Int)) = false := by simp; omega
                        go_wp2
                        go_roundw
                        case rel => exact ⟨k + 1, by omega, by omega, by go_num, _, _, st⟩
                        case measure => simp [intOf]; omega
              · obtain ⟨n9, hn9⟩ : ∃ n9, n9 = E.length := ⟨_, rfl⟩
                have hE26 : n9 ≤ 21 := by
                  have h1 := good_le s6.out.1.pm.good 0 (by decide)
                  rw [hf0.out, List.length_append] at h1
                  omega
                have s7 : Hid (KSt MA w w6 p m gb A2 F2 (A0 ++ E.take 0) ∧ SL w6 3 (.slice (some ⟨g9, 0, none⟩) n9 cap9) E) := Lib.hid ⟨by simpa using s6.out.1, by rw [hn9]; exact s6.out.2⟩
                rw [← hn9] at hgu2 ⊢
                have HN := Lib.hid hn9
                clear s6 hn9 hle9
                go_wp2
                go_loopw [80] (fun i wr => ∃ q : Nat, q ≤ n9 ∧ i = .int .i64 q ∧ Hid (KSt MA w wr p m gb A2 F2 (A0 ++ E.take q) ∧ SL wr 3 (.slice (some ⟨g9, 0, none⟩) n9 cap9) E)) (fun i _ => n9 - (intOf i).toNat)
                case atStart => exact ⟨0, by omega, rfl, s7⟩
                case round =>
                  clear s7
                  obtain ⟨q, hq, rfl, s7⟩ := hrel
                  by_cases hlt3 : q < n9
                  · have d3 : decide ((q : Int) < (n9 : Int)) = true := by simp; omega
                    obtain ⟨x, hx⟩ : ∃ x, E[q]? = some x := ⟨E[q]'(by have := HN.out; omega), by simp⟩
                    obtain ⟨c, rfl, hcm⟩ := hEm.out x (List.mem_of_getElem? hx)
                    have cx := row_cell (by have := s7.out.2; unfold SL at this; rwa [← HN.out] at this) hx
                    have hno : (c : Int) ∉ A0 ++ E.take q := by
                      have h1 := hnd.out
                      obtain ⟨hl, he⟩ := List.getElem?_eq_some_iff.1 hx
                      have e : E = E.take q ++ (c : Int) :: E.drop (q + 1) := by rw [← he, List.getElem_cons_drop, List.take_append_drop]
                      rw [e, ← List.append_assoc] at h1
                      intro h2
                      exact (List.nodup_append.1 h1).2.2 _ h2 _ (by simp) rfl
                    have cg := s7.out.1.gv c hcm
                    rw [show decide ((c : Int) ∉ A0 ++ E.take q) = true by simpa using hno] at cg
                    have zg := s7.out.1.gz c
                    have d5 : decide ((c : Int) < 0) = false := by simp
                    have d6 : decide ((c : Int) ≥ (m : Int)) = false := by simp; omega
                    have d7 : decide ((m : Int) ≤ (c : Int)) = false := by simp; omega
                    have p0 : (0 : Int) ≤ (c : Int) := by omega
                    have p1 : (c : Int) < 32 := by omega
                    have p2 : (0 : Int) ≤ (q : Int) := by omega
                    have p3 : (q : Int) < (n9 : Int) := by omega
                    have s8 := Lib.hid (And.intro (s7.out.1.set K (e := c) (b := false) (Y := A0 ++ E.take (q + 1)) hcm (by rw [List.take_add_one, hx]; simp) (fun r hr hne => by
                      rw [List.take_add_one, hx]
                      simp only [Option.toList, List.mem_append, List.mem_singleton]
                      constructor
                      · rintro (h | h | h)
                        · exact Or.inl h
                        · exact Or.inr h
                        · omega
                      · rintro (h | h)
                        · exact Or.inl h
                        · exact Or.inr (Or.inl h))) (show SL _ 3 (.slice (some ⟨g9, 0, none⟩) n9 cap9) E from ownsRow_setCell_other s7.out.2 hgu2.out (.bool false) (a := ⟨gb, c, none⟩)))
                    clear s7 hx hno
                    go_wp2
                    go_roundw
                    case rel => exact ⟨q + 1, by omega, by go_num, s8⟩
                    case measure => simp [intOf]; omega
                  · have d3 : decide ((q : Int) < (n9 : Int)) = false := by simp; omega
                    have st : Hid (KSt MA w _ p m gb A2 F2 (A2 0)) := Lib.hid (by rw [hf0.out]; have := s7.out.1; rwa [List.take_of_length_le (by have := HN.out; omega)] at this)
                    clear s7
                    go_wp2
                    go_loopw [12, 13] (fun s c wr => ∃ t : Nat, t ≤ 4 ∧ c = .int .i64 t ∧ s = .int .i64 (psum A2 t) ∧ Hid (KSt MA w wr p m gb A2 F2 (A2 0))) (fun _ c _ => 4 - (intOf c).toNat)
                    case atStart => exact ⟨0, by omega, rfl, rfl, st⟩
                    case round =>
                      clear st
                      obtain ⟨t, ht, rfl, rfl, st⟩ := hrel
                      by_cases h4 : t ≤ 3
                      · have d4 : decide ((t : Int) ≤ 3) = true := by simp; omega
                        have ps := psum_le st.out.pm.good (t + 1) (by omega)
                        have wp : IntKind.i64.wrap ((psum A2 t : Int) + ((A2 t).length : Int)) = (psum A2 (t + 1) : Int) := by
                          have e : psum A2 (t + 1) = psum A2 t + (A2 t).length := rfl
                          rw [IntKind.wrap_i64]; omega
                        have C := K.count (t : Int) st.out.pm.ma (by omega) (by omega)
                        rw [rowA_in A2 t (by omega)] at C
                        go_wp2_with fail
                        refine C.mono ?_
                        clear C
                        rintro e w9 ⟨rfl, hb9⟩
                        have st9 := Lib.hid (st.out.keep K (by omega) hb9)
                        clear st hb9 ps
                        go_wp2
                        go_roundw
                        case rel => exact ⟨t + 1, by omega, by go_num, rfl, st9⟩
                        case measure => simp [intOf]; omega
                      · have ht4 : t = 4 := by omega
                        subst ht4
                        have hp4 : (psum A2 4 : Int) = (m : Int) := by rw [psum4 st.out.pm.good]
                        rw [hp4]
                        simp only [show ((4 : Nat) : Int) = (4 : Int) from rfl]
                        have em : ((m : Int) != (m : Int)) = false := by simp
                        clear hp4
                        go_wp2
                        go_loopw [14] (fun c wr => ∃ t : Nat, t ≤ m ∧ c = .int .i64 t ∧ Hid (KSt MA w wr p m gb A2 F2 (A2 0))) (fun c _ => m - (intOf c).toNat)
                        case atStart => exact ⟨0, by omega, rfl, st⟩
                        case round =>
                          clear st
                          obtain ⟨t, ht, rfl, st⟩ := hrel
                          by_cases hlt4 : t < m
                          · have d4 : decide ((t : Int) < (m : Int)) = true := by simp; omega
                            have p0 : (0 : Int) ≤ (t : Int) := by omega
                            have p1 : (t : Int) < 32 := by omega
                            have cg := st.out.gv t hlt4
                            have hlg := st.out.lt (by omega)
                            have ma9 := st.out.pm.ma
                            by_cases hmem : (t : Int) ∈ A2 0
                            · have PC : Hid (∀ wX, (wX.cell? ⟨gb, t, none⟩ = some (.bool false) ∧ KSt MA w wX p m gb A2 F2 (A2 0)) → Calls Try.prog 16 #[.pointer (some ⟨p, 0, none⟩), .int .i64 (t : Int)] wX fun e w' => e = .returned (.int .i64 0) ∧ Below wX.heap.size wX w') := Lib.hid (fun wX h => by have P := K.color (t : Int) h.2.pm.ma (by omega) (by omega); rwa [color0 hmem] at P)
                              have ST := Lib.hid st.out
                              rw [show decide ((t : Int) ∉ A2 0) = false by simp [hmem]] at cg
                              clear hmem
                              go_wp2
                              go_region_held3 (fun w' => w'.cell? ⟨gb, t, none⟩ = some (.bool false) ∧ KSt MA w w' p m gb A2 F2 (A2 0)) (first | assumption | exact KS.keep K (by omega) ⟨cg, ST.out⟩ (Below.refl _ _).drew | exact KS.keep K (by omega) (by assumption) hb9) (first
                                | (go_at_call 16; ((with_reducible refine (PC.out _ (by assumption)).mono ?_); rintro e w9 ⟨rfl, hb9⟩)))
                              go_wp2
                              go_roundw
                              case rel => exact ⟨t + 1, by omega, by go_num, Lib.hid (show KSt MA w _ p m gb A2 F2 (A2 0) from And.right (by assumption))⟩
                              case measure => simp [intOf]; omega
                            · have PC : Hid (∀ wX, (wX.cell? ⟨gb, t, none⟩ = some (.bool true) ∧ KSt MA w wX p m gb A2 F2 (A2 0)) → Calls Try.prog 16 #[.pointer (some ⟨p, 0, none⟩), .int .i64 (t : Int)] wX fun e w' => e = .returned (.int .i64 (colorR A2 (t : Int))) ∧ Below wX.heap.size wX w') := Lib.hid (fun wX h => K.color (t : Int) h.2.pm.ma (by omega) (by omega))
                              have ec := color0_not hmem
                              have ST := Lib.hid st.out
                              rw [show decide ((t : Int) ∉ A2 0) = true by simp [hmem]] at cg
                              generalize colorR A2 (t : Int) = u at *
                              clear hmem
                              go_wp2
                              go_region_held3 (fun w' => w'.cell? ⟨gb, t, none⟩ = some (.bool true) ∧ KSt MA w w' p m gb A2 F2 (A2 0)) (first | assumption | exact KS.keep K (by omega) ⟨cg, ST.out⟩ (Below.refl _ _).drew | exact KS.keep K (by omega) (by assumption) hb9) (first
                                | (go_at_call 16; ((with_reducible refine (PC.out _ (by assumption)).mono ?_); rintro e w9 ⟨rfl, hb9⟩)))
                              go_wp2
                              go_roundw
                              case rel => exact ⟨t + 1, by omega, by go_num, Lib.hid (show KSt MA w _ p m gb A2 F2 (A2 0) from And.right (by assumption))⟩
                              case measure => simp [intOf]; omega
                          · have d4 : decide ((t : Int) < (m : Int)) = false := by simp; omega
                            go_wp2
                            go_roundw
                            case rel => exact ⟨k + 1, by omega, by omega, by go_num, _, _, st⟩
                            case measure => simp [intOf]; omega
            · have q6 : (z == 6) = false := by simpa using hz6
              clear hz3 hz4 hz5 hz6
              have P := K.alloc hst.out.pm.ma
              rcases hA : A 0 with _ | ⟨i, T⟩
              · have eR : firstR A 0 = -1 := by unfold firstR; rw [hA]
                have eA : firstA A 0 1 = A := by unfold firstA; rw [hA]
                rw [eR, eA] at P
                clear eR eA hA
                go_wp2_with fail
                refine P.mono ?_
                clear P
                rintro e w6 ⟨F2, rfl, hm2, hc2, hn2⟩
                have st := Lib.hid (hst.out.step (by omega) hm2 hc2 hn2 hst.out.pm.good)
                clear hst hm2 hc2 hn2
                go_wp2
                go_loopw [12, 13] (fun s c wr => ∃ t : Nat, t ≤ 4 ∧ c = .int .i64 t ∧ s = .int .i64 (psum A t) ∧ Hid (KSt MA w wr p m gb A F2 (A 0))) (fun _ c _ => 4 - (intOf c).toNat)
                case atStart => exact ⟨0, by omega, rfl, rfl, st⟩
                case round =>
                  clear st
                  obtain ⟨t, ht, rfl, rfl, st⟩ := hrel
                  by_cases h4 : t ≤ 3
                  · have d4 : decide ((t : Int) ≤ 3) = true := by simp; omega
                    have ps := psum_le st.out.pm.good (t + 1) (by omega)
                    have wp : IntKind.i64.wrap ((psum A t : Int) + ((A t).length : Int)) = (psum A (t + 1) : Int) := by
                      have e : psum A (t + 1) = psum A t + (A t).length := rfl
                      rw [IntKind.wrap_i64]; omega
                    have C := K.count (t : Int) st.out.pm.ma (by omega) (by omega)
                    rw [rowA_in A t (by omega)] at C
                    go_wp2_with fail
                    refine C.mono ?_
                    clear C
                    rintro e w9 ⟨rfl, hb9⟩
                    have st9 := Lib.hid (st.out.keep K (by omega) hb9)
                    clear st hb9 ps
                    go_wp2
                    go_roundw
                    case rel => exact ⟨t + 1, by omega, by go_num, rfl, st9⟩
                    case measure => simp [intOf]; omega
                  · have ht4 : t = 4 := by omega
                    subst ht4
                    have hp4 : (psum A 4 : Int) = (m : Int) := by rw [psum4 st.out.pm.good]
                    rw [hp4]
                    simp only [show ((4 : Nat) : Int) = (4 : Int) from rfl]
                    have em : ((m : Int) != (m : Int)) = false := by simp
                    clear hp4
                    go_wp2
                    go_loopw [14] (fun c wr => ∃ t : Nat, t ≤ m ∧ c = .int .i64 t ∧ Hid (KSt MA w wr p m gb A F2 (A 0))) (fun c _ => m - (intOf c).toNat)
                    case atStart => exact ⟨0, by omega, rfl, st⟩
                    case round =>
                      clear st
                      obtain ⟨t, ht, rfl, st⟩ := hrel
                      by_cases hlt4 : t < m
                      · have d4 : decide ((t : Int) < (m : Int)) = true := by simp; omega
                        have p0 : (0 : Int) ≤ (t : Int) := by omega
                        have p1 : (t : Int) < 32 := by omega
                        have cg := st.out.gv t hlt4
                        have hlg := st.out.lt (by omega)
                        have ma9 := st.out.pm.ma
                        by_cases hmem : (t : Int) ∈ A 0
                        · have PC : Hid (∀ wX, (wX.cell? ⟨gb, t, none⟩ = some (.bool false) ∧ KSt MA w wX p m gb A F2 (A 0)) → Calls Try.prog 16 #[.pointer (some ⟨p, 0, none⟩), .int .i64 (t : Int)] wX fun e w' => e = .returned (.int .i64 0) ∧ Below wX.heap.size wX w') := Lib.hid (fun wX h => by have P := K.color (t : Int) h.2.pm.ma (by omega) (by omega); rwa [color0 hmem] at P)
                          have ST := Lib.hid st.out
                          rw [show decide ((t : Int) ∉ A 0) = false by simp [hmem]] at cg
                          clear hmem
                          go_wp2
                          go_region_held3 (fun w' => w'.cell? ⟨gb, t, none⟩ = some (.bool false) ∧ KSt MA w w' p m gb A F2 (A 0)) (first | assumption | exact KS.keep K (by omega) ⟨cg, ST.out⟩ (Below.refl _ _).drew | exact KS.keep K (by omega) (by assumption) hb9) (first
                            | (go_at_call 16; ((with_reducible refine (PC.out _ (by assumption)).mono ?_); rintro e w9 ⟨rfl, hb9⟩)))
                          go_wp2
                          go_roundw
                          case rel => exact ⟨t + 1, by omega, by go_num, Lib.hid (show KSt MA w _ p m gb A F2 (A 0) from And.right (by assumption))⟩
                          case measure => simp [intOf]; omega
                        · have PC : Hid (∀ wX, (wX.cell? ⟨gb, t, none⟩ = some (.bool true) ∧ KSt MA w wX p m gb A F2 (A 0)) → Calls Try.prog 16 #[.pointer (some ⟨p, 0, none⟩), .int .i64 (t : Int)] wX fun e w' => e = .returned (.int .i64 (colorR A (t : Int))) ∧ Below wX.heap.size wX w') := Lib.hid (fun wX h => K.color (t : Int) h.2.pm.ma (by omega) (by omega))
                          have ec := color0_not hmem
                          have ST := Lib.hid st.out
                          rw [show decide ((t : Int) ∉ A 0) = true by simp [hmem]] at cg
                          generalize colorR A (t : Int) = u at *
                          clear hmem
                          go_wp2
                          go_region_held3 (fun w' => w'.cell? ⟨gb, t, none⟩ = some (.bool true) ∧ KSt MA w w' p m gb A F2 (A 0)) (first | assumption | exact KS.keep K (by omega) ⟨cg, ST.out⟩ (Below.refl _ _).drew | exact KS.keep K (by omega) (by assumption) hb9) (first
                            | (go_at_call 16; ((with_reducible refine (PC.out _ (by assumption)).mono ?_); rintro e w9 ⟨rfl, hb9⟩)))
                          go_wp2
                          go_roundw
                          case rel => exact ⟨t + 1, by omega, by go_num, Lib.hid (show KSt MA w _ p m gb A F2 (A 0) from And.right (by assumption))⟩
                          case measure => simp [intOf]; omega
                      · have d4 : decide ((t : Int) < (m : Int)) = false := by simp; omega
                        go_wp2
                        go_roundw
                        case rel => exact ⟨k + 1, by omega, by omega, by go_num, _, _, st⟩
                        case measure => simp [intOf]; omega
              · have eR : firstR A 0 = i := by unfold firstR; rw [hA]
                have eA0 : firstA A 0 1 0 = T := by simp [firstA, hA, upA]
                have eA1 : i ∈ firstA A 0 1 1 := by simp [firstA, hA, upA]
                rw [eR] at P
                obtain ⟨c, rfl, hcm⟩ := good_bd hst.out.pm.good (k := 0) (x := i) (by decide) (by rw [hA]; simp)
                have hcT : (c : Int) ∉ T := by
                  have := (List.nodup_append.1 (good_nd hst.out.pm.good)).1
                  rw [hA] at this
                  exact (List.nodup_cons.1 this).1
                have hg2 := good_first hst.out.pm.good 0 (Or.inl rfl)
                have hcol := color1 hg2 eA1
                have d5 : decide ((c : Int) ≥ 0) = true := by simp
                have d6 : decide ((c : Int) ≥ (m : Int)) = false := by simp; omega
                have d7 : decide ((m : Int) ≤ (c : Int)) = false := by simp; omega
                have d8 : decide (m ≤ c) = false := by simp; omega
                have p0 : (0 : Int) ≤ (c : Int) := by omega
                have p1 : (c : Int) < 32 := by omega
                go_wp2_with fail
                refine P.mono ?_
                clear P
                rintro e w6 ⟨F2, rfl, hm2, hc2, hn2⟩
                obtain ⟨A2, hA2⟩ : ∃ A2, A2 = firstA A 0 1 := ⟨_, rfl⟩
                rw [← hA2] at hm2 eA0 hg2 hcol
                have st6 := Lib.hid (hst.out.step (by omega) hm2 hc2 hn2 hg2)
                have cg := st6.out.gv c hcm
                rw [hA, show decide ((c : Int) ∉ (c : Int) :: T) = false by simp] at cg
                clear hst hm2 hc2 hn2 hA2 hg2 eR eA1
                have P := K.color (c : Int) st6.out.pm.ma (by omega) (by omega)
                rw [hcol] at P
                go_wp2_with fail
                refine P.mono ?_
                clear P
                rintro e w7 ⟨rfl, hb7⟩
                have st7 := Lib.hid (st6.out.keep K (by omega) hb7)
                have cg7 := st7.out.gv c hcm
                have zg7 := st7.out.gz c
                have st : Hid (KSt MA w (w7.setCell ⟨gb, c, none⟩ (.bool true)) p m gb A2 F2 (A2 0)) := Lib.hid (by
                  rw [eA0]
                  refine st7.out.set K hcm (by simp [hcT]) (fun q hq hne => ?_)
                  rw [hA]
                  simp only [List.mem_cons]
                  constructor
                  · exact Or.inr
                  · rintro (e | e)
                    · omega
                    · exact e)
                clear st6 st7 hb7 hcol hcT hA eA0
                go_wp2
                go_loopw [12, 13] (fun s c wr => ∃ t : Nat, t ≤ 4 ∧ c = .int .i64 t ∧ s = .int .i64 (psum A2 t) ∧ Hid (KSt MA w wr p m gb A2 F2 (A2 0))) (fun _ c _ => 4 - (intOf c).toNat)
                case atStart => exact ⟨0, by omega, rfl, rfl, st⟩
                case round =>
                  clear st
                  obtain ⟨t, ht, rfl, rfl, st⟩ := hrel
                  by_cases h4 : t ≤ 3
                  · have d4 : decide ((t : Int) ≤ 3) = true := by simp; omega
                    have ps := psum_le st.out.pm.good (t + 1) (by omega)
                    have wp : IntKind.i64.wrap ((psum A2 t : Int) + ((A2 t).length : Int)) = (psum A2 (t + 1) : Int) := by
                      have e : psum A2 (t + 1) = psum A2 t + (A2 t).length := rfl
                      rw [IntKind.wrap_i64]; omega
                    have C := K.count (t : Int) st.out.pm.ma (by omega) (by omega)
                    rw [rowA_in A2 t (by omega)] at C
                    go_wp2_with fail
                    refine C.mono ?_
                    clear C
                    rintro e w9 ⟨rfl, hb9⟩
                    have st9 := Lib.hid (st.out.keep K (by omega) hb9)
                    clear st hb9 ps
                    go_wp2
                    go_roundw
                    case rel => exact ⟨t + 1, by omega, by go_num, rfl, st9⟩
                    case measure => simp [intOf]; omega
                  · have ht4 : t = 4 := by omega
                    subst ht4
                    have hp4 : (psum A2 4 : Int) = (m : Int) := by rw [psum4 st.out.pm.good]
                    rw [hp4]
                    simp only [show ((4 : Nat) : Int) = (4 : Int) from rfl]
                    have em : ((m : Int) != (m : Int)) = false := by simp
                    clear hp4
                    go_wp2
                    go_loopw [14] (fun c wr => ∃ t : Nat, t ≤ m ∧ c = .int .i64 t ∧ Hid (KSt MA w wr p m gb A2 F2 (A2 0))) (fun c _ => m - (intOf c).toNat)
                    case atStart => exact ⟨0, by omega, rfl, st⟩
                    case round =>
                      clear st
                      obtain ⟨t, ht, rfl, st⟩ := hrel
                      by_cases hlt4 : t < m
                      · have d4 : decide ((t : Int) < (m : Int)) = true := by simp; omega
                        have p0 : (0 : Int) ≤ (t : Int) := by omega
                        have p1 : (t : Int) < 32 := by omega
                        have cg := st.out.gv t hlt4
                        have hlg := st.out.lt (by omega)
                        have ma9 := st.out.pm.ma
                        by_cases hmem : (t : Int) ∈ A2 0
                        · have PC : Hid (∀ wX, (wX.cell? ⟨gb, t, none⟩ = some (.bool false) ∧ KSt MA w wX p m gb A2 F2 (A2 0)) → Calls Try.prog 16 #[.pointer (some ⟨p, 0, none⟩), .int .i64 (t : Int)] wX fun e w' => e = .returned (.int .i64 0) ∧ Below wX.heap.size wX w') := Lib.hid (fun wX h => by have P := K.color (t : Int) h.2.pm.ma (by omega) (by omega); rwa [color0 hmem] at P)
                          have ST := Lib.hid st.out
                          rw [show decide ((t : Int) ∉ A2 0) = false by simp [hmem]] at cg
                          clear hmem
                          go_wp2
                          go_region_held3 (fun w' => w'.cell? ⟨gb, t, none⟩ = some (.bool false) ∧ KSt MA w w' p m gb A2 F2 (A2 0)) (first | assumption | exact KS.keep K (by omega) ⟨cg, ST.out⟩ (Below.refl _ _).drew | exact KS.keep K (by omega) (by assumption) hb9) (first
                            | (go_at_call 16; ((with_reducible refine (PC.out _ (by assumption)).mono ?_); rintro e w9 ⟨rfl, hb9⟩)))
                          go_wp2
                          go_roundw
                          case rel => exact ⟨t + 1, by omega, by go_num, Lib.hid (show KSt MA w _ p m gb A2 F2 (A2 0) from And.right (by assumption))⟩
                          case measure => simp [intOf]; omega
                        · have PC : Hid (∀ wX, (wX.cell? ⟨gb, t, none⟩ = some (.bool true) ∧ KSt MA w wX p m gb A2 F2 (A2 0)) → Calls Try.prog 16 #[.pointer (some ⟨p, 0, none⟩), .int .i64 (t : Int)] wX fun e w' => e = .returned (.int .i64 (colorR A2 (t : Int))) ∧ Below wX.heap.size wX w') := Lib.hid (fun wX h => K.color (t : Int) h.2.pm.ma (by omega) (by omega))
                          have ec := color0_not hmem
                          have ST := Lib.hid st.out
                          rw [show decide ((t : Int) ∉ A2 0) = true by simp [hmem]] at cg
                          generalize colorR A2 (t : Int) = u at *
                          clear hmem
                          go_wp2
                          go_region_held3 (fun w' => w'.cell? ⟨gb, t, none⟩ = some (.bool true) ∧ KSt MA w w' p m gb A2 F2 (A2 0)) (first | assumption | exact KS.keep K (by omega) ⟨cg, ST.out⟩ (Below.refl _ _).drew | exact KS.keep K (by omega) (by assumption) hb9) (first
                            | (go_at_call 16; ((with_reducible refine (PC.out _ (by assumption)).mono ?_); rintro e w9 ⟨rfl, hb9⟩)))
                          go_wp2
                          go_roundw
                          case rel => exact ⟨t + 1, by omega, by go_num, Lib.hid (show KSt MA w _ p m gb A2 F2 (A2 0) from And.right (by assumption))⟩
                          case measure => simp [intOf]; omega
                      · have d4 : decide ((t : Int) < (m : Int)) = false := by simp; omega
                        go_wp2
                        go_roundw
                        case rel => exact ⟨k + 1, by omega, by omega, by go_num, _, _, st⟩
                        case measure => simp [intOf]; omega
    · by_cases hl1 : k < len
      · have d1 : decide ((k : Int) < (len : Int)) = true := by simp; omega
        have d2 : decide ((k : Int) < 120) = false := by simp; omega
        have hbel := Lib.hid hst.out.pm.bel
        clear hst
        go_wp2_with fail
        refine (known_c K _).mono ?_
        rintro e wd ⟨rfl, hd⟩
        have hb2 := Lib.hid (hbel.out.trans (hd.mono hbel.out.size))
        clear hd
        go_wp2
        go_ret
        exact ⟨rfl, hb2.out⟩
      · have d1 : decide ((k : Int) < (len : Int)) = false := by simp; omega
        have hbel := Lib.hid hst.out.pm.bel
        clear hst
        go_wp2_with fail
        refine (known_c K _).mono ?_
        rintro e wd ⟨rfl, hd⟩
        have hb2 := Lib.hid (hbel.out.trans (hd.mono hbel.out.size))
        clear hd
        go_wp2
        go_ret
        exact ⟨rfl, hb2.out⟩
end Wd
end Go.Proofs.Ytjobeomadkaeoaa
