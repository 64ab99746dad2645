/- What the laws ask of a ring, whoever keeps it; what keeps it: RingRound. -/
import Derived.Test.YtdfmbeilmbnpiaaRNew
import Derived.Test.YtdfmbeilmbnpiaaRSame
import Derived.Test.YtdfmbeilmbnpiaaRMath
import Derived.Test.YtdfmbeilmbnpiaaRKnown
import Derived.OpenShut
import Derived.Deep.RegionHeld3
namespace Go.Proofs.Ytdfmbeilmbnpiaa
open Go.RowKit
namespace Wd
theorem cell_up {w w' : World} (g : Below w.heap.size w w') {p : Addr} {v : Value} (h : w.cell? p = some v) : w'.cell? p = some v := (g.cell (World.block_lt_of_cell? w p h)).trans h
theorem within_bd (n lo hi : Int) (h : lo ≤ hi) : lo ≤ within n lo hi ∧ within n lo hi ≤ hi := by
  unfold within
  split
  · rename_i h'; exact h'
  · have h1 := Int.emod_nonneg n (show hi - lo + 1 ≠ 0 by omega)
    have h2 := Int.emod_lt_of_pos n (show 0 < hi - lo + 1 by omega)
    omega
/-- the numbers of a list that came in, in the world at hand and in any that only grew -/
def Nums (w0 : World) (ad : Option Addr) (len : Nat) : Prop := ∀ wr, Below w0.heap.size w0 wr → ∀ k, k < len → ∃ (g off : Nat) (x : Int), ad = some ⟨g, off, none⟩ ∧ (-9223372036854775808 ≤ x ∧ x ≤ 9223372036854775807) ∧ wr.cell? ⟨g, off + k, none⟩ = some (.int .i64 x)
/-- a ring of the package's, of the call's own, of numbers below n -/
structure PR (RA : RAt) (w0 wr : World) (p n : Nat) (L : List Int) (F : Nat → Prop) : Prop where
  ps : PS RA w0 wr p n L F
  nd : L.Nodup
  mem : ∀ x, x ∈ L → 0 ≤ x ∧ x < n
  len : L.length ≤ n
theorem rng_mem (m : Nat) : ∀ x, x ∈ rng m → 0 ≤ x ∧ x < m := by
  intro x hx
  simp only [rng, List.mem_map, List.mem_range] at hx
  obtain ⟨k, hk, rfl⟩ := hx
  omega
theorem PR.keep {RA : RAt} (K : RingK RA) {w0 wr w1 : World} {p n : Nat} {L : List Int} {F : Nat → Prop} (h : PR RA w0 wr p n L F) (g : Below wr.heap.size wr w1) : PR RA w0 w1 p n L F := ⟨h.ps.keep K g, h.nd, h.mem, h.len⟩
theorem PR.out {RA : RAt} {w0 wr w1 : World} {p n : Nat} {L : List Int} {F : Nat → Prop} (h : PR RA w0 wr p n L F) {x : Int} (hr : RA w1 p n (outL L x) F) (c : Ch F wr w1) : PR RA w0 w1 p n (outL L x) F := by
  refine ⟨h.ps.ch hr c, nd_outL h.nd x, fun y hy => ?_, ?_⟩
  · by_cases hx : x ∈ L
    · exact h.mem y ((mem_outL h.nd hx y).1 hy).1
    · simp only [outL, hx, if_false] at hy; exact h.mem y hy
  · by_cases hx : x ∈ L
    · have := len_outL h.nd hx; have := h.len; omega
    · simp only [outL, hx, if_false]; exact h.len
set_option maxHeartbeats 16000000 in
theorem round_any {RA : RAt} (K : RingK RA) (n : Int) (j0 : -9223372036854775808 ≤ n) (j1 : n ≤ 9223372036854775807) (ad : Option Addr) (len cap : Nat) (w : World) (HA : Nums w ad len) (_hlen : len ≤ maxLen) :
    Calls Try.prog 5 #[.int .i64 n, .slice ad len cap] w fun e w' => e = .returned (.bool true) ∧ Below w.heap.size w w' := by
  replace HA := Lib.hid HA
  obtain ⟨b0, b1⟩ := within_bd n 0 40 (by omega)
  go_enter Try.func5, Try.ntmps5
  go_wp2_with fail
  refine (within_c n 0 40 j0 j1 (by omega) (by omega) (by omega) w).mono ?_
  rintro e w1 ⟨rfl, rfl⟩
  obtain ⟨m, hm, m1, m2⟩ : ∃ m : Nat, 1 + within n 0 40 = m ∧ 1 ≤ m ∧ m ≤ 41 := ⟨(1 + within n 0 40).toNat, by omega, by omega, by omega⟩
  go_wp2_with fail
  refine (K.new m m1 (by omega)).mono ?_
  rintro e w2 ⟨p, F, rfl, hra, hF, hb⟩
  have hs : Hid (PR RA w1 w2 p m (rng m) F) := Lib.hid ⟨⟨hra, hb, hF⟩, rng_nd m, rng_mem m, by rw [rng_len]; exact Nat.le_refl _⟩
  have hl0 : Hid ((rng m).length = m) := Lib.hid (rng_len m)
  clear hra hF hb hm b0 b1
  go_wp2
  go_loopw [7, 8] (fun h i wr => ∃ j : Nat, j ≤ len ∧ j ≤ 30 ∧ i = .int .i64 j ∧ ∃ L, h = .int .i64 (L.length : Nat) ∧ Hid (PR RA w1 wr p m L F)) (fun _ i _ => 30 - (intOf i).toNat)
  case atStart => exact ⟨0, by omega, by omega, rfl, rng m, by rw [hl0.out], hs⟩
  case round =>
    clear hs hl0
    obtain ⟨j, hj, hj2, rfl, L, rfl, hst⟩ := hrel
    have hLn : L.length ≤ m := hst.out.len
    by_cases hlt : j < len ∧ j < 30
    · obtain ⟨g, off, x, rfl, ⟨x0, x1⟩, cx⟩ := HA.out wr hst.out.ps.bel j hlt.1
      have d1 : decide ((j : Int) < (len : Int)) = true := by simp; omega
      have d2 : decide ((j : Int) < 30) = true := by simp; omega
      obtain ⟨y0, y1⟩ := within_bd x 0 ((m : Int) - 1) (by omega)
      go_wp2_with fail
      refine (within_c x 0 ((m : Int) - 1) x0 x1 (by omega) (by omega) (by omega) wr).mono ?_
      rintro e w3 ⟨rfl, rfl⟩
      go_wp2_with fail
      refine (K.out (within x 0 ((m : Int) - 1)) hst.out.ps.ra (by omega) (by omega)).mono ?_
      rintro e w4 ⟨rfl, hr, hc⟩
      have hst2 := Lib.hid (hst.out.out hr hc)
      by_cases hin : within x 0 ((m : Int) - 1) ∈ L
      · have el := len_outL hst.out.nd hin
        have d3 : decide (within x 0 ((m : Int) - 1) ∈ L) = true := by simpa using hin
        clear hst hr hc hin
        go_wp2
        go_roundw
        case rel => exact ⟨j + 1, by omega, by omega, by go_num, _, by go_num, hst2⟩
        case measure => simp [intOf]; omega
      · have d3 : decide (within x 0 ((m : Int) - 1) ∈ L) = false := by simpa using hin
        have eo : outL L (within x 0 ((m : Int) - 1)) = L := by simp [outL, hin]
        replace hst2 := Lib.hid (eo ▸ hst2.out)
        clear hst hr hc hin eo
        go_wp2
        go_roundw
        case rel => exact ⟨j + 1, by omega, by omega, by go_num, L, rfl, hst2⟩
        case measure => simp [intOf]; omega
    · have H1 : Hid (j < len → 30 ≤ j) := Lib.hid (fun h => by omega)
      by_cases hl1 : j < len
      · have d1 : decide ((j : Int) < (len : Int)) = true := by simp; omega
        have d2 : decide ((j : Int) < 30) = false := by simp; omega
        go_wp2
        go_loopw [9] (fun i wr' => ∃ q : Nat, q ≤ m ∧ i = .int .i64 q ∧ Hid (PR RA w1 wr' p m L F)) (fun i _ => m - (intOf i).toNat)
        case atStart => exact ⟨0, by omega, rfl, hst⟩
        case round =>
          obtain ⟨q, hq, rfl, ht⟩ := hrel
          by_cases hq2 : q < m
          · have e1 : decide ((q : Int) < (m : Int)) = true := by simp; omega
            go_wp2_with fail
            refine (K.next q ht.out.ps.ra (by omega) (by omega)).mono ?_
            rintro e w3 ⟨rfl, hd⟩
            replace ht := Lib.hid (ht.out.keep K (drB hd))
            clear hd
            by_cases hin : (q : Int) ∈ L
            · obtain ⟨a0, a1⟩ := ht.out.mem _ (nxt_mem ht.out.nd hin)
              have ep := prv_nxt ht.out.nd hin
              obtain ⟨f1, f2, _, f4, _, _⟩ := frm_facts ht.out.nd hin
              have hpos : 0 < L.length := List.length_pos_of_mem hin
              obtain ⟨x, hx⟩ : ∃ x, (frm L q)[L.length - 1]? = some x := ⟨(frm L q)[L.length - 1]'(by omega), by simp⟩
              have ex := f4 x hx
              have hxb := ht.out.mem x ((frm_facts ht.out.nd hin).2.2.2.2.1 _ _ hx)
              go_wp2_with fail
              refine (K.from' q ht.out.ps.ra (by omega) (by omega)).mono ?_
              rintro e w4 ⟨u, rfl, hu, hd, _⟩
              replace ht := Lib.hid (ht.out.keep K hd)
              clear hd
              rcases hu.cases with ⟨_, h0⟩ | ⟨g', cap', rfl, hle', hm', hg', hown⟩
              · rw [h0] at f1; simp at f1; omega
              have c0 := row_cell hown f2
              have c1 := row_cell hown hx
              rw [f1] at hle' ⊢
              clear hown hu f2 f4 hx hin
              have q0 : (0 : Int) ≤ (L.length : Int) - 1 := by omega
              have q1 : (L.length : Int) - 1 < (L.length : Int) := by omega
              have q2 : ((L.length : Int) - 1).toNat = L.length - 1 := by omega
              go_wp2_with fail
              refine (K.prev (nxt L q) ht.out.ps.ra (by omega) (by omega)).mono ?_
              rintro e w5 ⟨rfl, hd⟩
              replace ht := Lib.hid (ht.out.keep K (drB hd))
              replace c0 := cell_up (drB hd) c0
              replace c1 := cell_up (drB hd) c1
              clear hd
              go_wp2_with fail
              refine (K.next x ht.out.ps.ra (by omega) (by omega)).mono ?_
              rintro e w6 ⟨rfl, hd⟩
              replace ht := Lib.hid (ht.out.keep K (drB hd))
              clear hd c0 c1
              go_wp2
              go_roundw
              case rel => exact ⟨q + 1, by omega, by go_num, ht⟩
              case measure => simp [intOf]; omega
            · have n1 := nxt_out hin
              have n2 := prv_out hin
              have n3 := frm_out hin
              rw [n1]
              go_wp2_with fail
              refine (K.prev q ht.out.ps.ra (by omega) (by omega)).mono ?_
              rintro e w4 ⟨rfl, hd⟩
              replace ht := Lib.hid (ht.out.keep K (drB hd))
              clear hd
              go_wp2_with fail
              refine (K.from' q ht.out.ps.ra (by omega) (by omega)).mono ?_
              rintro e w5 ⟨u, rfl, hu, hd, _⟩
              replace ht := Lib.hid (ht.out.keep K hd)
              rw [n3] at hu
              obtain ⟨ua, uc, rfl⟩ := hu.form
              clear hd hu
              go_wp2
              go_roundw
              case rel => exact ⟨q + 1, by omega, by go_num, ht⟩
              case measure => simp [intOf]; omega
          · have e1 : decide ((q : Int) < (m : Int)) = false := by simp; omega
            go_wp2_with fail
            refine (K.len ht.out.ps.ra).mono ?_
            rintro e w3 ⟨rfl, hd⟩
            replace ht := Lib.hid (ht.out.keep K (drB hd))
            clear hd
            go_wp2_with fail
            refine (known_c K w3).mono ?_
            rintro e w4 ⟨rfl, hd⟩
            replace ht := Lib.hid (ht.out.keep K hd)
            go_wp2
            go_ret
            exact ⟨rfl, ht.out.ps.bel⟩
      · have d1 : decide ((j : Int) < (len : Int)) = false := by simp; omega
        go_wp2
        go_loopw [9] (fun i wr' => ∃ q : Nat, q ≤ m ∧ i = .int .i64 q ∧ Hid (PR RA w1 wr' p m L F)) (fun i _ => m - (intOf i).toNat)
        case atStart => exact ⟨0, by omega, rfl, hst⟩
        case round =>
          obtain ⟨q, hq, rfl, ht⟩ := hrel
          by_cases hq2 : q < m
          · have e1 : decide ((q : Int) < (m : Int)) = true := by simp; omega
            go_wp2_with fail
            refine (K.next q ht.out.ps.ra (by omega) (by omega)).mono ?_
            rintro e w3 ⟨rfl, hd⟩
            replace ht := Lib.hid (ht.out.keep K (drB hd))
            clear hd
            by_cases hin : (q : Int) ∈ L
            · obtain ⟨a0, a1⟩ := ht.out.mem _ (nxt_mem ht.out.nd hin)
              have ep := prv_nxt ht.out.nd hin
              obtain ⟨f1, f2, _, f4, _, _⟩ := frm_facts ht.out.nd hin
              have hpos : 0 < L.length := List.length_pos_of_mem hin
              obtain ⟨x, hx⟩ : ∃ x, (frm L q)[L.length - 1]? = some x := ⟨(frm L q)[L.length - 1]'(by omega), by simp⟩
              have ex := f4 x hx
              have hxb := ht.out.mem x ((frm_facts ht.out.nd hin).2.2.2.2.1 _ _ hx)
              go_wp2_with fail
              refine (K.from' q ht.out.ps.ra (by omega) (by omega)).mono ?_
              rintro e w4 ⟨u, rfl, hu, hd, _⟩
              replace ht := Lib.hid (ht.out.keep K hd)
              clear hd
              rcases hu.cases with ⟨_, h0⟩ | ⟨g', cap', rfl, hle', hm', hg', hown⟩
              · rw [h0] at f1; simp at f1; omega
              have c0 := row_cell hown f2
              have c1 := row_cell hown hx
              rw [f1] at hle' ⊢
              clear hown hu f2 f4 hx hin
              have q0 : (0 : Int) ≤ (L.length : Int) - 1 := by omega
              have q1 : (L.length : Int) - 1 < (L.length : Int) := by omega
              have q2 : ((L.length : Int) - 1).toNat = L.length - 1 := by omega
              go_wp2_with fail
              refine (K.prev (nxt L q) ht.out.ps.ra (by omega) (by omega)).mono ?_
              rintro e w5 ⟨rfl, hd⟩
              replace ht := Lib.hid (ht.out.keep K (drB hd))
              replace c0 := cell_up (drB hd) c0
              replace c1 := cell_up (drB hd) c1
              clear hd
              go_wp2_with fail
              refine (K.next x ht.out.ps.ra (by omega) (by omega)).mono ?_
              rintro e w6 ⟨rfl, hd⟩
              replace ht := Lib.hid (ht.out.keep K (drB hd))
              clear hd c0 c1
              go_wp2
              go_roundw
              case rel => exact ⟨q + 1, by omega, by go_num, ht⟩
              case measure => simp [intOf]; omega
            · have n1 := nxt_out hin
              have n2 := prv_out hin
              have n3 := frm_out hin
              rw [n1]
              go_wp2_with fail
              refine (K.prev q ht.out.ps.ra (by omega) (by omega)).mono ?_
              rintro e w4 ⟨rfl, hd⟩
              replace ht := Lib.hid (ht.out.keep K (drB hd))
              clear hd
              go_wp2_with fail
              refine (K.from' q ht.out.ps.ra (by omega) (by omega)).mono ?_
              rintro e w5 ⟨u, rfl, hu, hd, _⟩
              replace ht := Lib.hid (ht.out.keep K hd)
              rw [n3] at hu
              obtain ⟨ua, uc, rfl⟩ := hu.form
              clear hd hu
              go_wp2
              go_roundw
              case rel => exact ⟨q + 1, by omega, by go_num, ht⟩
              case measure => simp [intOf]; omega
          · have e1 : decide ((q : Int) < (m : Int)) = false := by simp; omega
            go_wp2_with fail
            refine (K.len ht.out.ps.ra).mono ?_
            rintro e w3 ⟨rfl, hd⟩
            replace ht := Lib.hid (ht.out.keep K (drB hd))
            clear hd
            go_wp2_with fail
            refine (known_c K w3).mono ?_
            rintro e w4 ⟨rfl, hd⟩
            replace ht := Lib.hid (ht.out.keep K hd)
            go_wp2
            go_ret
            exact ⟨rfl, ht.out.ps.bel⟩
end Wd
end Go.Proofs.Ytdfmbeilmbnpiaa
