/- What the laws ask of a ring, whoever keeps it; what keeps it: RingBack. -/
import Derived.Test.YtdfmbeilmbnpiaaRNew
import Derived.Test.YtdfmbeilmbnpiaaRSame
import Derived.Test.YtdfmbeilmbnpiaaRMath
import Derived.Test.YtdfmbeilmbnpiaaRRound
import Derived.OpenShut
import Derived.Deep.RegionHeld3
namespace Go.Proofs.Ytdfmbeilmbnpiaa
open Go.RowKit
namespace Wd
theorem nxt_ne {L : List Int} (hn : L.Nodup) {x : Int} (hx : x ∈ L) (hl : 2 ≤ L.length) : nxt L x ≠ x := by
  obtain ⟨C, h1, h2, _, h4, _⟩ := turned hn hx
  rw [h4]
  rcases nxt_get h1 (k := 0) rfl with ⟨_, h⟩ | ⟨h, _⟩
  · intro e
    rw [e] at h
    simp only [List.getElem?_cons_succ] at h
    exact (List.nodup_cons.1 h1).1 (List.mem_of_getElem? h)
  · have hlen : (x :: C).length = C.length + 1 := rfl
    omega
theorem rng_mem_iff (m : Nat) (x : Int) : x ∈ rng m ↔ 0 ≤ x ∧ x < m := by
  constructor
  · exact rng_mem m x
  · intro h
    simp only [rng, List.mem_map, List.mem_range]
    exact ⟨x.toNat, by omega, by omega⟩
/-- two rings of the package's, one of them as it was made -/
structure BS (RA : RAt) (w0 wr : World) (p q m : Nat) (L : List Int) (F F2 : Nat → Prop) : Prop where
  ra : RA wr p m L F
  rb : RA wr q m (rng m) F2
  dj : ∀ k, F2 k → ¬ F k
  bel : Below w0.heap.size w0 wr
  fF : ∀ k, F k → w0.heap.size ≤ k
theorem BS.keep {RA : RAt} (K : RingK RA) {w0 wr w1 : World} {p q m : Nat} {L : List Int} {F F2 : Nat → Prop} (h : BS RA w0 wr p q m L F F2) (g : Below wr.heap.size wr w1) : BS RA w0 w1 p q m L F F2 :=
  ⟨K.keep h.ra (fun k hk => g.block k (K.lt h.ra k hk)), K.keep h.rb (fun k hk => g.block k (K.lt h.rb k hk)), h.dj, h.bel.trans (g.mono h.bel.size), h.fF⟩
theorem BS.ch {RA : RAt} (K : RingK RA) {w0 wr w1 : World} {p q m : Nat} {L L' : List Int} {F F2 : Nat → Prop} (h : BS RA w0 wr p q m L F F2) (hr : RA w1 p m L' F) (c : Ch F wr w1) : BS RA w0 w1 p q m L' F F2 :=
  ⟨hr, K.keep h.rb (fun k hk => c.block k (K.lt h.rb k hk) (h.dj k hk)), h.dj, h.bel.trans ⟨c.os, c.tape, c.output, c.size, fun k hk => c.block k (Nat.lt_of_lt_of_le hk h.bel.size) (fun hF => by have := h.fF k hF; omega)⟩, h.fF⟩
/-- all are in, and going round is as it was -/
structure All (m : Nat) (L : List Int) : Prop where
  nd : L.Nodup
  len : L.length = m
  mem : ∀ j, j ∈ L ↔ 0 ≤ j ∧ j < m
  frm : ∀ j, frm L j = frm (rng m) j
theorem All.back {m : Nat} {L : List Int} (h : All m L) (hm : 2 ≤ m) {x : Int} (hx : x ∈ L) : All m (inL (outL L x) x (nxt L x)) := by
  obtain ⟨a, b, c, _, _, d⟩ := back_same h.nd hx (by rw [h.len]; exact hm)
  exact ⟨a, b.trans h.len, fun j => (c j).trans (h.mem j), fun j => (d j).trans (h.frm j)⟩
theorem All.ok {m : Nat} {L : List Int} (h : All m L) (hm : 2 ≤ m) {x : Int} (hx : x ∈ L) : putOk m (outL L x) x (nxt L x) = true := by
  have hb := (h.mem x).1 hx
  have h1 : x ∉ outL L x := fun h' => ((mem_outL h.nd hx x).1 h').2 rfl
  have h2 : nxt L x ∈ outL L x := (mem_outL h.nd hx _).2 ⟨nxt_mem h.nd hx, nxt_ne h.nd hx (by rw [h.len]; exact hm)⟩
  unfold putOk
  simp only [decide_eq_true_eq]
  exact ⟨hb.1, hb.2, h1, Or.inl h2⟩
set_option maxHeartbeats 16000000 in
theorem back_any {RA : RAt} (K : RingK RA) (n : Int) (j0 : -9223372036854775808 ≤ n) (j1 : n ≤ 9223372036854775807) (ad : Option Addr) (len cap : Nat) (w : World) (HA : Nums w ad len) (_hlen : len ≤ maxLen) :
    Calls Try.prog 6 #[.int .i64 n, .slice ad len cap] w fun e w' => e = .returned (.bool true) ∧ Below w.heap.size w w' := by
  replace HA := Lib.hid HA
  obtain ⟨b0, b1⟩ := within_bd n 0 40 (by omega)
  go_enter Try.func6, Try.ntmps6
  go_wp2_with fail
  refine (within_c n 0 40 j0 j1 (by omega) (by omega) (by omega) w).mono ?_
  rintro e w1 ⟨rfl, rfl⟩
  obtain ⟨m, hm, m1, m2⟩ : ∃ m : Nat, 2 + within n 0 40 = m ∧ 2 ≤ m ∧ m ≤ 42 := ⟨(2 + within n 0 40).toNat, by omega, by omega, by omega⟩
  go_wp2_with fail
  refine (K.new m (by omega) (by omega)).mono ?_
  rintro e w2 ⟨p, F, rfl, hra, hF, hb⟩
  go_wp2_with fail
  refine (K.new m (by omega) (by omega)).mono ?_
  rintro e w3 ⟨q, F2, rfl, hrb, hF2, hb2⟩
  have hs : Hid (BS RA w1 w3 p q m (rng m) F F2) := Lib.hid ⟨K.keep hra (fun k hk => hb2.block k (K.lt hra k hk)), hrb, fun k hk hk2 => (by have := hF2 k hk; have := K.lt hra k hk2; omega), hb.trans (hb2.mono hb.size), hF⟩
  have ha : Hid (All m (rng m)) := Lib.hid ⟨rng_nd m, rng_len m, rng_mem_iff m, fun _ => rfl⟩
  clear hra hF hb hrb hF2 hb2 hm b0 b1
  go_wp2
  go_loopw [8] (fun i wr => ∃ j : Nat, j ≤ len ∧ j ≤ 40 ∧ i = .int .i64 j ∧ ∃ L, Hid (BS RA w1 wr p q m L F F2) ∧ Hid (All m L)) (fun i _ => 40 - (intOf i).toNat)
  case atStart => exact ⟨0, by omega, by omega, rfl, rng m, hs, ha⟩
  case round =>
    clear hs ha
    obtain ⟨j, hj, hj2, rfl, L, hst, hal⟩ := hrel
    by_cases hlt : j < len ∧ j < 40
    · obtain ⟨g, off, x, rfl, ⟨x0, x1⟩, cx⟩ := HA.out wr hst.out.bel j hlt.1
      have d1 : decide ((j : Int) < (len : Int)) = true := by simp; omega
      have d2 : decide ((j : Int) < 40) = true := by simp; omega
      obtain ⟨y0, y1⟩ := within_bd x 0 ((m : Int) - 1) (by omega)
      go_wp2_with fail
      refine (within_c x 0 ((m : Int) - 1) x0 x1 (by omega) (by omega) (by omega) wr).mono ?_
      rintro e w4 ⟨rfl, rfl⟩
      obtain ⟨y, hy⟩ : ∃ y, within x 0 ((m : Int) - 1) = y := ⟨_, rfl⟩
      rw [hy] at y0 y1 ⊢
      have hin : y ∈ L := (hal.out.mem y).2 ⟨y0, by omega⟩
      obtain ⟨a0, a1⟩ := (hal.out.mem _).1 (nxt_mem hal.out.nd hin)
      have d3 : decide (y ∈ L) = true := by simpa using hin
      have e3 : ((outL L y).length : Int) = (m : Int) - 1 := by have := len_outL hal.out.nd hin; have := hal.out.len; omega
      have e4 : nxt (outL L y) y = -1 := nxt_out (fun h' => ((mem_outL hal.out.nd hin y).1 h').2 rfl)
      have e5 := hal.out.ok m1 hin
      have hal2 := Lib.hid (hal.out.back m1 hin)
      have e6 := hal2.out.frm y
      have hle : (frm (rng m) y).length ≤ 8192 := Nat.le_trans (frm_le _ _) (by rw [rng_len]; omega)
      clear hal hin cx hy
      go_wp2_with fail
      refine (K.next y hst.out.ra (by omega) (by omega)).mono ?_
      rintro e w5 ⟨rfl, hd⟩
      replace hst := Lib.hid (hst.out.keep K (drB hd))
      clear hd
      go_wp2_with fail
      refine (K.out y hst.out.ra (by omega) (by omega)).mono ?_
      rintro e w6 ⟨rfl, hr, hc⟩
      replace hst := Lib.hid (hst.out.ch K hr hc)
      clear hr hc
      go_wp2_with fail
      refine (K.len hst.out.ra).mono ?_
      rintro e w7 ⟨rfl, hd⟩
      replace hst := Lib.hid (hst.out.keep K (drB hd))
      clear hd
      go_wp2_with fail
      refine (K.next y hst.out.ra (by omega) (by omega)).mono ?_
      rintro e w8 ⟨rfl, hd⟩
      replace hst := Lib.hid (hst.out.keep K (drB hd))
      clear hd
      go_wp2_with fail
      refine (K.put y (nxt L y) hst.out.ra (by omega) (by omega) (by omega) (by omega)).mono ?_
      rintro e w9 ⟨rfl, hr, hc⟩
      replace hst := hst.out.ch K hr hc
      rw [e5, if_pos rfl] at hst
      replace hst := Lib.hid hst
      clear hr hc
      go_wp2_with fail
      refine (K.from' y hst.out.ra (by omega) (by omega)).mono ?_
      rintro e w10 ⟨u1, rfl, hu1, hd, _⟩
      replace hst := Lib.hid (hst.out.keep K hd)
      rw [e6] at hu1
      clear hd
      go_wp2_with fail
      refine (K.from' y hst.out.rb (by omega) (by omega)).mono ?_
      rintro e w11 ⟨u2, rfl, hu2, hd, _⟩
      replace hst := Lib.hid (hst.out.keep K hd)
      replace hu1 := hu1.keep hd
      clear hd
      go_wp2_with fail
      refine (same_ints _ _ u1 u2 _ hu1 hu2 hle hle).mono ?_
      rintro e w12 ⟨rfl, hd⟩
      replace hst := Lib.hid (hst.out.keep K (drB hd))
      clear hd hu1 hu2
      go_wp2
      go_roundw
      case rel => exact ⟨j + 1, by omega, by omega, by go_num, _, hst, hal2⟩
      case measure => simp [intOf]; omega
    · have e6 := hal.out.frm 0
      have hle : (frm (rng m) 0).length ≤ 8192 := Nat.le_trans (frm_le _ _) (by rw [rng_len]; omega)
      by_cases hl1 : j < len
      · have d1 : decide ((j : Int) < (len : Int)) = true := by simp; omega
        have d2 : decide ((j : Int) < 40) = false := by simp; omega
        go_wp2_with fail
        refine (K.from' 0 hst.out.ra (by omega) (by omega)).mono ?_
        rintro e w10 ⟨u1, rfl, hu1, hd, _⟩
        replace hst := Lib.hid (hst.out.keep K hd)
        rw [e6] at hu1
        clear hd
        go_wp2_with fail
        refine (K.from' 0 hst.out.rb (by omega) (by omega)).mono ?_
        rintro e w11 ⟨u2, rfl, hu2, hd, _⟩
        replace hst := Lib.hid (hst.out.keep K hd)
        replace hu1 := hu1.keep hd
        clear hd
        go_wp2_with fail
        refine (same_ints _ _ u1 u2 _ hu1 hu2 hle hle).mono ?_
        rintro e w12 ⟨rfl, hd⟩
        replace hst := Lib.hid (hst.out.keep K (drB hd))
        clear hd hu1 hu2
        go_wp2_with fail
        refine (known_c K w12).mono ?_
        rintro e w13 ⟨rfl, hd⟩
        replace hst := Lib.hid (hst.out.keep K hd)
        go_wp2
        go_ret
        exact ⟨rfl, hst.out.bel⟩
      · have d1 : decide ((j : Int) < (len : Int)) = false := by simp; omega
        go_wp2_with fail
        refine (K.from' 0 hst.out.ra (by omega) (by omega)).mono ?_
        rintro e w10 ⟨u1, rfl, hu1, hd, _⟩
        replace hst := Lib.hid (hst.out.keep K hd)
        rw [e6] at hu1
        clear hd
        go_wp2_with fail
        refine (K.from' 0 hst.out.rb (by omega) (by omega)).mono ?_
        rintro e w11 ⟨u2, rfl, hu2, hd, _⟩
        replace hst := Lib.hid (hst.out.keep K hd)
        replace hu1 := hu1.keep hd
        clear hd
        go_wp2_with fail
        refine (same_ints _ _ u1 u2 _ hu1 hu2 hle hle).mono ?_
        rintro e w12 ⟨rfl, hd⟩
        replace hst := Lib.hid (hst.out.keep K (drB hd))
        clear hd hu1 hu2
        go_wp2_with fail
        refine (known_c K w12).mono ?_
        rintro e w13 ⟨rfl, hd⟩
        replace hst := Lib.hid (hst.out.keep K hd)
        go_wp2
        go_ret
        exact ⟨rfl, hst.out.bel⟩
end Wd
end Go.Proofs.Ytdfmbeilmbnpiaa
