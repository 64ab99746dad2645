/- What the laws ask of a ring, whoever keeps it; what keeps it: play, its walk. -/
import Derived.Test.YtdfmbeilmbnpiaaRNew
import Derived.Test.YtdfmbeilmbnpiaaRSame
import Derived.Test.YtdfmbeilmbnpiaaRMath
import Derived.Test.YtdfmbeilmbnpiaaRPlayS
import Derived.OpenShut
import Derived.Deep.RegionHeld3
namespace Go.Proofs.Ytdfmbeilmbnpiaa
open Go.RowKit
namespace Wd
set_option maxHeartbeats 16000000 in
theorem play_none {RA : RAt} (K : RingK RA) (n : Int) (j0 : -9223372036854775808 ≤ n) (j1 : n ≤ 9223372036854775807) (l : Value) (w : World) (h : n < 1 ∨ 4096 < n) :
    Calls Try.prog 7 #[.int .i64 n, l] w fun e w' => e = .returned (.bool true) ∧ Below w.heap.size w w' := by
  have H := Lib.hid h
  rcases h with h | h
  all_goals
    go_enter Try.func7, Try.ntmps7
    go_wp2_with (first | (go_at_call 10; ((with_reducible refine (K.none n j0 j1 H.out).mono ?_); rintro e w' ⟨rfl, rfl⟩)))
    go_ret
    exact ⟨rfl, Below.refl _ _⟩
set_option maxHeartbeats 16000000 in
theorem play_small {RA : RAt} (K : RingK RA) (N : Nat) (h1 : 1 ≤ N) (h2 : N ≤ 4096) (hm : (N : Int) ≤ 60) (ad : Option Addr) (len cap : Nat) (w : World) (HA : Asks w ad len) (_hlen : len ≤ maxLen) :
    Calls Try.prog 7 #[.int .i64 N, .slice ad len cap] w fun e w' => e = .returned (.bool true) ∧ Below w.heap.size w w' := by
  replace HA := Lib.hid HA
  go_enter Try.func7, Try.ntmps7
  go_wp2_with fail
  refine (K.new N h1 h2).mono ?_
  rintro e w1 ⟨p1, F1, rfl, hra1, hF1, hb1⟩
  clear hra1 hF1
  go_wp2_with fail
  refine (K.new N (by omega) (by omega)).mono ?_
  rintro e w2 ⟨p, F, rfl, hra, hF, hb2⟩
  go_wp2_with fail
  refine (rnew_c N (by omega) (by omega) w2).mono ?_
  rintro e w3 ⟨rfl, v, href, hb3, hv3⟩
  have st0 : PSt RA w w3 p w2.heap.size N (rng N) F v N := by
    have b12 := hb1.trans (hb2.mono hb1.size)
    refine ⟨⟨K.keep hra (fun k hk => hb3.block k (K.lt hra k hk)), href, fun h => ?_, fun g hg hFg => ?_⟩, rng_nd _, b12.trans (hb3.mono b12.size), fun k hk => Nat.le_trans hb1.size (hF k hk), b12.size, ?_, by rw [rng_len]; exact Nat.le_refl _⟩
    · have := K.lt hra _ h; omega
    · have := K.lt hra _ hFg; have := hv3 g hg; omega
    · intro g hg; exact Nat.le_trans b12.size (hv3 g hg)
  replace st0 := Lib.hid st0
  clear hra hF hb1 hb2 hb3 href hv3
  go_wp2
  go_loopw [7] (fun i wr => ∃ k : Nat, k ≤ len ∧ k ≤ 120 ∧ i = .int .i64 k ∧ ∃ L v, Hid (PSt RA w wr p w2.heap.size N L F v (N + k))) (fun i _ => 120 - (intOf i).toNat)
  case atStart => exact ⟨0, by omega, by omega, rfl, _, _, st0⟩
  case round =>
    obtain ⟨k, hk, hk2, rfl, L, v, hst⟩ := hrel
    clear st0
    by_cases hlt : k < len ∧ k < 120
    · obtain ⟨g, off, x, y, z, rfl, ⟨x0, x1⟩, ⟨y0, y1⟩, ⟨z0, z1⟩, cx, cy, cz⟩ := HA.out wr hst.out.bel k hlt.1
      have d1 : decide ((k : Int) < (len : Int)) = true := by simp; omega
      have d2 : decide ((k : Int) < 120) = true := by simp; omega
      by_cases hx : 1 < x
      · go_wp2
        have B0 : (wr.alloc (.cells #[.int .i64 x, .int .i64 y, .int .i64 z] 24)).drew.cell? ⟨wr.heap.size, 0, none⟩ = some (.int .i64 x) ∧ (wr.alloc (.cells #[.int .i64 x, .int .i64 y, .int .i64 z] 24)).drew.cell? ⟨wr.heap.size, 1, none⟩ = some (.int .i64 y) ∧ (wr.alloc (.cells #[.int .i64 x, .int .i64 y, .int .i64 z] 24)).drew.cell? ⟨wr.heap.size, 2, none⟩ = some (.int .i64 z) := ⟨by simp, by simp, by simp⟩
        have gA : Below wr.heap.size wr (wr.alloc (.cells #[.int .i64 x, .int .i64 y, .int .i64 z] 24)).drew := ((Below.refl _ _).alloc (Nat.le_refl _) _).drew
        have FB : ¬ F wr.heap.size := fun h => by have := K.lt hst.out.two.ra _ h; omega
        have FB2 : wr.heap.size ≠ w2.heap.size := by have := hst.out.two.ref.lt.1; omega
        have hraA := (hst.out.two.keep K gA).ra
        have HL8 : Hid (L.length ≤ 8192) := Lib.hid (by have := hst.out.len; omega)
        go_region_held3 (fun w' => w'.cell? ⟨wr.heap.size, 0, none⟩ = some (.int .i64 x) ∧ w'.cell? ⟨wr.heap.size, 1, none⟩ = some (.int .i64 y) ∧ w'.cell? ⟨wr.heap.size, 2, none⟩ = some (.int .i64 z)) (first | assumption | exact B0 | exact box_ch (by assumption) hch FB | exact box_gr (by assumption) hgr FB2) (first
          | (go_at_call 16; ((with_reducible refine (K.put y z hraA y0 y1 z0 z1).mono ?_); rintro e wB ⟨rfl, hrB, hch⟩))
          | (go_at_call 19; ((with_reducible refine (put_c y z _ _ L _ _ (hst.out.ref1 K gA hch) HL8.out).mono ?_); rintro e wC ⟨rfl, v', hrC, hgr, hfr⟩)))
        have hst2 := Lib.hid (hst.out.step K gA hrB hch hrC hgr hfr (nd_put hst.out.nd y z).1 (by have := (nd_put (n := N) hst.out.nd y z).2; have := hst.out.len; omega))
        obtain ⟨c0, c1, c2⟩ := box_gr (box_ch B0 hch FB) hgr FB2
        clear hst B0 gA FB FB2 hraA HL8 hrB hch hrC hgr hfr
        have hst := hst2
        clear hst2
        go_wp2_with (first | (go_at_call 21; ((with_reducible refine (same_c K _ hst.out.two (by have := hst.out.len; omega) ?_ ?_).mono ?_); omega; omega; rintro e w5 ⟨rfl, hb⟩; obtain ⟨c0', c1', c2'⟩ := box_be ⟨c0, c1, c2⟩ hb; clear c0 c1 c2; have c0 := c0'; have c1 := c1'; have c2 := c2'; clear c0' c1' c2'; replace hst := Lib.hid (hst.out.keep K hb); clear hb)))
        go_roundw
        case rel => exact ⟨k + 1, by omega, by omega, by go_num, _, _, hst⟩
        case measure => simp [intOf]; omega
      · go_wp2
        have B0 : (wr.alloc (.cells #[.int .i64 x, .int .i64 y, .int .i64 z] 24)).drew.cell? ⟨wr.heap.size, 0, none⟩ = some (.int .i64 x) ∧ (wr.alloc (.cells #[.int .i64 x, .int .i64 y, .int .i64 z] 24)).drew.cell? ⟨wr.heap.size, 1, none⟩ = some (.int .i64 y) ∧ (wr.alloc (.cells #[.int .i64 x, .int .i64 y, .int .i64 z] 24)).drew.cell? ⟨wr.heap.size, 2, none⟩ = some (.int .i64 z) := ⟨by simp, by simp, by simp⟩
        have gA : Below wr.heap.size wr (wr.alloc (.cells #[.int .i64 x, .int .i64 y, .int .i64 z] 24)).drew := ((Below.refl _ _).alloc (Nat.le_refl _) _).drew
        have FB : ¬ F wr.heap.size := fun h => by have := K.lt hst.out.two.ra _ h; omega
        have FB2 : wr.heap.size ≠ w2.heap.size := by have := hst.out.two.ref.lt.1; omega
        have hraA := (hst.out.two.keep K gA).ra
        have HL8 : Hid (L.length ≤ 8192) := Lib.hid (by have := hst.out.len; omega)
        go_region_held3 (fun w' => w'.cell? ⟨wr.heap.size, 0, none⟩ = some (.int .i64 x) ∧ w'.cell? ⟨wr.heap.size, 1, none⟩ = some (.int .i64 y) ∧ w'.cell? ⟨wr.heap.size, 2, none⟩ = some (.int .i64 z)) (first | assumption | exact B0 | exact box_ch (by assumption) hch FB | exact box_gr (by assumption) hgr FB2) (first
          | (go_at_call 11; ((with_reducible refine (K.out y hraA y0 y1).mono ?_); rintro e wB ⟨rfl, hrB, hch⟩))
          | (go_at_call 20; ((with_reducible refine (out_c y _ _ L _ _ (hst.out.ref1 K gA hch) HL8.out).mono ?_); rintro e wC ⟨rfl, v', hrC, hgr, hfr⟩)))
        have hst2 := Lib.hid (hst.out.step K gA hrB hch hrC hgr hfr (nd_outL hst.out.nd y) (by have := len_out hst.out.nd y; have := hst.out.len; omega))
        obtain ⟨c0, c1, c2⟩ := box_gr (box_ch B0 hch FB) hgr FB2
        clear hst B0 gA FB FB2 hraA HL8 hrB hch hrC hgr hfr
        have hst := hst2
        clear hst2
        go_wp2_with (first | (go_at_call 21; ((with_reducible refine (same_c K _ hst.out.two (by have := hst.out.len; omega) ?_ ?_).mono ?_); omega; omega; rintro e w5 ⟨rfl, hb⟩; obtain ⟨c0', c1', c2'⟩ := box_be ⟨c0, c1, c2⟩ hb; clear c0 c1 c2; have c0 := c0'; have c1 := c1'; have c2 := c2'; clear c0' c1' c2'; replace hst := Lib.hid (hst.out.keep K hb); clear hb)))
        go_roundw
        case rel => exact ⟨k + 1, by omega, by omega, by go_num, _, _, hst⟩
        case measure => simp [intOf]; omega
    · by_cases hl1 : k < len
      · have d1 : decide ((k : Int) < (len : Int)) = true := by simp; omega
        have d2 : decide ((k : Int) < 120) = false := by simp; omega
        go_wp2_with (first | (go_at_call 21; ((with_reducible refine (same_c K _ hst.out.two (by have := hst.out.len; omega) ?_ ?_).mono ?_); omega; omega; rintro e w5 ⟨rfl, hb⟩; replace hst := Lib.hid (hst.out.keep K hb); clear hb)))
        go_ret
        exact ⟨rfl, hst.out.bel⟩
      · have d1 : decide ((k : Int) < (len : Int)) = false := by simp; omega
        go_wp2_with (first | (go_at_call 21; ((with_reducible refine (same_c K _ hst.out.two (by have := hst.out.len; omega) ?_ ?_).mono ?_); omega; omega; rintro e w5 ⟨rfl, hb⟩; replace hst := Lib.hid (hst.out.keep K hb); clear hb)))
        go_ret
        exact ⟨rfl, hst.out.bel⟩
set_option maxHeartbeats 16000000 in
theorem play_big {RA : RAt} (K : RingK RA) (N : Nat) (h1 : 1 ≤ N) (h2 : N ≤ 4096) (hm : (60 : Int) < N) (ad : Option Addr) (len cap : Nat) (w : World) (HA : Asks w ad len) (_hlen : len ≤ maxLen) :
    Calls Try.prog 7 #[.int .i64 N, .slice ad len cap] w fun e w' => e = .returned (.bool true) ∧ Below w.heap.size w w' := by
  replace HA := Lib.hid HA
  go_enter Try.func7, Try.ntmps7
  go_wp2_with fail
  refine (K.new N h1 h2).mono ?_
  rintro e w1 ⟨p1, F1, rfl, hra1, hF1, hb1⟩
  clear hra1 hF1
  go_wp2_with fail
  refine (K.new 60 (by omega) (by omega)).mono ?_
  rintro e w2 ⟨p, F, rfl, hra, hF, hb2⟩
  go_wp2_with fail
  refine (rnew_c 60 (by omega) (by omega) w2).mono ?_
  rintro e w3 ⟨rfl, v, href, hb3, hv3⟩
  have st0 : PSt RA w w3 p w2.heap.size 60 (rng 60) F v 60 := by
    have b12 := hb1.trans (hb2.mono hb1.size)
    refine ⟨⟨K.keep hra (fun k hk => hb3.block k (K.lt hra k hk)), href, fun h => ?_, fun g hg hFg => ?_⟩, rng_nd _, b12.trans (hb3.mono b12.size), fun k hk => Nat.le_trans hb1.size (hF k hk), b12.size, ?_, by rw [rng_len]; exact Nat.le_refl _⟩
    · have := K.lt hra _ h; omega
    · have := K.lt hra _ hFg; have := hv3 g hg; omega
    · intro g hg; exact Nat.le_trans b12.size (hv3 g hg)
  replace st0 := Lib.hid st0
  clear hra hF hb1 hb2 hb3 href hv3
  go_wp2
  go_loopw [7] (fun i wr => ∃ k : Nat, k ≤ len ∧ k ≤ 120 ∧ i = .int .i64 k ∧ ∃ L v, Hid (PSt RA w wr p w2.heap.size 60 L F v (60 + k))) (fun i _ => 120 - (intOf i).toNat)
  case atStart => exact ⟨0, by omega, by omega, rfl, _, _, st0⟩
  case round =>
    obtain ⟨k, hk, hk2, rfl, L, v, hst⟩ := hrel
    clear st0
    by_cases hlt : k < len ∧ k < 120
    · obtain ⟨g, off, x, y, z, rfl, ⟨x0, x1⟩, ⟨y0, y1⟩, ⟨z0, z1⟩, cx, cy, cz⟩ := HA.out wr hst.out.bel k hlt.1
      have d1 : decide ((k : Int) < (len : Int)) = true := by simp; omega
      have d2 : decide ((k : Int) < 120) = true := by simp; omega
      by_cases hx : 1 < x
      · go_wp2
        have B0 : (wr.alloc (.cells #[.int .i64 x, .int .i64 y, .int .i64 z] 24)).drew.cell? ⟨wr.heap.size, 0, none⟩ = some (.int .i64 x) ∧ (wr.alloc (.cells #[.int .i64 x, .int .i64 y, .int .i64 z] 24)).drew.cell? ⟨wr.heap.size, 1, none⟩ = some (.int .i64 y) ∧ (wr.alloc (.cells #[.int .i64 x, .int .i64 y, .int .i64 z] 24)).drew.cell? ⟨wr.heap.size, 2, none⟩ = some (.int .i64 z) := ⟨by simp, by simp, by simp⟩
        have gA : Below wr.heap.size wr (wr.alloc (.cells #[.int .i64 x, .int .i64 y, .int .i64 z] 24)).drew := ((Below.refl _ _).alloc (Nat.le_refl _) _).drew
        have FB : ¬ F wr.heap.size := fun h => by have := K.lt hst.out.two.ra _ h; omega
        have FB2 : wr.heap.size ≠ w2.heap.size := by have := hst.out.two.ref.lt.1; omega
        have hraA := (hst.out.two.keep K gA).ra
        have HL8 : Hid (L.length ≤ 8192) := Lib.hid (by have := hst.out.len; omega)
        go_region_held3 (fun w' => w'.cell? ⟨wr.heap.size, 0, none⟩ = some (.int .i64 x) ∧ w'.cell? ⟨wr.heap.size, 1, none⟩ = some (.int .i64 y) ∧ w'.cell? ⟨wr.heap.size, 2, none⟩ = some (.int .i64 z)) (first | assumption | exact B0 | exact box_ch (by assumption) hch FB | exact box_gr (by assumption) hgr FB2) (first
          | (go_at_call 16; ((with_reducible refine (K.put y z hraA y0 y1 z0 z1).mono ?_); rintro e wB ⟨rfl, hrB, hch⟩))
          | (go_at_call 19; ((with_reducible refine (put_c y z _ _ L _ _ (hst.out.ref1 K gA hch) HL8.out).mono ?_); rintro e wC ⟨rfl, v', hrC, hgr, hfr⟩)))
        have hst2 := Lib.hid (hst.out.step K gA hrB hch hrC hgr hfr (nd_put hst.out.nd y z).1 (by have := (nd_put (n := 60) hst.out.nd y z).2; have := hst.out.len; omega))
        obtain ⟨c0, c1, c2⟩ := box_gr (box_ch B0 hch FB) hgr FB2
        clear hst B0 gA FB FB2 hraA HL8 hrB hch hrC hgr hfr
        have hst := hst2
        clear hst2
        go_wp2_with (first | (go_at_call 21; ((with_reducible refine (same_c K _ hst.out.two (by have := hst.out.len; omega) ?_ ?_).mono ?_); omega; omega; rintro e w5 ⟨rfl, hb⟩; obtain ⟨c0', c1', c2'⟩ := box_be ⟨c0, c1, c2⟩ hb; clear c0 c1 c2; have c0 := c0'; have c1 := c1'; have c2 := c2'; clear c0' c1' c2'; replace hst := Lib.hid (hst.out.keep K hb); clear hb)))
        go_roundw
        case rel => exact ⟨k + 1, by omega, by omega, by go_num, _, _, hst⟩
        case measure => simp [intOf]; omega
      · go_wp2
        have B0 : (wr.alloc (.cells #[.int .i64 x, .int .i64 y, .int .i64 z] 24)).drew.cell? ⟨wr.heap.size, 0, none⟩ = some (.int .i64 x) ∧ (wr.alloc (.cells #[.int .i64 x, .int .i64 y, .int .i64 z] 24)).drew.cell? ⟨wr.heap.size, 1, none⟩ = some (.int .i64 y) ∧ (wr.alloc (.cells #[.int .i64 x, .int .i64 y, .int .i64 z] 24)).drew.cell? ⟨wr.heap.size, 2, none⟩ = some (.int .i64 z) := ⟨by simp, by simp, by simp⟩
        have gA : Below wr.heap.size wr (wr.alloc (.cells #[.int .i64 x, .int .i64 y, .int .i64 z] 24)).drew := ((Below.refl _ _).alloc (Nat.le_refl _) _).drew
        have FB : ¬ F wr.heap.size := fun h => by have := K.lt hst.out.two.ra _ h; omega
        have FB2 : wr.heap.size ≠ w2.heap.size := by have := hst.out.two.ref.lt.1; omega
        have hraA := (hst.out.two.keep K gA).ra
        have HL8 : Hid (L.length ≤ 8192) := Lib.hid (by have := hst.out.len; omega)
        go_region_held3 (fun w' => w'.cell? ⟨wr.heap.size, 0, none⟩ = some (.int .i64 x) ∧ w'.cell? ⟨wr.heap.size, 1, none⟩ = some (.int .i64 y) ∧ w'.cell? ⟨wr.heap.size, 2, none⟩ = some (.int .i64 z)) (first | assumption | exact B0 | exact box_ch (by assumption) hch FB | exact box_gr (by assumption) hgr FB2) (first
          | (go_at_call 11; ((with_reducible refine (K.out y hraA y0 y1).mono ?_); rintro e wB ⟨rfl, hrB, hch⟩))
          | (go_at_call 20; ((with_reducible refine (out_c y _ _ L _ _ (hst.out.ref1 K gA hch) HL8.out).mono ?_); rintro e wC ⟨rfl, v', hrC, hgr, hfr⟩)))
        have hst2 := Lib.hid (hst.out.step K gA hrB hch hrC hgr hfr (nd_outL hst.out.nd y) (by have := len_out hst.out.nd y; have := hst.out.len; omega))
        obtain ⟨c0, c1, c2⟩ := box_gr (box_ch B0 hch FB) hgr FB2
        clear hst B0 gA FB FB2 hraA HL8 hrB hch hrC hgr hfr
        have hst := hst2
        clear hst2
        go_wp2_with (first | (go_at_call 21; ((with_reducible refine (same_c K _ hst.out.two (by have := hst.out.len; omega) ?_ ?_).mono ?_); omega; omega; rintro e w5 ⟨rfl, hb⟩; obtain ⟨c0', c1', c2'⟩ := box_be ⟨c0, c1, c2⟩ hb; clear c0 c1 c2; have c0 := c0'; have c1 := c1'; have c2 := c2'; clear c0' c1' c2'; replace hst := Lib.hid (hst.out.keep K hb); clear hb)))
        go_roundw
        case rel => exact ⟨k + 1, by omega, by omega, by go_num, _, _, hst⟩
        case measure => simp [intOf]; omega
    · by_cases hl1 : k < len
      · have d1 : decide ((k : Int) < (len : Int)) = true := by simp; omega
        have d2 : decide ((k : Int) < 120) = false := by simp; omega
        go_wp2_with (first | (go_at_call 21; ((with_reducible refine (same_c K _ hst.out.two (by have := hst.out.len; omega) ?_ ?_).mono ?_); omega; omega; rintro e w5 ⟨rfl, hb⟩; replace hst := Lib.hid (hst.out.keep K hb); clear hb)))
        go_ret
        exact ⟨rfl, hst.out.bel⟩
      · have d1 : decide ((k : Int) < (len : Int)) = false := by simp; omega
        go_wp2_with (first | (go_at_call 21; ((with_reducible refine (same_c K _ hst.out.two (by have := hst.out.len; omega) ?_ ?_).mono ?_); omega; omega; rintro e w5 ⟨rfl, hb⟩; replace hst := Lib.hid (hst.out.keep K hb); clear hb)))
        go_ret
        exact ⟨rfl, hst.out.bel⟩
end Wd
end Go.Proofs.Ytdfmbeilmbnpiaa
