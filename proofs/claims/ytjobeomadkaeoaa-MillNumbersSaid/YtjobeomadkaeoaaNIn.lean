/- The ring of the package: one is put in. -/
import Derived.Test.YtjobeomadkaeoaaNRun
namespace Go.Proofs.Ytjobeomadkaeoaa
open Go.RowKit
set_option linter.unusedVariables false
namespace Wd
set_option maxHeartbeats 4000000 in
/-- ahead of another -/
theorem in_y {w : World} {p n g1 g2 k a b : Nat} {L : List Int} {f h : Nat → Int} (hB : RB w p g1 g2 n f h (L.length : Int)) (hL : RL n L f h) (hk : (k : Int) ∉ L) (hn : k < n) (hm : (a : Int) ∈ L) (eb : prv L a = b) (ha : a < n) (hb : b < n) :
    Calls Try.prog 34 #[.pointer (some ⟨p, 0, none⟩), .int .i64 (k : Int), .int .i64 (a : Int)] w fun e w' => e = .returned (.bool true) ∧ RB w' p g1 g2 n (upd (upd f b k) k a) (upd (upd h k b) a k) (L.length + 1 : Int) ∧ Ch (FF p g1 g2) w w' := by
  have hR : RA w p n L (FF p g1 g2) := ⟨g1, g2, f, h, rfl, hB, hL⟩
  have P0 : Calls Try.prog 37 #[.pointer (some ⟨p, 0, none⟩), .int .i64 (a : Int)] w fun e w' => e = .returned (.int .i64 (b : Int)) ∧ w' = w := eb ▸ prev_k a hR
  have hf : f k = -1 := (hL.in_iff hn).2 hk
  have hh : h a = b := (hL.eh a ha).trans eb
  have n1 : ((b : Int) == -1) = false := by simp
  have n2 : ((a : Int) == -1) = false := by simp
  have n3 : ((b : Int) != -1) = true := by simp
  have c0 := hB.c0
  have c1 := hB.c1
  have c3 := hB.f1 k hn
  have c4 := hB.f2 a ha
  rw [hf] at c3
  rw [hh] at c4
  have hlen : (L.length : Int) ≤ n := by have := hL.len; omega
  have hlen' : (n : Int) ≤ 4096 := by have := hL.n2; omega
  have hw : IntKind.i64.wrap ((L.length : Int) + 1) = (L.length : Int) + 1 := by rw [IntKind.wrap_i64]; omega
  generalize (L.length : Int) = m at *
  replace hB := Lib.hid hB
  replace P0 := Lib.hid P0
  clear hL eb hf hh hk hm hlen hlen' hR
  go_enter Try.func34, Try.ntmps34
  go_wp2_with (first | (go_at_call 36; ((with_reducible refine (has_y hB.out hn).mono ?_); rintro e w' ⟨rfl, rfl⟩)) | (go_at_call 37; ((with_reducible refine P0.out.mono ?_); rintro e w' ⟨rfl, rfl⟩)))
  refine (link_c b k p g1 g2 n f h m _ hB.out hb hn).mono ?_
  rintro e w1 ⟨rfl, hB1, hC1⟩
  replace hB1 := Lib.hid hB1
  replace hC1 := Lib.hid hC1
  go_wp2_with fail
  refine (link_c k a p g1 g2 n _ _ m _ hB1.out hn ha).mono ?_
  rintro e w2 ⟨rfl, hB2, hC2⟩
  have d2 := hB2.c2
  have z2 := hB2.z0
  replace hB2 := Lib.hid hB2
  replace hC2 := Lib.hid hC2
  clear c0 c1 c3 c4
  go_wp2
  go_ret
  exact ⟨rfl, hB2.out.set3 (m + 1), (hC1.out.trans hC2.out).set _ (Or.inl rfl) _⟩
set_option maxHeartbeats 4000000 in
/-- into an empty ring -/
theorem in_0 {w : World} {p n g1 g2 k : Nat} {f h : Nat → Int} (hB : RB w p g1 g2 n f h 0) (hL : RL n [] f h) (hn : k < n) :
    Calls Try.prog 34 #[.pointer (some ⟨p, 0, none⟩), .int .i64 (k : Int), .int .i64 (-1)] w fun e w' => e = .returned (.bool true) ∧ RB w' p g1 g2 n (upd f k k) (upd h k k) 1 ∧ Ch (FF p g1 g2) w w' := by
  have hf : f k = -1 := (hL.in_iff hn).2 (by simp)
  have c0 := hB.c0
  have c2 := hB.c2
  have c3 := hB.f1 k hn
  rw [hf] at c3
  replace hB := Lib.hid hB
  clear hL hf
  go_enter Try.func34, Try.ntmps34
  go_wp2_with (first | (go_at_call 36; ((with_reducible refine (has_y hB.out hn).mono ?_); rintro e w' ⟨rfl, rfl⟩)))
  refine (link_c k k p g1 g2 n f h 0 _ hB.out hn hn).mono ?_
  rintro e w1 ⟨rfl, hB1, hC1⟩
  have d2 := hB1.c2
  have z2 := hB1.z0
  replace hB1 := Lib.hid hB1
  replace hC1 := Lib.hid hC1
  clear c0 c2 c3
  go_wp2
  go_ret
  exact ⟨rfl, hB1.out.set3 1, hC1.out.set _ (Or.inl rfl) _⟩
/-- nothing is put in -/
theorem in_n {w : World} {p n : Nat} {L : List Int} {F : Nat → Prop} (i a : Int) (hR : RA w p n L F) (hi : putOk n L i a = false) :
    Calls Try.prog 34 #[.pointer (some ⟨p, 0, none⟩), .int .i64 i, .int .i64 a] w fun e w' => e = .returned (.bool false) ∧ w' = w := by
  unfold putOk at hi
  have hi := of_decide_eq_false hi
  have P0 := prev_k a hR
  obtain ⟨g1, g2, f, h, rfl, hB, hL⟩ := hR
  by_cases hr : 0 ≤ i ∧ i < n
  · obtain ⟨k, rfl⟩ : ∃ k : Nat, i = k := ⟨i.toNat, by omega⟩
    have hk : k < n := by omega
    by_cases hin : (k : Int) ∈ L
    · have hf : ((f k) == -1) = false := by simpa using fun e => (hL.in_iff hk).1 e hin
      have hf' : ((f k) != -1) = true := by simpa using fun e => (hL.in_iff hk).1 e hin
      have c0 := hB.c0
      have c1 := hB.f1 k hk
      generalize f k = u at c1 hf hf'
      replace hB := Lib.hid hB
      clear hr hL P0 hi
      go_enter Try.func34, Try.ntmps34
      go_wp2_with (first | (go_at_call 36; ((with_reducible refine (has_y hB.out hk).mono ?_); rintro e w' ⟨rfl, rfl⟩)))
      go_ret
      exact ⟨rfl, rfl⟩
    · have hf : f k = -1 := (hL.in_iff hk).2 hin
      have haL : a ∉ L := fun e => hi ⟨by omega, by omega, hin, Or.inl e⟩
      have c0 := hB.c0
      have c1 := hB.f1 k hk
      have c2 := hB.c2
      rw [hf] at c1
      rw [prv_out haL] at P0
      by_cases ha : a = -1
      · have hl : ((L.length : Int) == 0) = false := by
          have : L ≠ [] := fun e => hi ⟨by omega, by omega, hin, Or.inr ⟨ha, e⟩⟩
          simpa using this
        subst ha
        generalize (L.length : Int) = m at *
        replace hB := Lib.hid hB
        replace P0 := Lib.hid P0
        clear hr hL hi hf haL
        go_enter Try.func34, Try.ntmps34
        go_wp2_with (first | (go_at_call 36; ((with_reducible refine (has_y hB.out hk).mono ?_); rintro e w' ⟨rfl, rfl⟩)) | (go_at_call 37; ((with_reducible refine P0.out.mono ?_); rintro e w' ⟨rfl, rfl⟩)))
        go_ret
        exact ⟨rfl, rfl⟩
      · have ha' : (a == -1) = false := by simpa using ha
        replace hB := Lib.hid hB
        replace P0 := Lib.hid P0
        clear hr hL hi hf haL
        go_enter Try.func34, Try.ntmps34
        go_wp2_with (first | (go_at_call 36; ((with_reducible refine (has_y hB.out hk).mono ?_); rintro e w' ⟨rfl, rfl⟩)) | (go_at_call 37; ((with_reducible refine P0.out.mono ?_); rintro e w' ⟨rfl, rfl⟩)))
        go_ret
        exact ⟨rfl, rfl⟩
  · replace hB := Lib.hid hB
    go_enter Try.func34, Try.ntmps34
    go_wp2_with (first | (go_at_call 36; ((with_reducible refine (has_n hB.out hr).mono ?_); rintro e w' ⟨rfl, rfl⟩)))
    go_ret
    exact ⟨rfl, rfl⟩
theorem in_k {w : World} {p n : Nat} {L : List Int} {F : Nat → Prop} (i a : Int) (hR : RA w p n L F) :
    Calls Try.prog 34 #[.pointer (some ⟨p, 0, none⟩), .int .i64 i, .int .i64 a] w fun e w' => e = .returned (.bool (putOk n L i a)) ∧ RA w' p n (if putOk n L i a then inL L i a else L) F ∧ Ch F w w' := by
  by_cases hp : putOk n L i a = true
  · rw [hp, if_pos rfl]
    unfold putOk at hp
    obtain ⟨h0, h1, h2, h3⟩ := of_decide_eq_true hp
    obtain ⟨g1, g2, f, h, rfl, hB, hL⟩ := hR
    obtain ⟨k, rfl⟩ : ∃ k : Nat, i = k := ⟨i.toNat, by omega⟩
    by_cases ha : a ∈ L
    · obtain ⟨q, rfl, hq⟩ := hL.mem ha
      obtain ⟨b, eb, hb, _⟩ := hL.prv_bd ha
      refine (in_y hB hL h2 (by omega) ha eb hq hb).mono ?_
      rintro e w' ⟨rfl, d1, d2⟩
      refine ⟨rfl, ⟨g1, g2, _, _, rfl, ?_, hL.put (by omega) h2 ha eb⟩, d2⟩
      rw [(inL_facts hL.nd h2 ha).2.2.2.2]
      exact d1
    · obtain ⟨rfl, rfl⟩ := h3.resolve_left ha
      refine (in_0 hB hL (by omega)).mono ?_
      rintro e w' ⟨rfl, d1, d2⟩
      exact ⟨rfl, ⟨g1, g2, _, _, rfl, d1, hL.first (by omega) _⟩, d2⟩
  · have hp : putOk n L i a = false := by simpa using hp
    rw [hp, if_neg (by simp)]
    refine (in_n i a hR hp).mono ?_
    rintro e w' ⟨rfl, rfl⟩
    exact ⟨rfl, hR, Ch.refl _ _⟩
end Wd
end Go.Proofs.Ytjobeomadkaeoaa
