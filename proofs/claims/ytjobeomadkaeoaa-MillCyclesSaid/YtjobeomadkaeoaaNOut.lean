/- The ring of the package: one is taken out. -/
import Derived.Test.YtjobeomadkaeoaaNRun
import Derived.StillTailTactics
import Derived.BigRegion
namespace Go.Proofs.Ytjobeomadkaeoaa
open Go.RowKit
set_option linter.unusedVariables false
namespace Wd
set_option maxHeartbeats 4000000 in
theorem out_y {w : World} {p n g1 g2 k a b : Nat} {L : List Int} {f h : Nat → Int} (hB : RB w p g1 g2 n f h (L.length : Int)) (hL : RL n L f h) (hk : (k : Int) ∈ L) (hn : k < n) (ea : prv L k = a) (eb : nxt L k = b) (ha : a < n) (hb : b < n) :
    Calls Try.prog 33 #[.pointer (some ⟨p, 0, none⟩), .int .i64 (k : Int)] w fun e w' => e = .returned (.bool true) ∧ RB w' p g1 g2 n (upd (upd f a b) k (-1)) (upd (upd h b a) k (-1)) (L.length - 1 : Int) ∧ Ch (FF p g1 g2) w w' := by
  have hf : f k = b := (hL.ef k hn).trans eb
  have hh : h k = a := (hL.eh k hn).trans ea
  have hne : ((b : Int) == -1) = false := by simp
  have c0 := hB.c0
  have c1 := hB.c1
  have c3 := hB.f1 k hn
  have c4 := hB.f2 k hn
  rw [hf] at c3
  rw [hh] at c4
  have hlen : (L.length : Int) ≤ n := by have := hL.len; omega
  have hlen' : (n : Int) ≤ 4096 := by have := hL.n2; omega
  have hw : IntKind.i64.wrap ((L.length : Int) - 1) = (L.length : Int) - 1 := by rw [IntKind.wrap_i64]; omega
  generalize (L.length : Int) = m at *
  replace hB := Lib.hid hB
  clear hL ea eb hf hh hk hlen hlen'
  go_enter Try.func33, Try.ntmps33
  go_wp2_with (first | (go_at_call 36; ((with_reducible refine (has_y hB.out hn).mono ?_); rintro e w' ⟨rfl, rfl⟩)))
  go_still_tail 15, (by kernel_rfl)
  change wpList _ _ _ _ _ (World.drew _)
  go_wp2_with (first | (go_at_call 32; ((with_reducible refine (link_c a b p g1 g2 n f h m _ hB.out.drew ha hb).mono ?_); rintro e w1 ⟨rfl, hB1, hC1⟩)))
  clear c0 c1 c3 c4 hne
  have c0 := hB1.c0
  have c1 := hB1.c1
  have c2 := hB1.c2
  have z0 := hB1.z0
  obtain ⟨u3, c3⟩ : ∃ u, w1.cell? ⟨g1, k, none⟩ = some u := ⟨_, hB1.f1 k hn⟩
  obtain ⟨u4, c4⟩ : ∃ u, w1.cell? ⟨g2, k, none⟩ = some u := ⟨_, hB1.f2 k hn⟩
  have z3 := hB1.z1 k
  have z4 := hB1.z2 k
  have e1 := hB1.e1
  have e2 := hB1.e2
  have e3 := hB1.e3
  have x1 := Ne.symm e1
  have x2 := Ne.symm e2
  have x3 := Ne.symm e3
  replace hB1 := Lib.hid hB1
  replace hC1 := Lib.hid hC1
  go_region
  go_wp2
  go_ret
  exact ⟨rfl, ((hB1.out.drew.set1 hn (-1)).set2 hn (-1)).set3 (m - 1), ((((Ch.refl _ _).drew.trans hC1.out).drew.set _ (Or.inr (Or.inl rfl)) _).set _ (Or.inr (Or.inr rfl)) _).set _ (Or.inl rfl) _⟩
theorem out_n1 {w : World} {p n : Nat} {L : List Int} {F : Nat → Prop} (i : Int) (hR : RA w p n L F) (hi : i ∉ L) :
    Calls Try.prog 33 #[.pointer (some ⟨p, 0, none⟩), .int .i64 i] w fun e w' => e = .returned (.bool false) ∧ w' = w := by
  obtain ⟨g1, g2, f, h, rfl, hB, hL⟩ := hR
  by_cases hr : 0 ≤ i ∧ i < n
  · obtain ⟨k, rfl⟩ : ∃ k : Nat, i = k := ⟨i.toNat, by omega⟩
    have hk : k < n := by omega
    have hf : f k = -1 := (hL.in_iff hk).2 hi
    have c0 := hB.c0
    have c1 := hB.f1 k hk
    rw [hf] at c1
    replace hB := Lib.hid hB
    clear hr hf hL
    go_enter Try.func33, Try.ntmps33
    go_wp2_with (first | (go_at_call 36; ((with_reducible refine (has_y hB.out hk).mono ?_); rintro e w' ⟨rfl, rfl⟩)))
    go_ret
    exact ⟨rfl, rfl⟩
  · replace hB := Lib.hid hB
    go_enter Try.func33, Try.ntmps33
    go_wp2_with (first | (go_at_call 36; ((with_reducible refine (has_n hB.out hr).mono ?_); rintro e w' ⟨rfl, rfl⟩)))
    go_ret
    exact ⟨rfl, rfl⟩
theorem out_k {w : World} {p n : Nat} {L : List Int} {F : Nat → Prop} (i : Int) (hR : RA w p n L F) :
    Calls Try.prog 33 #[.pointer (some ⟨p, 0, none⟩), .int .i64 i] w fun e w' => e = .returned (.bool (decide (i ∈ L))) ∧ RA w' p n (outL L i) F ∧ Ch F w w' := by
  by_cases hi : i ∈ L
  · obtain ⟨g1, g2, f, h, rfl, hB, hL⟩ := hR
    obtain ⟨k, rfl, hk⟩ := hL.mem hi
    obtain ⟨a, ea, ha, _⟩ := hL.prv_bd hi
    obtain ⟨b, eb, hb, _⟩ := hL.nxt_bd hi
    refine (out_y hB hL hi hk ea eb ha hb).mono ?_
    rintro e w' ⟨rfl, h1, h2⟩
    refine ⟨by rw [decide_eq_true hi], ⟨g1, g2, _, _, rfl, ?_, hL.out hi ea eb⟩, h2⟩
    have := len_outL hL.nd hi
    rw [show ((outL L (k : Int)).length : Int) = (L.length : Int) - 1 by omega]
    exact h1
  · refine (out_n1 i hR hi).mono ?_
    rintro e w' ⟨rfl, rfl⟩
    exact ⟨by rw [decide_eq_false hi], by rw [show outL L i = L by simp [outL, hi]]; exact hR, Ch.refl _ _⟩
end Wd
end Go.Proofs.Ytjobeomadkaeoaa
