/- What the laws ask of a meter: bounds. -/
import Derived.Test.YtafogggfiopcgaaCLaw
namespace Go.Proofs.Ytafogggfiopcgaa
open Go.RowKit
set_option linter.unusedVariables false
namespace Wd
theorem bnd_bad {a b c d e p k : Int} (h : rt a b c d e p ≠ 0) : bndR a b c d e p k = 0 := by unfold bndR; rw [if_neg h]
theorem bnd_ok {a b c d e p k : Int} (h : rt a b c d e p = 0) : bndR a b c d e p k = (if k = 0 then 64 else if k = 1 then 64 + 128 * (p + 2) + 128 else if k = 2 then 112 else if k = 3 then 80 else 0) := by unfold bndR; rw [if_pos h]
set_option maxHeartbeats 8000000 in
theorem bounds_c {CA : CAt} (K : CostK CA) (a b c d e p kind : Int) (ha : InI a) (hb : InI b) (hc : InI c) (hd : InI d) (he : InI e) (hp : InI p) (hk : InI kind) (w : World) :
    Calls Try.prog 8 #[.agg #[.int .i64 a, .int .i64 b, .int .i64 c, .int .i64 d, .int .i64 e, .int .i64 p], .int .i64 kind] w fun e w' => e = .returned (.bool true) ∧ Below w.heap.size w w' := by
  have P1 : Hid (∀ w, Calls Try.prog 17 #[.agg #[.int .i64 a, .int .i64 b, .int .i64 c, .int .i64 d, .int .i64 e, .int .i64 p]] w fun r w' => r = .returned (.int .i64 (rt a b c d e p)) ∧ w' = w.alloc (.cells #[.int .i64 a, .int .i64 b, .int .i64 c, .int .i64 d, .int .i64 e, .int .i64 p] 25)) :=
    Lib.hid (fun w => rconfig_c a b c d e p ha.1 ha.2 hb.1 hb.2 hc.1 hc.2 hd.1 hd.2 he.1 he.2 hp.1 hp.2 w)
  have P2 : Hid (∀ w, Calls Try.prog 11 #[.agg #[.int .i64 a, .int .i64 b, .int .i64 c, .int .i64 d, .int .i64 e, .int .i64 p], .int .i64 kind] w fun r w' => r = .returned (.int .i64 (bndR a b c d e p kind)) ∧ Below w.heap.size w w') :=
    Lib.hid (fun w => K.bound a b c d e p kind ha hb hc hd he hp hk)
  have B0 := Box6.made w a b c d e p 25
  have bel0 : Below w.heap.size w (w.alloc (.cells #[.int .i64 a, .int .i64 b, .int .i64 c, .int .i64 d, .int .i64 e, .int .i64 p] 25)) := (Below.refl _ _).alloc (Nat.le_refl _) _
  have B1 := B0.keep ((Below.refl (w.alloc (.cells #[.int .i64 a, .int .i64 b, .int .i64 c, .int .i64 d, .int .i64 e, .int .i64 p] 25)).heap.size _).alloc (Nat.le_refl _) (.cells #[.int .i64 a, .int .i64 b, .int .i64 c, .int .i64 d, .int .i64 e, .int .i64 p] 25))
  have bel1 := bel0.alloc bel0.size (.cells #[.int .i64 a, .int .i64 b, .int .i64 c, .int .i64 d, .int .i64 e, .int .i64 p] 25)
  replace B0 := Lib.hid B0
  replace B1 := Lib.hid B1
  replace bel0 := Lib.hid bel0
  replace bel1 := Lib.hid bel1
  clear ha hb hc hd he hk
  by_cases hr : rt a b c d e p = 0
  · have hpp := (rt_zero a b c d e p).1 hr
    obtain ⟨_, p0, p1⟩ := hpp
    rw [hr] at P1
    rw [bnd_ok hr] at P2
    by_cases k0 : kind = 0
    · subst k0
      rw [if_pos rfl] at P2
      go_enter Try.func8, Try.ntmps8
      go_wp2_with fail
      refine (P1.out _).mono ?_
      rintro e w1 ⟨rfl, hw1⟩
      rw [← hw1] at B1 bel1
      clear hw1
      obtain ⟨y0, y1, y2, y3, y4, y5⟩ := B1.out
      go_wp2_with fail
      refine (P2.out _).mono ?_
      rintro e w2 ⟨rfl, hb⟩
      have hbl := Lib.hid (bel1.out.trans (hb.mono bel1.out.size))
      clear hb bel1 B1 B0 y0 y1 y2 y3 y4 y5
      go_wp2
      go_ret
      exact ⟨rfl, hbl.out⟩
    · have n0 : (kind == 0) = false := by simpa using k0
      rw [if_neg k0] at P2
      by_cases k1 : kind = 1
      · subst k1
        rw [if_pos rfl] at P2
        have g1 : IntKind.i64.wrap (p + 2) = p + 2 := by rw [IntKind.wrap_i64]; omega
        have g2 : IntKind.i64.wrap (128 * (p + 2)) = 128 * (p + 2) := by rw [IntKind.wrap_i64]; omega
        have g3 : IntKind.i64.wrap (64 + 128 * (p + 2)) = 64 + 128 * (p + 2) := by rw [IntKind.wrap_i64]; omega
        have g4 : IntKind.i64.wrap (64 + 128 * (p + 2) + 128) = 64 + 128 * (p + 2) + 128 := by rw [IntKind.wrap_i64]; omega
        go_enter Try.func8, Try.ntmps8
        go_wp2_with fail
        refine (P1.out _).mono ?_
        rintro e w1 ⟨rfl, hw1⟩
        rw [← hw1] at B1 bel1
        clear hw1
        obtain ⟨y0, y1, y2, y3, y4, y5⟩ := B1.out
        go_wp2_with fail
        refine (P2.out _).mono ?_
        rintro e w2 ⟨rfl, hb⟩
        have hbl := Lib.hid (bel1.out.trans (hb.mono bel1.out.size))
        clear hb bel1 B1 B0 y0 y1 y2 y3 y4 y5
        go_wp2
        go_ret
        exact ⟨rfl, hbl.out⟩
      · have n1 : (kind == 1) = false := by simpa using k1
        rw [if_neg k1] at P2
        by_cases k2 : kind = 2
        · subst k2
          rw [if_pos rfl] at P2
          go_enter Try.func8, Try.ntmps8
          go_wp2_with fail
          refine (P1.out _).mono ?_
          rintro e w1 ⟨rfl, hw1⟩
          rw [← hw1] at B1 bel1
          clear hw1
          obtain ⟨y0, y1, y2, y3, y4, y5⟩ := B1.out
          go_wp2_with fail
          refine (P2.out _).mono ?_
          rintro e w2 ⟨rfl, hb⟩
          have hbl := Lib.hid (bel1.out.trans (hb.mono bel1.out.size))
          clear hb bel1 B1 B0 y0 y1 y2 y3 y4 y5
          go_wp2
          go_ret
          exact ⟨rfl, hbl.out⟩
        · have n2 : (kind == 2) = false := by simpa using k2
          rw [if_neg k2] at P2
          by_cases k3 : kind = 3
          · subst k3
            rw [if_pos rfl] at P2
            go_enter Try.func8, Try.ntmps8
            go_wp2_with fail
            refine (P1.out _).mono ?_
            rintro e w1 ⟨rfl, hw1⟩
            rw [← hw1] at B1 bel1
            clear hw1
            obtain ⟨y0, y1, y2, y3, y4, y5⟩ := B1.out
            go_wp2_with fail
            refine (P2.out _).mono ?_
            rintro e w2 ⟨rfl, hb⟩
            have hbl := Lib.hid (bel1.out.trans (hb.mono bel1.out.size))
            clear hb bel1 B1 B0 y0 y1 y2 y3 y4 y5
            go_wp2
            go_ret
            exact ⟨rfl, hbl.out⟩
          · have n3 : (kind == 3) = false := by simpa using k3
            rw [if_neg k3] at P2
            go_enter Try.func8, Try.ntmps8
            go_wp2_with fail
            refine (P1.out _).mono ?_
            rintro e w1 ⟨rfl, hw1⟩
            rw [← hw1] at B1 bel1
            clear hw1
            obtain ⟨y0, y1, y2, y3, y4, y5⟩ := B1.out
            go_wp2_with fail
            refine (P2.out _).mono ?_
            rintro e w2 ⟨rfl, hb⟩
            have hbl := Lib.hid (bel1.out.trans (hb.mono bel1.out.size))
            clear hb bel1 B1 B0 y0 y1 y2 y3 y4 y5
            go_wp2
            go_ret
            exact ⟨rfl, hbl.out⟩
  · have hr' : (rt a b c d e p == 0) = false := by simpa using hr
    rw [bnd_bad hr] at P2
    generalize rt a b c d e p = x at *
    go_enter Try.func8, Try.ntmps8
    go_wp2_with fail
    refine (P1.out _).mono ?_
    rintro e w1 ⟨rfl, hw1⟩
    rw [← hw1] at B1 bel1
    clear hw1
    obtain ⟨y0, y1, y2, y3, y4, y5⟩ := B1.out
    go_wp2_with fail
    refine (P2.out _).mono ?_
    rintro e w2 ⟨rfl, hb⟩
    have hbl := Lib.hid (bel1.out.trans (hb.mono bel1.out.size))
    clear hb bel1 B1 B0 y0 y1 y2 y3 y4 y5
    go_wp2
    go_ret
    exact ⟨rfl, hbl.out⟩
end Wd
end Go.Proofs.Ytafogggfiopcgaa
