/- CacheNumbers, over what the laws ask of the package. -/
import Derived.Test.YtpilbpofikdkmaaYRow
namespace Go.Proofs.Ytpilbpofikdkmaa
open Go.RowKit
set_option linter.unusedVariables false
set_option maxRecDepth 20000
namespace Wd
/-- a row of asks of the call's own -/
structure OneR (w0 wr : World) (a : Option Addr) (i c : Nat) (T : List Ask4) : Prop where
  o1 : wr.ownsRow w0.heap.size 24 4 (.slice a i c) i (ak4 T)
  l1 : i = T.length
  b1 : Ok4 T
  bel : Below w0.heap.size w0 wr
theorem OneR.start {w0 wr : World} (h : Below w0.heap.size w0 wr) : OneR w0 wr none 0 0 [] := ⟨World.ownsRow_nil _ _ _ _, rfl, Ok4.nil, h⟩
theorem OneR.app {w0 wr w1 : World} {a : Option Addr} {i c : Nat} {T : List Ask4} (h : OneR w0 wr a i c T) {x : Ask4} (hx : I64 x.1 ∧ I64 x.2.1 ∧ I64 x.2.2.1 ∧ I64 x.2.2.2) {o : Obj} {g cap : Nat}
    (hown : w1.ownsRow w0.heap.size 24 4 (.slice (some ⟨g, 0, none⟩) (i + 1) cap) (i + 1) (ak4 T ++ ak4 [x])) (hg : (wr.alloc o).grownBy w1 (Value.slice a i c).ownBlock) :
    OneR w0 w1 (some ⟨g, 0, none⟩) (i + 1) cap (T ++ [x]) := by
  obtain ⟨x1, x2, x3, x4⟩ := x
  exact ⟨by rw [ak4_app]; exact hown, by simp [h.l1], h.b1.add hx.1 hx.2.1 hx.2.2.1 hx.2.2.2, (h.bel.alloc h.bel.size _).grown hg (by have := h.bel.size; simp; omega) (fun k hk => (h.o1.lt k hk).1)⟩
theorem AskV.fewer {w : World} {a : Option Addr} {n m : Nat} (h : AskV w a n) (hm : m ≤ n) : AskV w a m := fun k hk => h k (by omega)
theorem mod_nat (a q : Nat) : Int.tmod (a : Int) (q : Int) = ((a % q : Nat) : Int) := (Int.ofNat_tmod a q).symm
theorem ask5 (w : World) (g : Nat) (hg : g = w.heap.size) : AskV (w.alloc (.cells #[.int .i64 0, .int .i64 9223372036854775807, .int .i64 9223372036854775807, .int .i64 4, .int .i64 1, .int .i64 9223372036854775807, .int .i64 9223372036854775807, .int .i64 0, .int .i64 0, .int .i64 (-9223372036854775808), .int .i64 (-9223372036854775808), .int .i64 0, .int .i64 1, .int .i64 0, .int .i64 0, .int .i64 0, .int .i64 1, .int .i64 (-9223372036854775808), .int .i64 (-9223372036854775808), .int .i64 0] 24)) (some ⟨g, 0, none⟩) 5 := by
  subst hg
  intro k hk
  rcases (show k = 0 ∨ k = 1 ∨ k = 2 ∨ k = 3 ∨ k = 4 by omega) with rfl | rfl | rfl | rfl | rfl
  · exact ⟨_, 0, 0, 9223372036854775807, 9223372036854775807, 4, rfl, ⟨by decide, by decide⟩, ⟨by decide, by decide⟩, ⟨by decide, by decide⟩, ⟨by decide, by decide⟩, by simp, by simp, by simp, by simp⟩
  · exact ⟨_, 0, 1, 9223372036854775807, 9223372036854775807, 0, rfl, ⟨by decide, by decide⟩, ⟨by decide, by decide⟩, ⟨by decide, by decide⟩, ⟨by decide, by decide⟩, by simp, by simp, by simp, by simp⟩
  · exact ⟨_, 0, 0, (-9223372036854775808), (-9223372036854775808), 0, rfl, ⟨by decide, by decide⟩, ⟨by decide, by decide⟩, ⟨by decide, by decide⟩, ⟨by decide, by decide⟩, by simp, by simp, by simp, by simp⟩
  · exact ⟨_, 0, 1, 0, 0, 0, rfl, ⟨by decide, by decide⟩, ⟨by decide, by decide⟩, ⟨by decide, by decide⟩, ⟨by decide, by decide⟩, by simp, by simp, by simp, by simp⟩
  · exact ⟨_, 0, 1, (-9223372036854775808), (-9223372036854775808), 0, rfl, ⟨by decide, by decide⟩, ⟨by decide, by decide⟩, ⟨by decide, by decide⟩, ⟨by decide, by decide⟩, by simp, by simp, by simp, by simp⟩
set_option maxHeartbeats 16000000 in
theorem numbers_any {CA : CAt} (K : CacK CA) (w : World) :
    Calls Try.prog 3 #[] w fun e w' => e = .returned (.bool true) ∧ Below w.heap.size w w' := by
  obtain ⟨i0, hi0, hz0, hz1, hz2⟩ := info_parts infoAsk
  have hmx : 100000 ≤ maxLen := by decide
  have hB0 := Lib.hid (Below.refl w.heap.size w)
  go_enter Try.func3, Try.ntmps3
  go_wp2
  go_loopw [1] (fun i1 wr => ∃ k : Nat, k ≤ 40 ∧ i1 = .int .i64 k ∧ Hid (Below w.heap.size w wr)) (fun i1 _ => 40 - (intOf i1).toNat)
  case atStart => exact ⟨0, by omega, rfl, hB0⟩
  case round =>
    clear hB0
    obtain ⟨k, hk, rfl, hB⟩ := hrel
    by_cases hlt : k < 40
    · have d1 : decide ((k : Int) < 40) = true := by simp; omega
      have hst := Lib.hid (OneR.start hB.out)
      go_wp2
      go_loopw [2, 3] (fun i2 i3 wr => ∃ (i : Nat) (a : Option Addr) (c : Nat) (T : List Ask4), i ≤ 120 ∧ i3 = .int .i64 i ∧ i2 = .slice a (2 * i) c ∧ Hid (OneR w wr a (2 * i) c T)) (fun _ i3 _ => 120 - (intOf i3).toNat)
      case atStart => exact ⟨0, none, 0, [], by omega, rfl, rfl, hst⟩
      case round =>
        clear hst hB
        obtain ⟨i, a, c, T, hi, rfl, rfl, hR⟩ := hrel
        by_cases hit : i < 120
        · have e1 : decide ((i : Int) < 120) = true := by simp; omega
          have hs1 : i * i ≤ 120 * 120 := Nat.mul_le_mul (by omega) (by omega)
          have hs2 : k * i ≤ 40 * 120 := Nat.mul_le_mul (by omega) (by omega)
          have q1 : (i : Int) * (i : Int) = ((i * i : Nat) : Int) := by push_cast; rfl
          have q2 : (k : Int) * (i : Int) = ((k * i : Nat) : Int) := by push_cast; rfl
          have q3 : (i : Int) * (k : Int) = ((k * i : Nat) : Int) := by rw [Int.mul_comm]; push_cast; rfl
          generalize i * i = s1 at *
          generalize k * i = s2 at *
          obtain ⟨r1, h1, hr1⟩ : ∃ r : Nat, Int.tmod ((s1 : Int) + (s2 : Int)) 4 = (r : Int) ∧ r < 4 := ⟨(s1 + s2) % 4, by have := mod_nat (s1 + s2) 4; push_cast at this ⊢; exact this, by omega⟩
          obtain ⟨r2, h2, hr2⟩ : ∃ r : Nat, Int.tmod (i : Int) 5 = (r : Int) ∧ r < 5 := ⟨i % 5, by exact mod_nat i 5, by omega⟩
          obtain ⟨r3, h3, hr3⟩ : ∃ r : Nat, bits .and .i64 (r2 : Int) 1 = (r : Int) ∧ r < 2 := ⟨r2 % 2, by rw [i64_and1]; omega, by omega⟩
          have hs4 : r1 * r3 ≤ 4 * 2 := Nat.mul_le_mul (by omega) (by omega)
          have q4 : (r1 : Int) * (r3 : Int) = ((r1 * r3 : Nat) : Int) := by push_cast; rfl
          generalize r1 * r3 = r4 at *
          obtain ⟨r5, h5, hr5⟩ : ∃ r : Nat, Int.tmod (s2 : Int) 14 = (r : Int) ∧ r < 14 := ⟨s2 % 14, by exact mod_nat s2 14, by omega⟩
          obtain ⟨r6, h6, hr6⟩ : ∃ r : Nat, Int.tmod ((i : Int) + (k : Int)) 50 = (r : Int) ∧ r < 50 := ⟨(i + k) % 50, by have := mod_nat (i + k) 50; push_cast at this ⊢; exact this, by omega⟩
          have hx1 : Hid (I64 (r4 : Int) ∧ I64 ((r5 : Int) - 2) ∧ I64 ((r6 : Int) - 3) ∧ I64 (i : Int)) := Lib.hid ⟨⟨by omega, by omega⟩, ⟨by omega, by omega⟩, ⟨by omega, by omega⟩, ⟨by omega, by omega⟩⟩
          have hx2 : Hid (I64 (1 : Int) ∧ I64 (r5 : Int) ∧ I64 (r6 : Int) ∧ I64 (0 : Int)) := Lib.hid ⟨⟨by omega, by omega⟩, ⟨by omega, by omega⟩, ⟨by omega, by omega⟩, ⟨by omega, by omega⟩⟩
          go_wp2_with (first | (at_builtin; refine wpList_append_lies _ rfl (.tmp 12) (.tmp 37) 22 rfl w.heap.size 24 i0 (.agg #[.int .i64 0, .int .i64 0, .int .i64 0, .int .i64 0]) 4 32 Try.underlying22 hi0 hz0 hz1 hz2 rfl (by decide) _ (2 * i) _ (by simp [Act.eval]) (hR.out.o1.alloc _) ⟨wr.heap.size, 0, none⟩ 1 1 (ak4 [((r4 : Int), (r5 : Int) - 2, (r6 : Int) - 3, (i : Int))]) (by simp [Act.eval]) (by simp [ak4]) (rd_ask wr _ _ _ _ _ rfl) (ak4_one _) (by omega) (by omega) (by omega) (by have := hR.out.bel.size; simp; omega) _ rfl ?_; intro g1 cap1 w1 hown hgrow hat hlt; have hR1 := Lib.hid (hR.out.app (x := ((r4 : Int), (r5 : Int) - 2, (r6 : Int) - 3, (i : Int))) hx1.out hown hgrow); clear hown hgrow hat hlt) | (at_builtin; refine wpList_append_lies _ rfl (.tmp 39) (.tmp 49) 22 rfl w.heap.size 24 i0 (.agg #[.int .i64 0, .int .i64 0, .int .i64 0, .int .i64 0]) 4 32 Try.underlying22 hi0 hz0 hz1 hz2 rfl (by decide) _ (2 * i + 1) _ (by simp [Act.eval]) (hR1.out.o1.alloc _) ⟨w1.heap.size, 0, none⟩ 1 1 (ak4 [(1, (r5 : Int), (r6 : Int), 0)]) (by simp [Act.eval]) (by simp [ak4]) (rd_ask w1 _ _ _ _ _ rfl) (ak4_one _) (by omega) (by omega) (by omega) (by have := hR1.out.bel.size; simp; omega) _ rfl ?_; intro g2 cap2 w2 hown hgrow hat hlt; have hR2 := Lib.hid (hR1.out.app (x := (1, (r5 : Int), (r6 : Int), 0)) hx2.out hown hgrow); clear hown hgrow hat hlt))
          go_roundw
          case rel => exact ⟨i + 1, _, _, _, by omega, by go_num, rfl, hR2⟩
          case measure => simp [intOf]; omega
        · have e1 : decide ((i : Int) < 120) = false := by simp; omega
          have hi120 : i = 120 := by omega
          subst hi120
          have hlc : 240 ≤ c := by
            rcases hR.out.o1.2 with ⟨e, e0⟩ | ⟨g, cap, cur, e, _, _, h3, _⟩
            · omega
            · cases e; omega
          have u1 : (150 : Int) ≤ (c : Int) := by omega
          have hAs : Hid (AskV wr a 150) := Lib.hid ((AskV.own hR.out.o1 hR.out.l1 hR.out.b1).fewer (by omega))
          have hB := Lib.hid hR.out.bel
          clear hR
          go_wp2_with fail
          refine (play_any K hAs.out (by omega)).mono ?_
          rintro e y7 ⟨rfl, hb⟩
          replace hB := Lib.hid (hB.out.trans (hb.mono hB.out.size))
          clear hb
          go_wp2_with fail
          go_roundw
          case rel => exact ⟨k + 1, by omega, by go_num, hB⟩
          case measure => simp [intOf]; omega
    · have d1 : decide ((k : Int) < 40) = false := by simp; omega
      go_wp2_with fail
      refine (play_any K (ask5 _ _ rfl) (by omega)).mono ?_
      rintro e y7 ⟨rfl, hb⟩
      replace hB := Lib.hid (hB.out.trans (((Below.refl _ _).alloc (Nat.le_refl _) _ |>.trans (hb.mono (by simp))).mono hB.out.size))
      clear hb
      go_wp2_with fail
      refine (known_c K _).mono ?_
      rintro e z9 ⟨rfl, hb⟩
      replace hB := Lib.hid (hB.out.trans (hb.mono hB.out.size))
      clear hb
      go_wp2
      go_ret
      exact ⟨rfl, hB.out⟩
end Wd
end Go.Proofs.Ytpilbpofikdkmaa
