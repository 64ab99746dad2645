/- What the laws ask of a meter: CostTells. -/
import Derived.Test.YtafogggfiopcgaaCSmall
namespace Go.Proofs.Ytafogggfiopcgaa
open Go.RowKit
set_option linter.unusedVariables false
namespace Wd
/-- five numbers in memory of the call's own -/
structure Arr5 (w : World) (B : Nat) (a b c d e : Int) : Prop where
  c0 : w.cell? ⟨B, 0, none⟩ = some (.int .i64 a)
  c1 : w.cell? ⟨B, 1, none⟩ = some (.int .i64 b)
  c2 : w.cell? ⟨B, 2, none⟩ = some (.int .i64 c)
  c3 : w.cell? ⟨B, 3, none⟩ = some (.int .i64 d)
  c4 : w.cell? ⟨B, 4, none⟩ = some (.int .i64 e)
theorem Arr5.keep {w w1 : World} {B : Nat} {a b c d e : Int} (h : Arr5 w B a b c d e) (g : Below w.heap.size w w1) : Arr5 w1 B a b c d e := by
  have k : ∀ {x : Addr} {v : Value}, w.cell? x = some v → w1.cell? x = some v := fun hc => (g.cell (World.block_lt_of_cell? w _ hc)).trans hc
  exact ⟨k h.c0, k h.c1, k h.c2, k h.c3, k h.c4⟩
theorem Arr5.made (w : World) (a b c d e : Int) (t : TypeId) : Arr5 (w.alloc (.cells #[.int .i64 a, .int .i64 b, .int .i64 c, .int .i64 d, .int .i64 e] t)) w.heap.size a b c d e := ⟨by simp, by simp, by simp, by simp, by simp⟩
set_option maxHeartbeats 16000000 in
set_option maxRecDepth 20000 in
theorem tells_any {CA : CAt} (K : CostK CA) (ad : Option Addr) (len cap : Nat) (w : World) (HA : Nums w ad len) (hlen : len ≤ maxLen) (a b c d e : Int) (ha : InI a) (hb : InI b) (hc : InI c) (hd : InI d) (he : InI e) (p : Int) (p0 : -9223372036854775808 ≤ p) (p1 : p ≤ 9223372036854775807) (k : Int) (k0 : -9223372036854775808 ≤ k) (k1 : k ≤ 9223372036854775807) :
    Calls Try.prog 4 #[.slice ad len cap, .agg #[.int .i64 a, .int .i64 b, .int .i64 c, .int .i64 d, .int .i64 e], .int .i64 p, .int .i64 k] w fun e w' => e = .returned (.bool true) ∧ Below w.heap.size w w' := by
  obtain ⟨xa, hxa, xa0, xa1⟩ := msk (i64_and127 a) (by omega)
  obtain ⟨xb, hxb, xb0, xb1⟩ := msk (i64_and127 b) (by omega)
  obtain ⟨xc, hxc, xc0, xc1⟩ := msk (i64_and127 c) (by omega)
  obtain ⟨xd, hxd, xd0, xd1⟩ := msk (i64_and127 d) (by omega)
  obtain ⟨xe, hxe, xe0, xe1⟩ := msk (i64_and127 e) (by omega)
  obtain ⟨q1, hq1, q10, q11⟩ := msk (i64_and31 p) (by omega)
  obtain ⟨q2, hq2, q20, q21⟩ := msk (i64_and15 p) (by omega)
  obtain ⟨m1, hm1, m10, m11⟩ := msk (i64_and7 k) (by omega)
  obtain ⟨m2, hm2, m20, m21⟩ := msk (i64_and3 k) (by omega)
  have g2 : IntKind.i64.wrap (1 + q2) = 1 + q2 := by rw [IntKind.wrap_i64]; omega
  have T1 : Hid (∀ wX, Calls Try.prog 8 #[.agg #[.int .i64 a, .int .i64 b, .int .i64 c, .int .i64 d, .int .i64 e, .int .i64 p], .int .i64 k] wX fun r w' => r = .returned (.bool true) ∧ Below wX.heap.size wX w') :=
    Lib.hid (fun wX => bounds_c K a b c d e p k ha hb hc hd he ⟨p0, p1⟩ ⟨k0, k1⟩ wX)
  have T2 : Hid (∀ wX, Calls Try.prog 8 #[.agg #[.int .i64 xa, .int .i64 xb, .int .i64 xc, .int .i64 xd, .int .i64 xe, .int .i64 q1], .int .i64 m1] wX fun r w' => r = .returned (.bool true) ∧ Below wX.heap.size wX w') :=
    Lib.hid (fun wX => bounds_c K xa xb xc xd xe q1 m1 ⟨by omega, by omega⟩ ⟨by omega, by omega⟩ ⟨by omega, by omega⟩ ⟨by omega, by omega⟩ ⟨by omega, by omega⟩ ⟨by omega, by omega⟩ ⟨by omega, by omega⟩ wX)
  have T3 : Hid (∀ wX, Calls Try.prog 8 #[.agg #[.int .i64 xa, .int .i64 xb, .int .i64 xc, .int .i64 xd, .int .i64 xe, .int .i64 (1 + q2)], .int .i64 m2] wX fun r w' => r = .returned (.bool true) ∧ Below wX.heap.size wX w') :=
    Lib.hid (fun wX => bounds_c K xa xb xc xd xe (1 + q2) m2 ⟨by omega, by omega⟩ ⟨by omega, by omega⟩ ⟨by omega, by omega⟩ ⟨by omega, by omega⟩ ⟨by omega, by omega⟩ ⟨by omega, by omega⟩ ⟨by omega, by omega⟩ wX)
  clear ha hb hc hd he
  replace HA := Lib.hid HA
  have A5 := (Arr5.made w a b c d e 23).keep ((Below.refl (w.alloc (.cells #[.int .i64 a, .int .i64 b, .int .i64 c, .int .i64 d, .int .i64 e] 23)).heap.size _).alloc (Nat.le_refl _) (.cells #[.int .i64 xa, .int .i64 xb, .int .i64 xc, .int .i64 xd, .int .i64 xe] 23))
  have A9 := Arr5.made (w.alloc (.cells #[.int .i64 a, .int .i64 b, .int .i64 c, .int .i64 d, .int .i64 e] 23)) xa xb xc xd xe 23
  have bl0 : Below w.heap.size w (w.alloc (.cells #[.int .i64 a, .int .i64 b, .int .i64 c, .int .i64 d, .int .i64 e] 23)) := (Below.refl _ _).alloc (Nat.le_refl _) _
  have bl := bl0.alloc bl0.size (.cells #[.int .i64 xa, .int .i64 xb, .int .i64 xc, .int .i64 xd, .int .i64 xe] 23)
  have es : (w.alloc (.cells #[.int .i64 a, .int .i64 b, .int .i64 c, .int .i64 d, .int .i64 e] 23)).heap.size = w.heap.size + 1 := by simp
  rw [es] at A9
  clear bl0 es
  replace A5 := Lib.hid A5
  replace A9 := Lib.hid A9
  replace bl := Lib.hid bl
  go_enter Try.func4, Try.ntmps4
  go_wp2
  refine wp_loop_rounds 6 ?_
  rw [rounds_succ]
  go_wp2
  rw [rounds_succ]
  go_wp2
  rw [rounds_succ]
  go_wp2
  rw [rounds_succ]
  go_wp2
  rw [rounds_succ]
  go_wp2
  rw [rounds_succ]
  go_wp2_with fail
  generalize ((w.alloc (.cells #[.int .i64 a, .int .i64 b, .int .i64 c, .int .i64 d, .int .i64 e] 23)).alloc (.cells #[.int .i64 xa, .int .i64 xb, .int .i64 xc, .int .i64 xd, .int .i64 xe] 23)) = wB at *
  refine (play_any K ad len cap wB (fun wX hX => HA.out wX (bl.out.trans (hX.mono bl.out.size))) hlen).mono ?_
  rintro e w5 ⟨rfl, h1⟩
  have A5' := Lib.hid (A5.out.keep h1)
  have A9' := Lib.hid (A9.out.keep h1)
  have bl' := Lib.hid (bl.out.trans (h1.mono bl.out.size))
  clear A5 A9 bl h1
  have A5 := A5'
  have A9 := A9'
  have bl := bl'
  clear A5' A9' bl'
  obtain ⟨r0, r1, r2, r3, r4⟩ := A5.out
  obtain ⟨s0, s1, s2, s3, s4⟩ := A9.out
  go_wp2_with fail
  clear r0 r1 r2 r3 r4 s0 s1 s2 s3 s4
  refine (T1.out _).mono ?_
  rintro e w6 ⟨rfl, h1⟩
  have A5' := Lib.hid (A5.out.keep h1)
  have A9' := Lib.hid (A9.out.keep h1)
  have bl' := Lib.hid (bl.out.trans (h1.mono bl.out.size))
  clear A5 A9 bl h1
  have A5 := A5'
  have A9 := A9'
  have bl := bl'
  clear A5' A9' bl'
  obtain ⟨r0, r1, r2, r3, r4⟩ := A5.out
  obtain ⟨s0, s1, s2, s3, s4⟩ := A9.out
  go_wp2_with fail
  clear r0 r1 r2 r3 r4 s0 s1 s2 s3 s4
  refine (T2.out _).mono ?_
  rintro e w7 ⟨rfl, h1⟩
  have A5' := Lib.hid (A5.out.keep h1)
  have A9' := Lib.hid (A9.out.keep h1)
  have bl' := Lib.hid (bl.out.trans (h1.mono bl.out.size))
  clear A5 A9 bl h1
  have A5 := A5'
  have A9 := A9'
  have bl := bl'
  clear A5' A9' bl'
  obtain ⟨r0, r1, r2, r3, r4⟩ := A5.out
  obtain ⟨s0, s1, s2, s3, s4⟩ := A9.out
  go_wp2_with fail
  clear r0 r1 r2 r3 r4 s0 s1 s2 s3 s4
  refine (T3.out _).mono ?_
  rintro e w8 ⟨rfl, h1⟩
  have A5' := Lib.hid (A5.out.keep h1)
  have A9' := Lib.hid (A9.out.keep h1)
  have bl' := Lib.hid (bl.out.trans (h1.mono bl.out.size))
  clear A5 A9 bl h1
  have A5 := A5'
  have A9 := A9'
  have bl := bl'
  clear A5' A9' bl'
  obtain ⟨r0, r1, r2, r3, r4⟩ := A5.out
  obtain ⟨s0, s1, s2, s3, s4⟩ := A9.out
  go_wp2_with fail
  clear r0 r1 r2 r3 r4 s0 s1 s2 s3 s4
  refine (known_any K _).mono ?_
  rintro e w9 ⟨rfl, hbk⟩
  have hbl := Lib.hid (bl.out.trans (hbk.mono bl.out.size))
  clear bl A5 A9 hbk
  go_wp2
  go_ret
  exact ⟨rfl, hbl.out⟩
end Wd
end Go.Proofs.Ytafogggfiopcgaa
