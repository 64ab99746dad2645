/- What the laws ask of a meter: CostSmall. -/
import Derived.Test.YtafogggfiopcgaaCBits
import Derived.Deep.RegionHeld3
namespace Go.Proofs.Ytafogggfiopcgaa
open Go.RowKit
set_option linter.unusedVariables false
namespace Wd
theorem box_all {w : World} {B : Nat} {a b c d e p : Int} (h : Box6 w B a b c d e p) : w.cell? ⟨B, 0, none⟩ = some (.int .i64 a) ∧ w.cell? ⟨B, 1, none⟩ = some (.int .i64 b) ∧ w.cell? ⟨B, 2, none⟩ = some (.int .i64 c) ∧ w.cell? ⟨B, 3, none⟩ = some (.int .i64 d) ∧ w.cell? ⟨B, 4, none⟩ = some (.int .i64 e) ∧ w.cell? ⟨B, 5, none⟩ = some (.int .i64 p) := ⟨h.c0, h.c1, h.c2, h.c3, h.c4, h.c5⟩
set_option maxHeartbeats 16000000 in
set_option maxRecDepth 20000 in
theorem small_any {CA : CAt} (K : CostK CA) (n : Int) (n0 : -9223372036854775808 ≤ n) (n1 : n ≤ 9223372036854775807) (q : Int) (q0 : -9223372036854775808 ≤ q) (q1 : q ≤ 9223372036854775807) (w : World) :
    Calls Try.prog 7 #[.int .i64 n, .int .i64 q] w fun e w' => e = .returned (.bool true) ∧ Below w.heap.size w w' := by
  obtain ⟨x, hx, x0, x1⟩ := msk (i64_and255 n) (by omega)
  obtain ⟨y, hy, y0, y1⟩ := msk (i64_and127 n) (by omega)
  obtain ⟨z, hz, z0, z1⟩ := msk (i64_and15 q) (by omega)
  have g1 : IntKind.i64.wrap (1 + x) = 1 + x := by rw [IntKind.wrap_i64]; omega
  have g2 : IntKind.i64.wrap (1 + z) = 1 + z := by rw [IntKind.wrap_i64]; omega
  have g3 : IntKind.i64.wrap (1 + z + 4) = 1 + z + 4 := by rw [IntKind.wrap_i64]; omega
  have g4 : IntKind.i64.wrap (128 * (1 + z + 4)) = 128 * (1 + z + 4) := by rw [IntKind.wrap_i64]; omega
  have hr : rt (1 + x) y 0 0 0 (1 + z) = 0 := (rt_zero _ _ _ _ _ _).2 ⟨⟨by omega, by omega, by omega, by omega, by omega, by omega, by omega, by omega, by omega, by omega, by omega, by omega⟩, by omega, by omega⟩
  have BD : Hid (∀ (k v : Int), InI k → (if k = 0 then (64 : Int) else if k = 1 then 64 + 128 * ((1 + z) + 2) + 128 else if k = 2 then 112 else if k = 3 then 80 else 0) = v → ∀ wX, Calls Try.prog 11 #[.agg #[.int .i64 (1 + x), .int .i64 y, .int .i64 0, .int .i64 0, .int .i64 0, .int .i64 (1 + z)], .int .i64 k] wX fun r w' => r = .returned (.int .i64 v) ∧ Below wX.heap.size wX w') :=
    Lib.hid (fun k v hk hv wX => by
      have := K.bound (w := wX) (1 + x) y 0 0 0 (1 + z) k ⟨by omega, by omega⟩ ⟨by omega, by omega⟩ ⟨by omega, by omega⟩ ⟨by omega, by omega⟩ ⟨by omega, by omega⟩ ⟨by omega, by omega⟩ hk
      rw [bnd_ok hr, hv] at this
      exact this)
  have V0 := Lib.hid (BD.out 0 64 (inI_lit _ (by decide)) (by rfl))
  obtain ⟨v1, hv1⟩ : ∃ v1 : Int, v1 = 64 + 128 * ((1 + z) + 2) + 128 := ⟨_, rfl⟩
  have V1 := Lib.hid (BD.out 1 v1 (inI_lit _ (by decide)) (by rw [hv1]; rfl))
  have V2 := Lib.hid (BD.out 2 112 (inI_lit _ (by decide)) (by rfl))
  have V3 := Lib.hid (BD.out 3 80 (inI_lit _ (by decide)) (by rfl))
  have Vn := Lib.hid (BD.out (-1) 0 (inI_lit _ (by decide)) (by rfl))
  have e1 : decide (v1 > 64) = true := by simp; omega
  have e2 : decide (64 < v1) = true := by simp; omega
  have e3 : decide (v1 ≤ 128 * (1 + z + 4)) = true := by simp; omega
  have hB := Lib.hid (Box6.made w (1 + x) y 0 0 0 (1 + z) 25)
  have hbel : Hid (Below w.heap.size w (w.alloc (.cells #[.int .i64 (1 + x), .int .i64 y, .int .i64 0, .int .i64 0, .int .i64 0, .int .i64 (1 + z)] 25))) := Lib.hid ((Below.refl _ _).alloc (Nat.le_refl _) _)
  clear hv1 hr BD
  go_enter Try.func7, Try.ntmps7
  go_wp2
  generalize w.alloc (.cells #[.int .i64 (1 + x), .int .i64 y, .int .i64 0, .int .i64 0, .int .i64 0, .int .i64 (1 + z)] 25) = wB at *
  have hBd : Hid (Box6 wB.drew w.heap.size (1 + x) y 0 0 0 (1 + z)) := Lib.hid (hB.out.keep (Below.refl wB.heap.size wB).drew)
  have hbd : Hid (Below w.heap.size w wB.drew) := Lib.hid hbel.out.drew
  go_region_held3 (fun w' => w'.cell? ⟨w.heap.size, 0, none⟩ = some (.int .i64 (1 + x)) ∧ w'.cell? ⟨w.heap.size, 1, none⟩ = some (.int .i64 y) ∧ w'.cell? ⟨w.heap.size, 2, none⟩ = some (.int .i64 0) ∧ w'.cell? ⟨w.heap.size, 3, none⟩ = some (.int .i64 0) ∧ w'.cell? ⟨w.heap.size, 4, none⟩ = some (.int .i64 0) ∧ w'.cell? ⟨w.heap.size, 5, none⟩ = some (.int .i64 (1 + z))) (first | assumption | exact box_all hBd.out | exact box_all (hBd.out.keep h1) | exact box_all ((hBd.out.keep h1).keep h2)) (first
    | (go_at_call 11; ((with_reducible first | (refine (V0.out _).mono ?_; rintro e wC ⟨rfl, h1⟩) | (refine (V1.out _).mono ?_; rintro e wD ⟨rfl, h2⟩)))))
  have bx := Lib.hid ((hBd.out.keep h1).keep h2)
  have bl1 := hbd.out.trans (h1.mono hbd.out.size)
  have bl := Lib.hid (bl1.trans (h2.mono bl1.size))
  clear hBd hbd h1 h2 bl1 hB hbel
  obtain ⟨s0, s1, s2, s3, s4, s5⟩ := bx.out
  go_wp2_with fail
  clear s0 s1 s2 s3 s4 s5
  refine (V2.out _).mono ?_
  rintro e w5 ⟨rfl, h1⟩
  have bx2 := Lib.hid (bx.out.keep h1)
  have bl2 := Lib.hid (bl.out.trans (h1.mono bl.out.size))
  clear bx bl h1
  have bx := bx2
  have bl := bl2
  clear bx2 bl2
  obtain ⟨s0, s1, s2, s3, s4, s5⟩ := bx.out
  go_wp2_with fail
  clear s0 s1 s2 s3 s4 s5
  refine (V3.out _).mono ?_
  rintro e w6 ⟨rfl, h1⟩
  have bx2 := Lib.hid (bx.out.keep h1)
  have bl2 := Lib.hid (bl.out.trans (h1.mono bl.out.size))
  clear bx bl h1
  have bx := bx2
  have bl := bl2
  clear bx2 bl2
  obtain ⟨s0, s1, s2, s3, s4, s5⟩ := bx.out
  go_wp2_with fail
  clear s0 s1 s2 s3 s4 s5
  refine (Vn.out _).mono ?_
  rintro e w7 ⟨rfl, h1⟩
  have bx2 := Lib.hid (bx.out.keep h1)
  have bl2 := Lib.hid (bl.out.trans (h1.mono bl.out.size))
  clear bx bl h1
  have bx := bx2
  have bl := bl2
  clear bx2 bl2
  obtain ⟨s0, s1, s2, s3, s4, s5⟩ := bx.out
  go_wp2_with fail
  clear s0 s1 s2 s3 s4 s5
  refine (known_any K _).mono ?_
  rintro e w8 ⟨rfl, hbk⟩
  have hbl := Lib.hid (bl.out.trans (hbk.mono bl.out.size))
  clear bl bx hbk
  go_wp2
  go_ret
  exact ⟨rfl, hbl.out⟩
end Wd
end Go.Proofs.Ytafogggfiopcgaa
