/- TextNumbers. -/
import Derived.Test.YtkodnioheifalaaDoorJ18
/- TextNumbers. -/
namespace Go.Proofs.YtkodnioheifalaaDoor
open Go.RowKit
set_option linter.unusedVariables false
set_option maxRecDepth 20000
namespace Wd
def badS : List Bs := [[], [110, 111, 110, 115, 101, 110, 115, 101], [32, 32, 112, 111, 112], [32, 32, 112, 111, 112, 32, 50, 53, 54], [32, 32, 112, 111, 112, 32, 48, 53], [32, 112, 111, 112, 32, 48], [32, 32, 112, 117, 115, 104, 110, 117, 109, 32, 49, 50, 56], [32, 32, 111, 112, 51, 32, 49], [32, 32, 111, 112, 50, 53, 54, 32, 49], [108, 105, 116], [108, 105, 116, 32, 110, 117, 109], [108, 105, 116, 32, 110, 105, 108, 32, 48], [109, 101, 116, 104, 111, 100, 32, 49]]
def valS : List Bs := [[], [110, 117, 109], [110, 117, 109, 32], [110, 117, 109, 32, 48], [110, 117, 109, 32, 45, 48], [110, 117, 109, 32, 45, 49], [110, 117, 109, 32, 49, 48, 55, 51, 55, 52, 49, 56, 50, 51], [110, 117, 109, 32, 49, 48, 55, 51, 55, 52, 49, 56, 50, 52], [110, 117, 109, 32, 45, 49, 48, 55, 51, 55, 52, 49, 56, 50, 52], [110, 117, 109, 32, 45, 49, 48, 55, 51, 55, 52, 49, 56, 50, 53], [115, 101, 108, 32, 51, 32], [110, 105, 108, 32, 48], [114, 101, 102, 32, 52], [99, 108, 115, 32, 48, 48], [98, 108, 107, 32, 57, 57, 57, 57, 57, 57, 57, 57, 57, 57, 57, 57, 57, 57, 57, 57, 57, 57, 57, 57], [110, 117, 109, 32, 32, 53]]
theorem badS_ok : ∀ l ∈ badS, noL l = true ∧ 10 ∉ l := bads
theorem badS_len : ∀ l ∈ badS, l.length ≤ 100 := by decide
theorem valS_len : ∀ l ∈ valS, l.length ≤ 1000 := by decide
theorem valS_eq : ∀ l ∈ valS, lvalP l = valP l := by decide +kernel
theorem par1 : ∃ S, parT [109, 101, 116, 104, 111, 100, 32, 48, 32, 48, 10, 32, 32, 112, 111, 112, 32, 48] = (S, 2) := ⟨(parT [109, 101, 116, 104, 111, 100, 32, 48, 32, 48, 10, 32, 32, 112, 111, 112, 32, 48]).1, Prod.ext rfl (by decide +kernel)⟩
theorem par2 : ∃ S, parT [109, 101, 116, 104, 111, 100, 32, 48, 32, 48] = (S, 1) := ⟨(parT [109, 101, 116, 104, 111, 100, 32, 48, 32, 48]).1, Prod.ext rfl (by decide +kernel)⟩
theorem par3 : ∃ k, parT [109, 101, 116, 104, 111, 100, 32, 48, 32, 48, 10] = (⟨k, 0, 0, [], []⟩, 0) := by
  obtain ⟨k, h⟩ := parT_print (a := 0) (t := 0) (L := []) (C := []) (by decide) (by simp)
  rw [show printR 0 0 [] [] = [109, 101, 116, 104, 111, 100, 32, 48, 32, 48, 10] by decide +kernel] at h
  exact ⟨k, h⟩
/-- a row of lines -/
structure RwB (w wr : World) (q : Nat) (P : List Bs) : Prop where
  mk ::
  h : wr.heap[q]? = some (.cells (P.map (fun x => Value.string (bs x))).toArray 9 (0, 0))
  bel : Below w.heap.size w wr
theorem RwB.up {w wr w2 : World} {q : Nat} {P : List Bs} (h : RwB w wr q P) (b : Below wr.heap.size wr w2) : RwB w w2 q P := ⟨blk_up h.h b, h.bel.trans (b.mono h.bel.size)⟩
theorem RwB.at {w wr : World} {q i : Nat} {P : List Bs} {x : Bs} (h : RwB w wr q P) (hx : P[i]? = some x) : wr.cell? ⟨q, i, none⟩ = some (.string (bs x)) := by
  rw [Lib.cell_of_heap h.h i]
  simp [hx]
theorem tm_ok (x : Int) : In64 (Int.tmod x 40) := by
  have h : (Int.tmod x 40).natAbs < 40 := by rw [Int.natAbs_tmod]; exact Nat.mod_lt _ (by decide)
  exact ⟨by omega, by omega⟩
theorem two_me (y : World) (b : Nat) (hb : b < 256) : MeV (y.alloc (.cells #[.int .u8 (b : Int), .int .u8 ((b : Int) * 7 % 256)] 5)) (.agg #[.int .i64 (b : Int), .int .i64 (256 - (b : Int)), .slice none 0 0, .slice (some ⟨y.heap.size, 0, none⟩) 2 2]) ⟨(b : Int), 256 - (b : Int), [], [(b : Int), (b : Int) * 7 % 256]⟩ := by
  refine MeV.of (PrV.nil _) ⟨some ⟨y.heap.size, 0, none⟩, 2, rfl, Nat.le_refl _, by decide, fun k x hx => ?_⟩ ⟨by omega, by omega⟩ ⟨by omega, by omega⟩
  have hh := heap_alloc_new y (.cells #[.int .u8 (b : Int), .int .u8 ((b : Int) * 7 % 256)] 5)
  match k, hx with
  | 0, hx =>
    simp at hx
    subst hx
    exact ⟨⟨by omega, by omega⟩, _, _, rfl, by rw [Lib.cell_of_heap hh]; rfl⟩
  | 1, hx =>
    simp at hx
    subst hx
    exact ⟨⟨by omega, by omega⟩, _, _, rfl, by rw [Lib.cell_of_heap hh]; rfl⟩
  | k + 2, hx => simp at hx
theorem one_me (y : World) (b : Nat) (hb : b < 256) : MeV (y.alloc (.cells #[.int .u8 (b : Int)] 5)) (.agg #[.int .i64 0, .int .i64 ((b : Int) * 2), .slice none 0 0, .slice (some ⟨y.heap.size, 0, none⟩) 1 1]) ⟨0, (b : Int) * 2, [], [(b : Int)]⟩ := by
  refine MeV.of (PrV.nil _) ⟨some ⟨y.heap.size, 0, none⟩, 1, rfl, Nat.le_refl _, by decide, fun k x hx => ?_⟩ ⟨by omega, by omega⟩ ⟨by omega, by omega⟩
  have hh := heap_alloc_new y (.cells #[.int .u8 (b : Int)] 5)
  match k, hx with
  | 0, hx =>
    simp at hx
    subst hx
    exact ⟨⟨by omega, by omega⟩, _, _, rfl, by rw [Lib.cell_of_heap hh]; rfl⟩
  | k + 1, hx => simp at hx
set_option maxHeartbeats 64000000 in
theorem numbers_s {w : World} (hG : Gl w) : Calls Tryd.prog 3 #[] w fun e w' => e = .returned (.bool true) ∧ Below w.heap.size w w' := by
  replace hG := Lib.hid hG
  have S0 := Lib.hid (Below.refl w.heap.size w)
  go_enter Tryd.func3, Tryd.ntmps3
  go_upto_region 2 with fail
  go_loopw [1] (fun v wr => ∃ k : Nat, k ≤ 30 ∧ v = .int .i64 k ∧ Hid (Below w.heap.size w wr)) (fun v _ => 30 - (intOf v).toNat)
  case atStart => exact ⟨0, by omega, rfl, S0⟩
  case round =>
    clear S0
    obtain ⟨k, hk, rfl, hB⟩ := hrel
    by_cases hlt : k < 30
    · have d1 : decide ((k : Int) < 30) = true := by simp; omega
      have LT := Lib.hid (fun y => ltape_c (w := y) k (by omega))
      go_wp2_with (go_at_call 7; (refine (LT.out _).mono ?_); rintro e y1 ⟨at1, ct1, rfl, hnA, hb⟩; (have PU := Lib.hid (unit_t (tape_tp (cap := ct1) hnA (by decide)))); (replace hB := Lib.hid (hB.out.trans (hb.mono hB.out.size))); clear hb hnA LT)
      with_reducible refine PU.out.mono ?_
      rintro e wu ⟨vU, U, g, ucap, M, rfl, hU, hcg⟩
      have hBu := Lib.hid (unit_bel hcg)
      clear PU hcg
      obtain ⟨na, nc, ka, kc, oa, oc, rfl⟩ := hU.ex
      have hBa := (Below.refl wu.heap.size wu).alloc (Nat.le_refl _) (.cells #[.slice na U.names.length nc, .slice ka U.classes.length kc, .slice (some ⟨g, 0, none⟩) U.methods.length ucap, .slice oa U.objects.length oc, .int .i64 U.main] 27)
      have hUB : Hid ((wu.alloc (.cells #[.slice na U.names.length nc, .slice ka U.classes.length kc, .slice (some ⟨g, 0, none⟩) U.methods.length ucap, .slice oa U.objects.length oc, .int .i64 U.main] 27)).cell? ⟨wu.heap.size, 2, none⟩ = some (.slice (some ⟨g, 0, none⟩) U.methods.length ucap)) := Lib.hid (by simp)
      have hB1 := hB.out.trans (hBu.out.mono hB.out.size)
      have hW1 := Lib.hid (hB1.trans (hBa.mono hB1.size))
      have hU1 := Lib.hid (hU.up hBa)
      clear hU hBu hBa hB1 hB
      go_upto_region 5 with fail
      generalize wu.alloc (.cells #[.slice na U.names.length nc, .slice ka U.classes.length kc, .slice (some ⟨g, 0, none⟩) U.methods.length ucap, .slice oa U.objects.length oc, .int .i64 U.main] 27) = W1 at *
      generalize wu.heap.size = q13 at *
      have hml := hU1.out.ml
      obtain ⟨j, hj⟩ : ∃ j, j = k % 9 := ⟨_, rfl⟩
      have hj9 : j < 9 := by omega
      have htm : Int.tmod (k : Int) 9 = (j : Int) := by rw [hj]; exact (Int.ofNat_tmod k 9).symm
      have j0 : (0 : Int) ≤ (j : Int) := by omega
      have j1 : (j : Int) < 9 := by omega
      obtain ⟨⟨mM, lv, cv⟩, hMk⟩ : ∃ x, M[j]? = some x := ⟨M[j]'(by omega), by simp⟩
      obtain ⟨m0, m1, m2, m3, _, _, hl9, hc9⟩ := hU1.out.m hMk
      obtain ⟨la, lc, e1, _⟩ := hl9.form
      obtain ⟨ca, cc, e2, _⟩ := hc9.form
      simp only at m0 m1 m2 m3 e1 e2
      subst e1
      subst e2
      have hme := Lib.hid (hU1.out.me hMk)
      have hlen : Hid (mM.code.length ≤ 300 ∧ mM.lits.length ≤ 20) := Lib.hid (by
        have hk' : U.methods[j]? = some mM := by rw [← hU1.out.mm, List.getElem?_map, hMk]; rfl
        exact meth_len (hU1.out.ta.mts j mM hk'))
      have hgo : Hid (goM mM.args mM.temps mM.lits = true) := Lib.hid (by
        have hk' : U.methods[j]? = some mM := by rw [← hU1.out.mm, List.getElem?_map, hMk]; rfl
        exact meth_go (hU1.out.ta.mts j mM hk') (by have := hU1.out.ta.cl1; omega))
      clear hl9 hc9
      have u2' := hUB.out
      have hlen9 : U.methods.length = 9 := hml.2
      rw [hlen9] at u2'
      have hC2 := Lib.hid (R2S.mk u2' m0 m1 m2 m3)
      clear hUB m0 m1 m2 m3 u2' hMk hml hU1 hj
      have hC := Lib.hid (hC2.out.up ((Below.refl _ _).drew))
      have hBa := (Below.refl W1.heap.size W1).alloc (Nat.le_refl _) (.cells #[.int .i64 mM.args, .int .i64 mM.temps, .slice la mM.lits.length lc, .slice ca mM.code.length cc] 37)
      have hBm := hBa.trans (((Below.refl _ (W1.alloc (.cells #[.int .i64 mM.args, .int .i64 mM.temps, .slice la mM.lits.length lc, .slice ca mM.code.length cc] 37))).drew).mono hBa.size)
      have hT : Hid (Mb (W1.alloc (.cells #[.int .i64 mM.args, .int .i64 mM.temps, .slice la mM.lits.length lc, .slice ca mM.code.length cc] 37)).drew W1.heap.size la lc ca cc mM) := Lib.hid ((Mb.born hme.out).up ((Below.refl _ _).drew))
      have hB := Lib.hid (hW1.out.trans (hBm.mono hW1.out.size))
      clear hBa hBm
      refine wp_region_held_drew (S := (fun wr' => wr'.cell? ⟨q13, 2, none⟩ = some (.slice (some ⟨g, 0, none⟩) 9 ucap) ∧ wr'.cell? ⟨g, j * 4, none⟩ = some (.int .i64 mM.args) ∧ wr'.cell? ⟨g, j * 4 + 1, none⟩ = some (.int .i64 mM.temps) ∧ wr'.cell? ⟨g, j * 4 + 2, none⟩ = some (.slice la mM.lits.length lc) ∧ wr'.cell? ⟨g, j * 4 + 3, none⟩ = some (.slice ca mM.code.length cc))) (by kernel_rfl) ?_ (fun hHeld => ?_)
      · (try dsimp only); exact hC.out.cs
      try simp only [Act.put, nA]
      refine tk (i := 0) (oi := ⟨some 24, .fieldAddr 27 (.tmp 2) 2, 0, "law.go:176", #[], none⟩) (hy := by intro w hSw; (try dsimp only at hSw); obtain ⟨q0, q1, q2, q3, q4⟩ := hSw; go_simp <;> with_reducible rfl) ?_
      try simp only [Act.put, nA]
      refine tk (i := 1) (oi := ⟨some 25, .load 24 (.tmp 24), 24, "law.go:176", #[⟨0, .data⟩], none⟩) (hy := by intro w hSw; (try dsimp only at hSw); obtain ⟨q0, q1, q2, q3, q4⟩ := hSw; go_simp <;> with_reducible rfl) ?_
      try simp only [Act.put, nA]
      refine tk (i := 2) (oi := ⟨some 26, .move (.tmp 1), 3, "law.go:176", #[], none⟩) (hy := by intro w hSw; (try dsimp only at hSw); obtain ⟨q0, q1, q2, q3, q4⟩ := hSw; go_simp <;> with_reducible rfl) ?_
      try simp only [Act.put, nA]
      refine tk (i := 3) (oi := ⟨some 27, .fieldAddr 27 (.tmp 2) 2, 0, "law.go:176", #[], none⟩) (hy := by intro w hSw; (try dsimp only at hSw); obtain ⟨q0, q1, q2, q3, q4⟩ := hSw; go_simp <;> with_reducible rfl) ?_
      try simp only [Act.put, nA]
      refine tk (i := 4) (oi := ⟨some 28, .load 24 (.tmp 27), 24, "law.go:176", #[⟨3, .data⟩], none⟩) (hy := by intro w hSw; (try dsimp only at hSw); obtain ⟨q0, q1, q2, q3, q4⟩ := hSw; go_simp <;> with_reducible rfl) ?_
      try simp only [Act.put, nA]
      refine tk (i := 5) (oi := ⟨some 29, .call { callee := .builtin .len, args := #[.tmp 28], argTypes := #[24] }, 3, "law.go:176", #[⟨4, .data⟩], none⟩) (hy := by intro w hSw; (try dsimp only at hSw); obtain ⟨q0, q1, q2, q3, q4⟩ := hSw; go_simp <;> with_reducible rfl) ?_
      try simp only [Act.put, nA]
      refine tk (i := 6) (oi := ⟨some 30, .binOp .rem 3 (.tmp 26) (.tmp 29) 3, 3, "law.go:176", #[⟨2, .data⟩, ⟨5, .data⟩], none⟩) (hy := by intro w hSw; (try dsimp only at hSw); obtain ⟨q0, q1, q2, q3, q4⟩ := hSw; go_simp <;> with_reducible rfl) ?_
      try simp only [Act.put, nA]
      refine tk (i := 7) (oi := ⟨some 31, .indexAddr 24 (.tmp 25) (.tmp 30), 0, "law.go:176", #[⟨1, .data⟩, ⟨6, .data⟩], none⟩) (hy := by intro w hSw; (try dsimp only at hSw); obtain ⟨q0, q1, q2, q3, q4⟩ := hSw; go_simp <;> with_reducible rfl) ?_
      try simp only [Act.put, nA]
      refine tk (i := 8) (oi := ⟨some 32, .load 37 (.tmp 31), 37, "law.go:176", #[⟨7, .data⟩], none⟩) (hy := by intro w hSw; (try dsimp only at hSw); obtain ⟨q0, q1, q2, q3, q4⟩ := hSw; go_simp <;> with_reducible rfl) ?_
      try simp only [Act.put, nA]
      refine wpAnyH_ready (rs := [9]) (by kernel_rfl) (by simp) ?_
      refine AllReadyH.cons (o := ⟨some 3, .alloc 37, 0, "law.go:176", #[], none⟩) rfl (fun K9 hK => ?_) AllReadyH.nil
      go_simp
      replace hC := Lib.hid (hC.out.up ((Below.refl _ _).alloc (Nat.le_refl _) (.cells #[.int .i64 0, .int .i64 0, .slice none 0 0, .slice none 0 0] 37)))
      refine hK.out _ _ ?_ ?_
      · (try dsimp only); exact hC.out.cs
      clear hK K9 hHeld; intro hHeld
      try simp only [Act.put, nA]
      refine wpAnyH_ready (rs := [10]) (by kernel_rfl) (by simp) ?_
      refine AllReadyH.cons (o := ⟨none, .store 37 (.tmp 3) (.tmp 32), 0, "law.go:176", #[⟨9, .data⟩, ⟨8, .data⟩, ⟨0, .phase⟩, ⟨1, .phase⟩, ⟨2, .phase⟩, ⟨3, .phase⟩, ⟨4, .phase⟩, ⟨5, .phase⟩, ⟨6, .phase⟩, ⟨7, .phase⟩, ⟨8, .phase⟩, ⟨9, .phase⟩], none⟩) rfl (fun K9 hK => ?_) AllReadyH.nil
      go_simp
      replace hC := Lib.hid ((hC2.out.up ((Below.refl W1.heap.size W1).alloc (Nat.le_refl _) (.cells #[.int .i64 mM.args, .int .i64 mM.temps, .slice la mM.lits.length lc, .slice ca mM.code.length cc] 37))).up ((Below.refl _ _).drew))
      refine hK.out _ _ ?_ ?_
      · (try dsimp only); exact hC.out.cs
      clear hK K9 hHeld; intro hHeld
      try simp only [Act.put, nA]
      refine wpAnyH_done (by kernel_rfl) ?_ _
      clear hC hC2 hHeld hme hW1
      go_upto_region 6 with fail
      generalize (W1.alloc (.cells #[.int .i64 mM.args, .int .i64 mM.temps, .slice la mM.lits.length lc, .slice ca mM.code.length cc] 37)).drew = W2 at *
      generalize W1.heap.size = q14 at *
      obtain ⟨a0, a1, a2, a3⟩ := hT.out.c
      have C1 := Lib.hid (lsame_c hT.out.v (hG.out.up hB.out) hlen.out.2 hlen.out.1 (Or.inl hgo.out))
      go_upto_region 8 with (go_at_call 9; (with_reducible refine (C1.out).mono ?_); rintro e y4 ⟨rfl, hb⟩)
      replace hT := Lib.hid (hT.out.up hb)
      replace hB := Lib.hid (hB.out.trans (hb.mono hB.out.size))
      clear a0 a1 a2 a3 C1 hb
      have hX : Hid (RwB w (y4.alloc (.cells #[.string ⟨#[]⟩, .string ⟨#[110, 111, 110, 115, 101, 110, 115, 101]⟩, .string ⟨#[32, 32, 112, 111, 112]⟩, .string ⟨#[32, 32, 112, 111, 112, 32, 50, 53, 54]⟩, .string ⟨#[32, 32, 112, 111, 112, 32, 48, 53]⟩, .string ⟨#[32, 112, 111, 112, 32, 48]⟩, .string ⟨#[32, 32, 112, 117, 115, 104, 110, 117, 109, 32, 49, 50, 56]⟩, .string ⟨#[32, 32, 111, 112, 51, 32, 49]⟩, .string ⟨#[32, 32, 111, 112, 50, 53, 54, 32, 49]⟩, .string ⟨#[108, 105, 116]⟩, .string ⟨#[108, 105, 116, 32, 110, 117, 109]⟩, .string ⟨#[108, 105, 116, 32, 110, 105, 108, 32, 48]⟩, .string ⟨#[109, 101, 116, 104, 111, 100, 32, 49]⟩] 9)) y4.heap.size badS) := Lib.hid ⟨heap_alloc_new y4 _, hB.out.alloc hB.out.size _⟩
      replace hT := Lib.hid (hT.out.up ((Below.refl y4.heap.size y4).alloc (Nat.le_refl _) (.cells #[.string ⟨#[]⟩, .string ⟨#[110, 111, 110, 115, 101, 110, 115, 101]⟩, .string ⟨#[32, 32, 112, 111, 112]⟩, .string ⟨#[32, 32, 112, 111, 112, 32, 50, 53, 54]⟩, .string ⟨#[32, 32, 112, 111, 112, 32, 48, 53]⟩, .string ⟨#[32, 112, 111, 112, 32, 48]⟩, .string ⟨#[32, 32, 112, 117, 115, 104, 110, 117, 109, 32, 49, 50, 56]⟩, .string ⟨#[32, 32, 111, 112, 51, 32, 49]⟩, .string ⟨#[32, 32, 111, 112, 50, 53, 54, 32, 49]⟩, .string ⟨#[108, 105, 116]⟩, .string ⟨#[108, 105, 116, 32, 110, 117, 109]⟩, .string ⟨#[108, 105, 116, 32, 110, 105, 108, 32, 48]⟩, .string ⟨#[109, 101, 116, 104, 111, 100, 32, 49]⟩] 9)))
      clear hB
      go_upto_region 9 with fail
      generalize y4.alloc (.cells #[.string ⟨#[]⟩, .string ⟨#[110, 111, 110, 115, 101, 110, 115, 101]⟩, .string ⟨#[32, 32, 112, 111, 112]⟩, .string ⟨#[32, 32, 112, 111, 112, 32, 50, 53, 54]⟩, .string ⟨#[32, 32, 112, 111, 112, 32, 48, 53]⟩, .string ⟨#[32, 112, 111, 112, 32, 48]⟩, .string ⟨#[32, 32, 112, 117, 115, 104, 110, 117, 109, 32, 49, 50, 56]⟩, .string ⟨#[32, 32, 111, 112, 51, 32, 49]⟩, .string ⟨#[32, 32, 111, 112, 50, 53, 54, 32, 49]⟩, .string ⟨#[108, 105, 116]⟩, .string ⟨#[108, 105, 116, 32, 110, 117, 109]⟩, .string ⟨#[108, 105, 116, 32, 110, 105, 108, 32, 48]⟩, .string ⟨#[109, 101, 116, 104, 111, 100, 32, 49]⟩] 9) = W3 at *
      generalize y4.heap.size = q3 at *
      go_loopw [38] (fun v wx => ∃ i : Nat, i ≤ 13 ∧ v = .int .i64 i ∧ Hid (RwB w wx q3 badS) ∧ Hid (Mb wx q14 la lc ca cc mM)) (fun v _ => 13 - (intOf v).toNat)
      case atStart => exact ⟨0, by omega, rfl, hX, hT⟩
      case round =>
        clear hX hT
        obtain ⟨i, hi, rfl, hX, hT⟩ := hrel
        by_cases hlt : i < 13
        · have d3 : decide ((i : Int) < 13) = true := by simp; omega
          have p0 : (0 : Int) ≤ (i : Int) := by omega
          have p1 : (i : Int) < 13 := by omega
          obtain ⟨x, hx⟩ : ∃ x, badS[i]? = some x := ⟨badS[i]'(by show i < 13; omega), by simp⟩
          have c0 := hX.out.at hx
          have hmem := List.mem_of_getElem? hx
          obtain ⟨a0, a1, a2, a3⟩ := hT.out.c
          have C1 := Lib.hid (lbroken_c (a := ((i : Int) * 7 + (k : Int)) % 40) hT.out.v hlen.out.2 hlen.out.1 hgo.out ⟨by omega, by omega⟩ (badS_len x hmem) (badS_ok x hmem).1 (badS_ok x hmem).2)
          have s1 : IntKind.i64.wrap ((i : Int) * 7) = (i : Int) * 7 := IntWalk.i64_in _ (by omega)
          have s2 : IntKind.i64.wrap ((i : Int) * 7 + (k : Int)) = (i : Int) * 7 + (k : Int) := IntWalk.i64_in _ (by omega)
          have s3 : IntKind.i64.wrap (Int.tmod ((i : Int) * 7 + (k : Int)) 40) = Int.tmod ((i : Int) * 7 + (k : Int)) 40 := IntWalk.i64_in _ (tm_ok _)
          clear hx hmem hi hlt
          go_wp2_with fail
          with_reducible refine C1.out.mono ?_
          rintro e y5 ⟨rfl, hb⟩
          replace hX := Lib.hid (hX.out.up hb)
          replace hT := Lib.hid (hT.out.up hb)
          clear hb C1 a0 a1 a2 a3 c0
          go_wp2_with fail
          go_roundw
          case rel => exact ⟨i + 1, by omega, by go_num, hX, hT⟩
          case measure => simp [intOf]; omega
        · have d3 : decide ((i : Int) < 13) = false := by simp; omega
          clear hi hlt
          go_wp2_with fail
          go_roundw
          case rel => exact ⟨k + 1, by omega, by go_num, Lib.hid hX.out.bel⟩
          case measure => simp [intOf]; omega
    · have d1 : decide ((k : Int) < 30) = false := by simp; omega
      clear hk hlt
      go_upto_region 15 with fail
      go_loopw [6] (fun v wr => ∃ b : Nat, b ≤ 256 ∧ v = .int .i64 b ∧ Hid (Below w.heap.size w wr)) (fun v _ => 256 - (intOf v).toNat)
      case atStart => exact ⟨0, by omega, rfl, hB⟩
      case round =>
        clear hB
        obtain ⟨b, hb, rfl, hB⟩ := hrel
        by_cases hlt : b < 256
        · have d2 : decide ((b : Int) < 256) = true := by simp; omega
          have C1 := Lib.hid (fun y (hy : Gl y) => lsame_c (two_me y b hlt) (hy.up ((Below.refl _ _).alloc (Nat.le_refl _) _)) (by simp) (by simp) (Or.inr rfl))
          have C2 := Lib.hid (fun y (hy : Gl y) => lsame_c (one_me y b hlt) (hy.up ((Below.refl _ _).alloc (Nat.le_refl _) _)) (by simp) (by simp) (Or.inr rfl))
          have p0 : (0 : Int) ≤ (b : Int) := by omega
          have p1 : (b : Int) < 256 := by omega
          have w1 : IntKind.i64.wrap (256 - (b : Int)) = 256 - (b : Int) := IntWalk.i64_in _ (by omega)
          have w2 : IntKind.i64.wrap ((b : Int) * 7) = (b : Int) * 7 := IntWalk.i64_in _ (by omega)
          have w3 : IntKind.i64.wrap ((b : Int) * 2) = (b : Int) * 2 := IntWalk.i64_in _ (by omega)
          have w4 : IntKind.u8.wrap (b : Int) = (b : Int) := by unfold IntKind.wrap; simp [IntKind.signed, IntKind.bits]; omega
          have hba := Lib.hid ((Below.refl wr.heap.size wr).alloc (Nat.le_refl _) (.cells #[.int .u8 (b : Int), .int .u8 ((b : Int) * 7 % 256)] 5))
          have hbb := Lib.hid (fun y : World => (Below.refl y.heap.size y).alloc (Nat.le_refl _) (.cells #[.int .u8 (b : Int)] 5))
          go_wp2_with fail
          with_reducible refine (C1.out wr (hG.out.up hB.out)).mono ?_
          rintro e y4 ⟨rfl, hb4⟩
          have hB4 := Lib.hid (hB.out.trans ((hba.out.trans (hb4.mono hba.out.size)).mono hB.out.size))
          clear hb4 C1 hba hB
          go_wp2_with fail
          with_reducible refine (C2.out y4 (hG.out.up hB4.out)).mono ?_
          rintro e y5 ⟨rfl, hb5⟩
          have hB5 := Lib.hid (hB4.out.trans (((hbb.out y4).trans (hb5.mono (hbb.out y4).size)).mono hB4.out.size))
          clear hb5 C2 hbb hB4
          go_wp2_with fail
          go_roundw
          case rel => exact ⟨b + 1, by omega, by go_num, hB5⟩
          case measure => simp [intOf]; omega
        · have d2 : decide ((b : Int) < 256) = false := by simp; omega
          clear hb hlt
          have hX : Hid (RwB w (wr.alloc (.cells #[.string ⟨#[]⟩, .string ⟨#[110, 117, 109]⟩, .string ⟨#[110, 117, 109, 32]⟩, .string ⟨#[110, 117, 109, 32, 48]⟩, .string ⟨#[110, 117, 109, 32, 45, 48]⟩, .string ⟨#[110, 117, 109, 32, 45, 49]⟩, .string ⟨#[110, 117, 109, 32, 49, 48, 55, 51, 55, 52, 49, 56, 50, 51]⟩, .string ⟨#[110, 117, 109, 32, 49, 48, 55, 51, 55, 52, 49, 56, 50, 52]⟩, .string ⟨#[110, 117, 109, 32, 45, 49, 48, 55, 51, 55, 52, 49, 56, 50, 52]⟩, .string ⟨#[110, 117, 109, 32, 45, 49, 48, 55, 51, 55, 52, 49, 56, 50, 53]⟩, .string ⟨#[115, 101, 108, 32, 51, 32]⟩, .string ⟨#[110, 105, 108, 32, 48]⟩, .string ⟨#[114, 101, 102, 32, 52]⟩, .string ⟨#[99, 108, 115, 32, 48, 48]⟩, .string ⟨#[98, 108, 107, 32, 57, 57, 57, 57, 57, 57, 57, 57, 57, 57, 57, 57, 57, 57, 57, 57, 57, 57, 57, 57]⟩, .string ⟨#[110, 117, 109, 32, 32, 53]⟩] 9)) wr.heap.size valS) := Lib.hid ⟨heap_alloc_new wr _, hB.out.alloc hB.out.size _⟩
          go_upto_region 20 with fail
          generalize wr.alloc (.cells #[.string ⟨#[]⟩, .string ⟨#[110, 117, 109]⟩, .string ⟨#[110, 117, 109, 32]⟩, .string ⟨#[110, 117, 109, 32, 48]⟩, .string ⟨#[110, 117, 109, 32, 45, 48]⟩, .string ⟨#[110, 117, 109, 32, 45, 49]⟩, .string ⟨#[110, 117, 109, 32, 49, 48, 55, 51, 55, 52, 49, 56, 50, 51]⟩, .string ⟨#[110, 117, 109, 32, 49, 48, 55, 51, 55, 52, 49, 56, 50, 52]⟩, .string ⟨#[110, 117, 109, 32, 45, 49, 48, 55, 51, 55, 52, 49, 56, 50, 52]⟩, .string ⟨#[110, 117, 109, 32, 45, 49, 48, 55, 51, 55, 52, 49, 56, 50, 53]⟩, .string ⟨#[115, 101, 108, 32, 51, 32]⟩, .string ⟨#[110, 105, 108, 32, 48]⟩, .string ⟨#[114, 101, 102, 32, 52]⟩, .string ⟨#[99, 108, 115, 32, 48, 48]⟩, .string ⟨#[98, 108, 107, 32, 57, 57, 57, 57, 57, 57, 57, 57, 57, 57, 57, 57, 57, 57, 57, 57, 57, 57, 57, 57]⟩, .string ⟨#[110, 117, 109, 32, 32, 53]⟩] 9) = W3 at *
          generalize wr.heap.size = q3 at *
          go_loopw [81] (fun v wx => ∃ i : Nat, i ≤ 16 ∧ v = .int .i64 i ∧ Hid (RwB w wx q3 valS)) (fun v _ => 16 - (intOf v).toNat)
          case atStart => exact ⟨0, by omega, rfl, hX⟩
          case round =>
            clear hX hB
            obtain ⟨i, hi, rfl, hX⟩ := hrel
            by_cases hlt : i < 16
            · have d3 : decide ((i : Int) < 16) = true := by simp; omega
              have p0 : (0 : Int) ≤ (i : Int) := by omega
              have p1 : (i : Int) < 16 := by omega
              obtain ⟨x, hx⟩ : ∃ x, valS[i]? = some x := ⟨valS[i]'(by show i < 16; omega), by simp⟩
              have c0 := hX.out.at hx
              have hmem := List.mem_of_getElem? hx
              have C1 := Lib.hid (fun y => lvalues_c x (valS_len x hmem) (valS_eq x hmem) y)
              clear hx hmem hi hlt
              go_wp2_with (go_at_call 11; (with_reducible refine (C1.out _).mono ?_); rintro e y4 ⟨rfl, hb⟩; (replace hX := Lib.hid (hX.out.up hb)); clear hb)
              go_roundw
              case rel => exact ⟨i + 1, by omega, by go_num, hX⟩
              case measure => simp [intOf]; omega
            · have d3 : decide ((i : Int) < 16) = false := by simp; omega
              clear hi hlt
              have hB := Lib.hid hX.out.bel
              obtain ⟨T1, hT1⟩ := par1
              obtain ⟨T2, hT2⟩ := par2
              obtain ⟨k3, hT3⟩ := par3
              have P1 := Lib.hid (fun y => by
                have := parse_c [109, 101, 116, 104, 111, 100, 32, 48, 32, 48, 10, 32, 32, 112, 111, 112, 32, 48] (by decide) y
                rw [hT1] at this
                exact this)
              have P2 := Lib.hid (fun y => by
                have := parse_c [109, 101, 116, 104, 111, 100, 32, 48, 32, 48] (by decide) y
                rw [hT2] at this
                exact this)
              have P3 := Lib.hid (fun y => by
                have := parse_c [109, 101, 116, 104, 111, 100, 32, 48, 32, 48, 10] (by decide) y
                rw [hT3] at this
                exact this)
              clear hX hT1 hT2 hT3
              simp only at P1 P2 P3
              go_upto_region 26 with (go_at_call 12; (refine (P1.out _).mono ?_); rintro e y1 ⟨⟨zv, rfl, hzv⟩, hb⟩; obtain ⟨lz, lzc, cz, czc, rfl, hZ⟩ := me_form hzv)
              have hB1 := Lib.hid (hB.out.trans ((hb.alloc hb.size (.cells #[.int .i64 T1.a, .int .i64 T1.t, .slice lz T1.L.length lzc, .slice cz T1.C.length czc] 37)).mono hB.out.size))
              clear hb hZ hzv P1 hB
              generalize y1.alloc (.cells #[.int .i64 T1.a, .int .i64 T1.t, .slice lz T1.L.length lzc, .slice cz T1.C.length czc] 37) = W4 at *
              go_upto_region 27 with (go_at_call 12; (refine (P2.out _).mono ?_); rintro e y2 ⟨⟨zv, rfl, hzv⟩, hb⟩; obtain ⟨lz2, lzc2, cz2, czc2, rfl, hZ⟩ := me_form hzv)
              have hB2 := Lib.hid (hB1.out.trans ((hb.alloc hb.size (.cells #[.int .i64 T2.a, .int .i64 T2.t, .slice lz2 T2.L.length lzc2, .slice cz2 T2.C.length czc2] 37)).mono hB1.out.size))
              clear hb hZ hzv P2 hB1
              generalize y2.alloc (.cells #[.int .i64 T2.a, .int .i64 T2.t, .slice lz2 T2.L.length lzc2, .slice cz2 T2.C.length czc2] 37) = W5 at *
              go_upto_region 28 with (go_at_call 12; (refine (P3.out _).mono ?_); rintro e y3 ⟨⟨zv, rfl, hzv⟩, hb⟩; obtain ⟨lz3, lzc3, cz3, czc3, rfl, hZ⟩ := me_form hzv)
              have hB3 := Lib.hid (hB2.out.trans ((hb.alloc hb.size (.cells #[.int .i64 0, .int .i64 0, .slice lz3 0 lzc3, .slice cz3 0 czc3] 37)).mono hB2.out.size))
              have KnC := Lib.hid (fun y (hy : Gl y) => known_c hy)
              clear hb hZ hzv P3 hB2
              go_wp2_with (go_at_call 13; (refine (KnC.out _ (hG.out.up hB3.out)).mono ?_); rintro e y8 ⟨rfl, hbb⟩)
              go_ret
              exact ⟨rfl, hB3.out.trans (hbb.mono hB3.out.size)⟩
end Wd
end Go.Proofs.YtkodnioheifalaaDoor
