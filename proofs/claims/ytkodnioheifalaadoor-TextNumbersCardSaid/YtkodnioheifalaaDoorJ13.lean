/- Texts joined: TLU. -/
import Derived.Test.YtkodnioheifalaaDoorJ8
import Derived.Test.YtkodnioheifalaaDoorJ9
import Derived.Test.YtkodnioheifalaaDoorJ12
/- TextParts. -/
namespace Go.Proofs.YtkodnioheifalaaDoor
open Go.RowKit
set_option linter.unusedVariables false
set_option maxRecDepth 20000
namespace Wd
theorem meth_go {c : Int} {j : Nat} {x : MethA} (h : methOk c j x) (hc : c ≤ 1000) : goM x.args x.temps x.lits = true := by
  refine goM_iff.2 ⟨?_, by rw [h.temps]; decide, fun v hv => goV_iff.2 ?_⟩
  · rw [h.args]
    split
    · have := argOf_le j; omega
    · split <;> decide
  · obtain ⟨A, B, e, _, _, hA, hB⟩ := h.lits
    rw [e] at hv
    rcases List.mem_append.1 hv with hx | hx
    · rcases List.mem_append.1 hx with hx | hx
      · rcases List.mem_append.1 hx with hx | hx
        · obtain ⟨e, h⟩ := hA v hx
          exact ⟨by rw [e]; decide, by omega, by omega⟩
        · obtain ⟨s, hs, rfl⟩ := List.mem_map.1 hx
          have := List.mem_range.1 hs
          exact ⟨by show knd 5 ≠ []; decide, by simp only; omega, by simp only; omega⟩
      · obtain ⟨e, h0, h1⟩ := hB v hx
        exact ⟨by rw [e]; decide, by omega, by omega⟩
    · simp only [List.mem_cons, List.not_mem_nil, or_false] at hx
      rcases hx with rfl | rfl <;> exact ⟨by decide, by decide, by decide⟩
theorem ByV.drop {w : World} {g off n cap : Nat} {L : List Int} (h : ByV w (.slice (some ⟨g, off, none⟩) n cap) L) (k : Nat) (hk : k ≤ n) : ByV w (.slice (some ⟨g, off + k, none⟩) (n - k) (cap - k)) (L.drop k) := by
  obtain ⟨ad', cap', e, h1, h2, h3⟩ := h.ex
  cases e
  refine ⟨some ⟨g, off + k, none⟩, cap - k, by rw [List.length_drop], by rw [List.length_drop]; omega, by omega, fun j x hx => ?_⟩
  rw [List.getElem?_drop] at hx
  obtain ⟨b, g', off', e, c⟩ := h3 _ x hx
  cases e
  exact ⟨b, g, off + k, rfl, by rw [show off + k + j = off + (k + j) by omega]; exact c⟩
theorem ByV.dropE {w : World} {ad : Option Addr} {n cap : Nat} {L : List Int} (h : ByV w (.slice ad n cap) L) (k : Nat) (hk : k ≤ n) (hc : cap = k) : ByV w (.slice ad (n - k) 0) (L.drop k) := by
  obtain ⟨ad', cap', e, h1, h2, h3⟩ := h.ex
  cases e
  refine ⟨ad, 0, by rw [List.length_drop], by rw [List.length_drop]; omega, by omega, fun j x hx => ?_⟩
  have := (List.getElem?_eq_some_iff.1 hx).1
  rw [List.length_drop] at this
  omega
theorem printR_len (a t : Int) (L : List (Int × Int)) (C : List Int) : (printR a t L C).length ≤ (1 + (L.length + C.length)) * 81 := by
  have h1 := joinL_le (lineR a t L C) 80 (fun l hl => by
    simp only [lineR, List.mem_cons, List.mem_append, List.mem_map] at hl
    rcases hl with rfl | ⟨v, _, rfl⟩ | h
    · exact hdL_len _ _
    · exact liL_len v
    · exact insL_80 _ _ h)
  have h2 := insL_len C
  have h3 : (lineR a t L C).length ≤ 1 + (L.length + C.length) := by
    simp only [lineR, List.length_cons, List.length_append, List.length_map]
    omega
  unfold printR
  exact Nat.le_trans h1 (Nat.mul_le_mul_right _ h3)
theorem meth_pos {c : Int} {j : Nat} {x : MethA} (h : methOk c j x) : 1 ≤ x.code.length := by
  obtain ⟨I, ⟨⟨P, S, q, r, l, hI, h1, h5, hP, hS, _⟩⟩, e⟩ := h.code
  rw [e, flat_len, hI]
  simp only [List.length_append, List.length_cons, List.length_nil]
  omega
structure R2S (wr : World) (q13 g k ucap : Nat) (mM : MethA) (la ca : Option Addr) (lc cc : Nat) : Prop where
  mk ::
  c2 : wr.cell? ⟨q13, 2, none⟩ = some (.slice (some ⟨g, 0, none⟩) 9 ucap)
  m0 : wr.cell? ⟨g, k * 4, none⟩ = some (.int .i64 mM.args)
  m1 : wr.cell? ⟨g, k * 4 + 1, none⟩ = some (.int .i64 mM.temps)
  m2 : wr.cell? ⟨g, k * 4 + 2, none⟩ = some (.slice la mM.lits.length lc)
  m3 : wr.cell? ⟨g, k * 4 + 3, none⟩ = some (.slice ca mM.code.length cc)
theorem R2S.cs {wr : World} {q13 g k ucap : Nat} {mM : MethA} {la ca : Option Addr} {lc cc : Nat} (h : R2S wr q13 g k ucap mM la ca lc cc) : wr.cell? ⟨q13, 2, none⟩ = some (.slice (some ⟨g, 0, none⟩) 9 ucap) ∧ wr.cell? ⟨g, k * 4, none⟩ = some (.int .i64 mM.args) ∧ wr.cell? ⟨g, k * 4 + 1, none⟩ = some (.int .i64 mM.temps) ∧ wr.cell? ⟨g, k * 4 + 2, none⟩ = some (.slice la mM.lits.length lc) ∧ wr.cell? ⟨g, k * 4 + 3, none⟩ = some (.slice ca mM.code.length cc) := ⟨h.c2, h.m0, h.m1, h.m2, h.m3⟩
theorem R2S.up {w w1 : World} {q13 g k ucap : Nat} {mM : MethA} {la ca : Option Addr} {lc cc : Nat} (h : R2S w q13 g k ucap mM la ca lc cc) (b : Below w.heap.size w w1) : R2S w1 q13 g k ucap mM la ca lc cc := ⟨cell_up b h.c2, cell_up b h.m0, cell_up b h.m1, cell_up b h.m2, cell_up b h.m3⟩
set_option maxHeartbeats 64000000 in
theorem parts_s {w : World} (hG : Gl w) {ad : Option Addr} {n cap : Nat} (HA : NumA w ad n) (hl : n ≤ 4611686018427387904) (a : Int) (ha : In64 a) (b : Int) (hb : In64 b) : Calls Tryd.prog 6 #[.slice ad n cap, .int .i64 a, .int .i64 b] w fun e w' => e = .returned (.bool true) ∧ Below w.heap.size w w' := by
  have hPW := Lib.hid (fun w => within40_c a 0 8 ha.1 ha.2 (by omega) (by omega) (by omega) w)
  have hka := within_bd a 0 8 (by omega)
  generalize within a 0 8 = kk at *
  obtain ⟨k, rfl⟩ : ∃ k : Nat, kk = (k : Int) := ⟨kk.toNat, by omega⟩
  have k0 : (0 : Int) ≤ (k : Int) := by omega
  have k1 : (k : Int) < 9 := by omega
  have w1 : IntKind.i64.wrap (((9 : Nat) : Int) - 1) = 8 := by decide
  have w8 : IntKind.i64.wrap 8 = 8 := by decide
  have PU := Lib.hid (unit_t (tape_tp (cap := cap) HA hl))
  replace hG := Lib.hid hG
  clear HA
  go_enter Tryd.func6, Tryd.ntmps6
  go_wp2_with fail
  with_reducible refine PU.out.mono ?_
  rintro e wu ⟨vU, U, g, ucap, M, rfl, hU, hcg⟩
  have hBu := Lib.hid (unit_bel hcg)
  clear PU hcg
  obtain ⟨na, nc, ka, kc, oa, oc, rfl⟩ := hU.ex
  have hBa := (Below.refl wu.heap.size wu).alloc (Nat.le_refl _) (.cells #[.slice na U.names.length nc, .slice ka U.classes.length kc, .slice (some ⟨g, 0, none⟩) U.methods.length ucap, .slice oa U.objects.length oc, .int .i64 U.main] 27)
  have hUB : Hid ((wu.alloc (.cells #[.slice na U.names.length nc, .slice ka U.classes.length kc, .slice (some ⟨g, 0, none⟩) U.methods.length ucap, .slice oa U.objects.length oc, .int .i64 U.main] 27)).cell? ⟨wu.heap.size, 2, none⟩ = some (.slice (some ⟨g, 0, none⟩) U.methods.length ucap)) := Lib.hid (by simp)
  have hW1 := Lib.hid (hBu.out.trans (hBa.mono hBu.out.size))
  have hU1 := Lib.hid (hU.up hBa)
  clear hU hBu hBa
  go_upto_region 2 with fail
  generalize wu.alloc (.cells #[.slice na U.names.length nc, .slice ka U.classes.length kc, .slice (some ⟨g, 0, none⟩) U.methods.length ucap, .slice oa U.objects.length oc, .int .i64 U.main] 27) = W1 at *
  generalize wu.heap.size = q13 at *
  have hml := hU1.out.ml
  obtain ⟨⟨mM, lv, cv⟩, hMk⟩ : ∃ x, M[k]? = some x := ⟨M[k]'(by omega), by simp⟩
  obtain ⟨m0, m1, m2, m3, _, _, hl9, hc9⟩ := hU1.out.m hMk
  obtain ⟨la, lc, e1, _⟩ := hl9.form
  obtain ⟨ca, cc, e2, _⟩ := hc9.form
  simp only at m0 m1 m2 m3 e1 e2
  subst e1
  subst e2
  have hme := Lib.hid (hU1.out.me hMk)
  have hlen : Hid (mM.code.length ≤ 300 ∧ mM.lits.length ≤ 20) := Lib.hid (by
    have hk' : U.methods[k]? = some mM := by rw [← hU1.out.mm, List.getElem?_map, hMk]; rfl
    exact meth_len (hU1.out.ta.mts k mM hk'))
  have hgo : Hid (goM mM.args mM.temps mM.lits = true) := Lib.hid (by
    have hk' : U.methods[k]? = some mM := by rw [← hU1.out.mm, List.getElem?_map, hMk]; rfl
    exact meth_go (hU1.out.ta.mts k mM hk') (by have := hU1.out.ta.cl1; omega))
  have hps : Hid (1 ≤ mM.code.length) := Lib.hid (by
    have hk' : U.methods[k]? = some mM := by rw [← hU1.out.mm, List.getElem?_map, hMk]; rfl
    exact meth_pos (hU1.out.ta.mts k mM hk'))
  clear hl9 hc9
  have u2' := hUB.out
  have hlen9 : U.methods.length = 9 := hml.2
  rw [hlen9] at u2'
  have hC2 := Lib.hid (R2S.mk u2' m0 m1 m2 m3)
  clear hUB m0 m1 m2 m3 u2' hMk hml hU1
  go_cut [8] (fun v14 wx => ∃ q14 : Nat, v14 = .pointer (some ⟨q14, 0, none⟩) ∧ Hid (Mb wx q14 la lc ca cc mM) ∧ Hid (Below w.heap.size w wx))
  case first =>
    have hC := Lib.hid (hC2.out.up ((Below.refl _ _).drew))
    have hBa := (Below.refl W1.heap.size W1).alloc (Nat.le_refl _) (.cells #[.int .i64 mM.args, .int .i64 mM.temps, .slice la mM.lits.length lc, .slice ca mM.code.length cc] 37)
    have hBm := hBa.trans (((Below.refl _ (W1.alloc (.cells #[.int .i64 mM.args, .int .i64 mM.temps, .slice la mM.lits.length lc, .slice ca mM.code.length cc] 37))).drew).mono hBa.size)
    have hT : Hid (Mb (W1.alloc (.cells #[.int .i64 mM.args, .int .i64 mM.temps, .slice la mM.lits.length lc, .slice ca mM.code.length cc] 37)).drew W1.heap.size la lc ca cc mM) := Lib.hid ((Mb.born hme.out).up ((Below.refl _ _).drew))
    have hB := Lib.hid (hW1.out.trans (hBm.mono hW1.out.size))
    clear hBa hBm
    refine wp_region_held_drew (S := (fun wr' => wr'.cell? ⟨q13, 2, none⟩ = some (.slice (some ⟨g, 0, none⟩) 9 ucap) ∧ wr'.cell? ⟨g, k * 4, none⟩ = some (.int .i64 mM.args) ∧ wr'.cell? ⟨g, k * 4 + 1, none⟩ = some (.int .i64 mM.temps) ∧ wr'.cell? ⟨g, k * 4 + 2, none⟩ = some (.slice la mM.lits.length lc) ∧ wr'.cell? ⟨g, k * 4 + 3, none⟩ = some (.slice ca mM.code.length cc))) (by kernel_rfl) ?_ (fun hHeld => ?_)
    · (try dsimp only); exact hC.out.cs
    try simp only [Act.put, nA]
    refine tk (i := 0) (oi := ⟨some 19, .fieldAddr 27 (.tmp 7) 2, 0, "law.go:251", #[], none⟩) (hy := by intro w hSw; (try dsimp only at hSw); obtain ⟨q0, q1, q2, q3, q4⟩ := hSw; go_simp <;> with_reducible rfl) ?_
    try simp only [Act.put, nA]
    refine tk (i := 1) (oi := ⟨some 20, .load 24 (.tmp 19), 24, "law.go:251", #[⟨0, .data⟩], none⟩) (hy := by intro w hSw; (try dsimp only at hSw); obtain ⟨q0, q1, q2, q3, q4⟩ := hSw; go_simp <;> with_reducible rfl) ?_
    try simp only [Act.put, nA]
    refine tk (i := 2) (oi := ⟨some 21, .move (.tmp 1), 3, "law.go:251", #[], none⟩) (hy := by intro w hSw; (try dsimp only at hSw); obtain ⟨q0, q1, q2, q3, q4⟩ := hSw; go_simp <;> with_reducible rfl) ?_
    try simp only [Act.put, nA]
    refine tk (i := 3) (oi := ⟨some 22, .fieldAddr 27 (.tmp 7) 2, 0, "law.go:251", #[], none⟩) (hy := by intro w hSw; (try dsimp only at hSw); obtain ⟨q0, q1, q2, q3, q4⟩ := hSw; go_simp <;> with_reducible rfl) ?_
    try simp only [Act.put, nA]
    refine tk (i := 4) (oi := ⟨some 23, .load 24 (.tmp 22), 24, "law.go:251", #[⟨3, .data⟩], none⟩) (hy := by intro w hSw; (try dsimp only at hSw); obtain ⟨q0, q1, q2, q3, q4⟩ := hSw; go_simp <;> with_reducible rfl) ?_
    try simp only [Act.put, nA]
    refine tk (i := 5) (oi := ⟨some 24, .call { callee := .builtin .len, args := #[.tmp 23], argTypes := #[24] }, 3, "law.go:251", #[⟨4, .data⟩], none⟩) (hy := by intro w hSw; (try dsimp only at hSw); obtain ⟨q0, q1, q2, q3, q4⟩ := hSw; go_simp <;> with_reducible rfl) ?_
    try simp only [Act.put, nA]
    refine tk (i := 6) (oi := ⟨some 25, .binOp .sub 3 (.tmp 24) (.const (.int .i64 1)) 3, 3, "law.go:251", #[⟨5, .data⟩], none⟩) (hy := by intro w hSw; (try dsimp only at hSw); obtain ⟨q0, q1, q2, q3, q4⟩ := hSw; go_simp <;> with_reducible rfl) ?_
    try simp only [Act.put, nA]
    refine wpAnyH_ready (rs := [7, 10]) (by kernel_rfl) (by simp) ?_
    refine AllReadyH.cons (o := ⟨some 26, .call { callee := .value (.func 14), args := #[.tmp 21, .const (.int .i64 0), .tmp 25], argTypes := #[3, 3, 3] }, 3, "law.go:251", #[⟨2, .data⟩, ⟨6, .data⟩], none⟩) rfl (fun K9 hK => ?_) ?_
    · go_simp
      with_reducible refine (hPW.out _).mono ?_
      rintro e y1 ⟨rfl, hy1⟩
      subst y1
      go_wp2_with fail
      refine hK.out _ _ ?_ ?_
      · (try dsimp only); exact hC.out.cs
      clear hK K9 hHeld; intro hHeld
      try simp only [Act.put, nA]
      refine tk (i := 8) (oi := ⟨some 27, .indexAddr 24 (.tmp 20) (.tmp 26), 0, "law.go:251", #[⟨1, .data⟩, ⟨7, .data⟩], none⟩) (hy := by intro w hSw; (try dsimp only at hSw); obtain ⟨q0, q1, q2, q3, q4⟩ := hSw; go_simp <;> with_reducible rfl) ?_
      try simp only [Act.put, nA]
      refine tk (i := 9) (oi := ⟨some 28, .load 37 (.tmp 27), 37, "law.go:251", #[⟨8, .data⟩], none⟩) (hy := by intro w hSw; (try dsimp only at hSw); obtain ⟨q0, q1, q2, q3, q4⟩ := hSw; go_simp <;> with_reducible rfl) ?_
      try simp only [Act.put, nA]
      refine wpAnyH_ready (rs := [10]) (by kernel_rfl) (by simp) ?_
      refine AllReadyH.cons (o := ⟨some 8, .alloc 37, 0, "law.go:251", #[], none⟩) rfl (fun K9 hK => ?_) AllReadyH.nil
      go_simp
      replace hC := Lib.hid (hC.out.up ((Below.refl _ _).alloc (Nat.le_refl _) (.cells #[.int .i64 0, .int .i64 0, .slice none 0 0, .slice none 0 0] 37)))
      refine hK.out _ _ ?_ ?_
      · (try dsimp only); exact hC.out.cs
      clear hK K9 hHeld; intro hHeld
      try simp only [Act.put, nA]
      refine wpAnyH_ready (rs := [11]) (by kernel_rfl) (by simp) ?_
      refine AllReadyH.cons (o := ⟨none, .store 37 (.tmp 8) (.tmp 28), 0, "law.go:251", #[⟨10, .data⟩, ⟨9, .data⟩, ⟨7, .chain⟩, ⟨0, .phase⟩, ⟨1, .phase⟩, ⟨2, .phase⟩, ⟨3, .phase⟩, ⟨4, .phase⟩, ⟨5, .phase⟩, ⟨6, .phase⟩, ⟨7, .phase⟩, ⟨8, .phase⟩, ⟨9, .phase⟩, ⟨10, .phase⟩], none⟩) rfl (fun K9 hK => ?_) AllReadyH.nil
      go_simp
      replace hC := Lib.hid ((hC2.out.up ((Below.refl W1.heap.size W1).alloc (Nat.le_refl _) (.cells #[.int .i64 mM.args, .int .i64 mM.temps, .slice la mM.lits.length lc, .slice ca mM.code.length cc] 37))).up ((Below.refl _ _).drew))
      refine hK.out _ _ ?_ ?_
      · (try dsimp only); exact hC.out.cs
      clear hK K9 hHeld; intro hHeld
      try simp only [Act.put, nA]
      refine wpAnyH_done (by kernel_rfl) ?_ _
      go_wp2_with fail
      go_meet
      exact ⟨_, rfl, hT, hB⟩
    refine AllReadyH.cons (o := ⟨some 8, .alloc 37, 0, "law.go:251", #[], none⟩) rfl (fun K9 hK => ?_) ?_
    · go_simp
      replace hC := Lib.hid (hC.out.up ((Below.refl _ _).alloc (Nat.le_refl _) (.cells #[.int .i64 0, .int .i64 0, .slice none 0 0, .slice none 0 0] 37)))
      refine hK.out _ _ ?_ ?_
      · (try dsimp only); exact hC.out.cs
      clear hK K9 hHeld; intro hHeld
      try simp only [Act.put, nA]
      refine wpAnyH_ready (rs := [7]) (by kernel_rfl) (by simp) ?_
      refine AllReadyH.cons (o := ⟨some 26, .call { callee := .value (.func 14), args := #[.tmp 21, .const (.int .i64 0), .tmp 25], argTypes := #[3, 3, 3] }, 3, "law.go:251", #[⟨2, .data⟩, ⟨6, .data⟩], none⟩) rfl (fun K9 hK => ?_) AllReadyH.nil
      go_simp
      with_reducible refine (hPW.out _).mono ?_
      rintro e y1 ⟨rfl, hy1⟩
      subst y1
      go_wp2_with fail
      refine hK.out _ _ ?_ ?_
      · (try dsimp only); exact hC.out.cs
      clear hK K9 hHeld; intro hHeld
      try simp only [Act.put, nA]
      refine tk (i := 8) (oi := ⟨some 27, .indexAddr 24 (.tmp 20) (.tmp 26), 0, "law.go:251", #[⟨1, .data⟩, ⟨7, .data⟩], none⟩) (hy := by intro w hSw; (try dsimp only at hSw); obtain ⟨q0, q1, q2, q3, q4⟩ := hSw; go_simp <;> with_reducible rfl) ?_
      try simp only [Act.put, nA]
      refine tk (i := 9) (oi := ⟨some 28, .load 37 (.tmp 27), 37, "law.go:251", #[⟨8, .data⟩], none⟩) (hy := by intro w hSw; (try dsimp only at hSw); obtain ⟨q0, q1, q2, q3, q4⟩ := hSw; go_simp <;> with_reducible rfl) ?_
      try simp only [Act.put, nA]
      refine wpAnyH_ready (rs := [11]) (by kernel_rfl) (by simp) ?_
      refine AllReadyH.cons (o := ⟨none, .store 37 (.tmp 8) (.tmp 28), 0, "law.go:251", #[⟨10, .data⟩, ⟨9, .data⟩, ⟨7, .chain⟩, ⟨0, .phase⟩, ⟨1, .phase⟩, ⟨2, .phase⟩, ⟨3, .phase⟩, ⟨4, .phase⟩, ⟨5, .phase⟩, ⟨6, .phase⟩, ⟨7, .phase⟩, ⟨8, .phase⟩, ⟨9, .phase⟩, ⟨10, .phase⟩], none⟩) rfl (fun K9 hK => ?_) AllReadyH.nil
      go_simp
      replace hC := Lib.hid ((hC2.out.up ((Below.refl W1.heap.size W1).alloc (Nat.le_refl _) (.cells #[.int .i64 mM.args, .int .i64 mM.temps, .slice la mM.lits.length lc, .slice ca mM.code.length cc] 37))).up ((Below.refl _ _).drew))
      refine hK.out _ _ ?_ ?_
      · (try dsimp only); exact hC.out.cs
      clear hK K9 hHeld; intro hHeld
      try simp only [Act.put, nA]
      refine wpAnyH_done (by kernel_rfl) ?_ _
      go_wp2_with fail
      go_meet
      exact ⟨_, rfl, hT, hB⟩
    exact AllReadyH.nil
  case rest =>
    clear hC2 hme hW1
    obtain ⟨q14, rfl, hM, hB⟩ := hcut
    obtain ⟨a0, a1, a2, a3⟩ := hM.out.c
    obtain ⟨hl1, hl2⟩ := hlen.out
    have hq : Int.tdiv (mM.code.length : Int) 2 = ((mM.code.length / 2 : Nat) : Int) := (Int.ofNat_tdiv _ 2).symm
    have hPB := Lib.hid (fun w => within40_c b 0 ((mM.code.length / 2 : Nat) : Int) hb.1 hb.2 (by omega) (by omega) (by omega) w)
    have hjb := within_bd b 0 ((mM.code.length / 2 : Nat) : Int) (by omega)
    generalize within b 0 ((mM.code.length / 2 : Nat) : Int) = jj at *
    obtain ⟨j, rfl⟩ : ∃ j : Nat, jj = (j : Int) := ⟨jj.toNat, by omega⟩
    obtain ⟨N, hN⟩ : ∃ N, mM.code.length / 2 = N := ⟨_, rfl⟩
    rw [hN] at hq hPB hjb
    have hj2 : 2 * j ≤ mM.code.length := by omega
    have hN3 : N ≤ 150 := by omega
    replace hN := Lib.hid hN
    have j0 : (0 : Int) ≤ (j : Int) := by omega
    obtain ⟨J, hJ⟩ : ∃ J : Nat, 2 * j = J := ⟨_, rfl⟩
    have hJ2 : 2 * (j : Int) = (J : Int) := by omega
    have hJe := Lib.hid (show J % 2 = 0 by omega)
    have J0 : (0 : Int) ≤ (J : Int) := by omega
    have J1 : J ≤ 300 := by omega
    have J2 : (J : Int) ≤ (mM.code.length : Int) := by omega
    have hpos := hps.out
    rw [hJ] at hj2
    clear hjb hJ
    go_upto_region 4 with (go_at_call 14; (with_reducible refine (hPB.out _).mono ?_); rintro e y1 ⟨rfl, hy1⟩; subst y1)
    obtain ⟨w0, hw0⟩ : ∃ w0, w0 = wc := ⟨_, rfl⟩
    subst hw0
    go_cut [10, 11] (fun v10 v11 wx => ∃ qa qb : Nat, v10 = .pointer (some ⟨qa, 0, none⟩) ∧ v11 = .pointer (some ⟨qb, 0, none⟩) ∧ Hid (Mb wx qa la lc ca cc mM ∧ Mb wx qb la lc ca cc mM) ∧ Hid (Below w0.heap.size w0 wx) ∧ Hid (w0.heap.size ≤ qa ∧ w0.heap.size ≤ qb ∧ qa ≠ qb))
    case first =>
      have hlt := Lib.hid (blk_lt hM.out.h)
      have hb1 := (Below.refl w0.heap.size w0).alloc (Nat.le_refl _) (.cells #[.int .i64 mM.args, .int .i64 mM.temps, .slice la mM.lits.length lc, .slice ca mM.code.length cc] 37)
      have hb2 : Below w0.heap.size w0 ((w0.alloc (.cells #[.int .i64 mM.args, .int .i64 mM.temps, .slice la mM.lits.length lc, .slice ca mM.code.length cc] 37)).alloc (.cells #[.int .i64 mM.args, .int .i64 mM.temps, .slice la mM.lits.length lc, .slice ca mM.code.length cc] 37)).drew := (hb1.alloc (by simp) _).drew
      have hM1 : Hid (Mb ((w0.alloc (.cells #[.int .i64 mM.args, .int .i64 mM.temps, .slice la mM.lits.length lc, .slice ca mM.code.length cc] 37)).alloc (.cells #[.int .i64 mM.args, .int .i64 mM.temps, .slice la mM.lits.length lc, .slice ca mM.code.length cc] 37)).drew w0.heap.size la lc ca cc mM) := Lib.hid (((Mb.born hM.out.v).up ((Below.refl _ _).alloc (Nat.le_refl _) _)).up ((Below.refl _ _).drew))
      have hM2 : Hid (Mb ((w0.alloc (.cells #[.int .i64 mM.args, .int .i64 mM.temps, .slice la mM.lits.length lc, .slice ca mM.code.length cc] 37)).alloc (.cells #[.int .i64 mM.args, .int .i64 mM.temps, .slice la mM.lits.length lc, .slice ca mM.code.length cc] 37)).drew (w0.heap.size + 1) la lc ca cc mM) := Lib.hid (by
        have := Mb.born (hM.out.up hb1).v
        simp only [World.size_alloc] at this
        exact this.up ((Below.refl _ _).drew))
      have hB2 := Lib.hid hb2
      clear hb1 hb2
      refine wp_region_held_drew (S := (fun wr' => wr'.cell? ⟨q14, 0, none⟩ = some (.int .i64 mM.args) ∧ wr'.cell? ⟨q14, 1, none⟩ = some (.int .i64 mM.temps) ∧ wr'.cell? ⟨q14, 2, none⟩ = some (.slice la mM.lits.length lc) ∧ wr'.cell? ⟨q14, 3, none⟩ = some (.slice ca mM.code.length cc))) (by kernel_rfl) ?_ (fun hHeld => ?_)
      · (try dsimp only); exact hM.out.c
      try simp only [Act.put, nA]
      refine tk (i := 1) (oi := ⟨some 37, .load 37 (.tmp 8), 37, "law.go:253", #[{ on := 4, ground := Ground.gcOnly Departure.lateStores }], none⟩) (hy := by intro w hSw; (try dsimp only at hSw); obtain ⟨q0, q1, q2, q3⟩ := hSw; go_simp <;> with_reducible rfl) ?_
      try simp only [Act.put, nA]
      refine tk (i := 0) (oi := ⟨some 36, .load 37 (.tmp 8), 37, "law.go:253", #[], none⟩) (hy := by intro w hSw; (try dsimp only at hSw); obtain ⟨q0, q1, q2, q3⟩ := hSw; go_simp <;> with_reducible rfl) ?_
      try simp only [Act.put, nA]
      refine wpAnyH_ready (rs := [2, 3]) (by kernel_rfl) (by simp) ?_
      refine AllReadyH.cons (o := ⟨some 10, .alloc 37, 0, "law.go:253", #[], none⟩) rfl (fun K9 hK => ?_) ?_
      · go_simp
        refine hK.out _ _ ?_ ?_
        · (try dsimp only); refine ⟨?_, ?_, ?_, ?_⟩ <;> first | exact (cell_up (((Below.refl w0.heap.size w0).alloc (Nat.le_refl _) (.cells #[.int .i64 0, .int .i64 0, .slice none 0 0, .slice none 0 0] 37)).drew) hM.out.c.1) | exact (cell_up (((Below.refl w0.heap.size w0).alloc (Nat.le_refl _) (.cells #[.int .i64 0, .int .i64 0, .slice none 0 0, .slice none 0 0] 37)).drew) hM.out.c.2.1) | exact (cell_up (((Below.refl w0.heap.size w0).alloc (Nat.le_refl _) (.cells #[.int .i64 0, .int .i64 0, .slice none 0 0, .slice none 0 0] 37)).drew) hM.out.c.2.2.1) | exact (cell_up (((Below.refl w0.heap.size w0).alloc (Nat.le_refl _) (.cells #[.int .i64 0, .int .i64 0, .slice none 0 0, .slice none 0 0] 37)).drew) hM.out.c.2.2.2)
        clear hK K9 hHeld; intro hHeld
        try simp only [Act.put, nA]
        refine wpAnyH_ready (rs := [3]) (by kernel_rfl) (by simp) ?_
        refine AllReadyH.cons (o := ⟨some 11, .alloc 37, 0, "law.go:253", #[], none⟩) rfl (fun K9 hK => ?_) AllReadyH.nil
        go_simp
        refine hK.out _ _ ?_ ?_
        · (try dsimp only); refine ⟨?_, ?_, ?_, ?_⟩ <;> first | exact (cell_up ((((Below.refl w0.heap.size w0).alloc (Nat.le_refl _) (.cells #[.int .i64 0, .int .i64 0, .slice none 0 0, .slice none 0 0] 37)).alloc (by simp) (.cells #[.int .i64 0, .int .i64 0, .slice none 0 0, .slice none 0 0] 37)).drew) hM.out.c.1) | exact (cell_up ((((Below.refl w0.heap.size w0).alloc (Nat.le_refl _) (.cells #[.int .i64 0, .int .i64 0, .slice none 0 0, .slice none 0 0] 37)).alloc (by simp) (.cells #[.int .i64 0, .int .i64 0, .slice none 0 0, .slice none 0 0] 37)).drew) hM.out.c.2.1) | exact (cell_up ((((Below.refl w0.heap.size w0).alloc (Nat.le_refl _) (.cells #[.int .i64 0, .int .i64 0, .slice none 0 0, .slice none 0 0] 37)).alloc (by simp) (.cells #[.int .i64 0, .int .i64 0, .slice none 0 0, .slice none 0 0] 37)).drew) hM.out.c.2.2.1) | exact (cell_up ((((Below.refl w0.heap.size w0).alloc (Nat.le_refl _) (.cells #[.int .i64 0, .int .i64 0, .slice none 0 0, .slice none 0 0] 37)).alloc (by simp) (.cells #[.int .i64 0, .int .i64 0, .slice none 0 0, .slice none 0 0] 37)).drew) hM.out.c.2.2.2)
        clear hK K9 hHeld; intro hHeld
        try simp only [Act.put, nA]
        refine wpAnyH_ready (rs := [4]) (by kernel_rfl) (by simp) ?_
        refine AllReadyH.cons (o := ⟨none, .store 37 (.tmp 10) (.tmp 36), 0, "law.go:253", #[⟨2, .data⟩, ⟨0, .data⟩, ⟨0, .phase⟩, { on := 1, ground := Ground.textOnly Departure.lateStores }, ⟨2, .phase⟩, ⟨3, .phase⟩], none⟩) rfl (fun K9 hK => ?_) AllReadyH.nil
        go_simp
        refine hK.out _ _ ?_ ?_
        · (try dsimp only); refine ⟨?_, ?_, ?_, ?_⟩ <;> first | exact (cell_up ((((Below.refl w0.heap.size w0).alloc (Nat.le_refl _) (.cells #[.int .i64 mM.args, .int .i64 mM.temps, .slice la mM.lits.length lc, .slice ca mM.code.length cc] 37)).alloc (by simp) (.cells #[.int .i64 0, .int .i64 0, .slice none 0 0, .slice none 0 0] 37)).drew) hM.out.c.1) | exact (cell_up ((((Below.refl w0.heap.size w0).alloc (Nat.le_refl _) (.cells #[.int .i64 mM.args, .int .i64 mM.temps, .slice la mM.lits.length lc, .slice ca mM.code.length cc] 37)).alloc (by simp) (.cells #[.int .i64 0, .int .i64 0, .slice none 0 0, .slice none 0 0] 37)).drew) hM.out.c.2.1) | exact (cell_up ((((Below.refl w0.heap.size w0).alloc (Nat.le_refl _) (.cells #[.int .i64 mM.args, .int .i64 mM.temps, .slice la mM.lits.length lc, .slice ca mM.code.length cc] 37)).alloc (by simp) (.cells #[.int .i64 0, .int .i64 0, .slice none 0 0, .slice none 0 0] 37)).drew) hM.out.c.2.2.1) | exact (cell_up ((((Below.refl w0.heap.size w0).alloc (Nat.le_refl _) (.cells #[.int .i64 mM.args, .int .i64 mM.temps, .slice la mM.lits.length lc, .slice ca mM.code.length cc] 37)).alloc (by simp) (.cells #[.int .i64 0, .int .i64 0, .slice none 0 0, .slice none 0 0] 37)).drew) hM.out.c.2.2.2)
        clear hK K9 hHeld; intro hHeld
        try simp only [Act.put, nA]
        refine wpAnyH_ready (rs := [5]) (by kernel_rfl) (by simp) ?_
        refine AllReadyH.cons (o := ⟨none, .store 37 (.tmp 11) (.tmp 37), 0, "law.go:253", #[⟨3, .data⟩, ⟨1, .data⟩, ⟨4, .chain⟩, ⟨0, .phase⟩, ⟨1, .phase⟩, ⟨2, .phase⟩, ⟨3, .phase⟩, ⟨4, .phase⟩], none⟩) rfl (fun K9 hK => ?_) AllReadyH.nil
        go_simp
        refine hK.out _ _ ?_ ?_
        · (try dsimp only); refine ⟨?_, ?_, ?_, ?_⟩ <;> first | exact (cell_up ((((Below.refl w0.heap.size w0).alloc (Nat.le_refl _) (.cells #[.int .i64 mM.args, .int .i64 mM.temps, .slice la mM.lits.length lc, .slice ca mM.code.length cc] 37)).alloc (by simp) (.cells #[.int .i64 mM.args, .int .i64 mM.temps, .slice la mM.lits.length lc, .slice ca mM.code.length cc] 37)).drew) hM.out.c.1) | exact (cell_up ((((Below.refl w0.heap.size w0).alloc (Nat.le_refl _) (.cells #[.int .i64 mM.args, .int .i64 mM.temps, .slice la mM.lits.length lc, .slice ca mM.code.length cc] 37)).alloc (by simp) (.cells #[.int .i64 mM.args, .int .i64 mM.temps, .slice la mM.lits.length lc, .slice ca mM.code.length cc] 37)).drew) hM.out.c.2.1) | exact (cell_up ((((Below.refl w0.heap.size w0).alloc (Nat.le_refl _) (.cells #[.int .i64 mM.args, .int .i64 mM.temps, .slice la mM.lits.length lc, .slice ca mM.code.length cc] 37)).alloc (by simp) (.cells #[.int .i64 mM.args, .int .i64 mM.temps, .slice la mM.lits.length lc, .slice ca mM.code.length cc] 37)).drew) hM.out.c.2.2.1) | exact (cell_up ((((Below.refl w0.heap.size w0).alloc (Nat.le_refl _) (.cells #[.int .i64 mM.args, .int .i64 mM.temps, .slice la mM.lits.length lc, .slice ca mM.code.length cc] 37)).alloc (by simp) (.cells #[.int .i64 mM.args, .int .i64 mM.temps, .slice la mM.lits.length lc, .slice ca mM.code.length cc] 37)).drew) hM.out.c.2.2.2)
        clear hK K9 hHeld; intro hHeld
        try simp only [Act.put, nA]
        refine wpAnyH_done (by kernel_rfl) ?_ _
        go_wp2_with fail
        go_meet
        exact ⟨_, _, rfl, rfl, Lib.hid ⟨hM1.out, hM2.out⟩, hB2, Lib.hid (by omega)⟩
      refine AllReadyH.cons (o := ⟨some 11, .alloc 37, 0, "law.go:253", #[], none⟩) rfl (fun K9 hK => ?_) ?_
      · go_simp
        refine hK.out _ _ ?_ ?_
        · (try dsimp only); refine ⟨?_, ?_, ?_, ?_⟩ <;> first | exact (cell_up (((Below.refl w0.heap.size w0).alloc (Nat.le_refl _) (.cells #[.int .i64 0, .int .i64 0, .slice none 0 0, .slice none 0 0] 37)).drew) hM.out.c.1) | exact (cell_up (((Below.refl w0.heap.size w0).alloc (Nat.le_refl _) (.cells #[.int .i64 0, .int .i64 0, .slice none 0 0, .slice none 0 0] 37)).drew) hM.out.c.2.1) | exact (cell_up (((Below.refl w0.heap.size w0).alloc (Nat.le_refl _) (.cells #[.int .i64 0, .int .i64 0, .slice none 0 0, .slice none 0 0] 37)).drew) hM.out.c.2.2.1) | exact (cell_up (((Below.refl w0.heap.size w0).alloc (Nat.le_refl _) (.cells #[.int .i64 0, .int .i64 0, .slice none 0 0, .slice none 0 0] 37)).drew) hM.out.c.2.2.2)
        clear hK K9 hHeld; intro hHeld
        try simp only [Act.put, nA]
        refine wpAnyH_ready (rs := [2]) (by kernel_rfl) (by simp) ?_
        refine AllReadyH.cons (o := ⟨some 10, .alloc 37, 0, "law.go:253", #[], none⟩) rfl (fun K9 hK => ?_) AllReadyH.nil
        go_simp
        refine hK.out _ _ ?_ ?_
        · (try dsimp only); refine ⟨?_, ?_, ?_, ?_⟩ <;> first | exact (cell_up ((((Below.refl w0.heap.size w0).alloc (Nat.le_refl _) (.cells #[.int .i64 0, .int .i64 0, .slice none 0 0, .slice none 0 0] 37)).alloc (by simp) (.cells #[.int .i64 0, .int .i64 0, .slice none 0 0, .slice none 0 0] 37)).drew) hM.out.c.1) | exact (cell_up ((((Below.refl w0.heap.size w0).alloc (Nat.le_refl _) (.cells #[.int .i64 0, .int .i64 0, .slice none 0 0, .slice none 0 0] 37)).alloc (by simp) (.cells #[.int .i64 0, .int .i64 0, .slice none 0 0, .slice none 0 0] 37)).drew) hM.out.c.2.1) | exact (cell_up ((((Below.refl w0.heap.size w0).alloc (Nat.le_refl _) (.cells #[.int .i64 0, .int .i64 0, .slice none 0 0, .slice none 0 0] 37)).alloc (by simp) (.cells #[.int .i64 0, .int .i64 0, .slice none 0 0, .slice none 0 0] 37)).drew) hM.out.c.2.2.1) | exact (cell_up ((((Below.refl w0.heap.size w0).alloc (Nat.le_refl _) (.cells #[.int .i64 0, .int .i64 0, .slice none 0 0, .slice none 0 0] 37)).alloc (by simp) (.cells #[.int .i64 0, .int .i64 0, .slice none 0 0, .slice none 0 0] 37)).drew) hM.out.c.2.2.2)
        clear hK K9 hHeld; intro hHeld
        try simp only [Act.put, nA]
        refine wpAnyH_ready (rs := [4]) (by kernel_rfl) (by simp) ?_
        refine AllReadyH.cons (o := ⟨none, .store 37 (.tmp 10) (.tmp 36), 0, "law.go:253", #[⟨2, .data⟩, ⟨0, .data⟩, ⟨0, .phase⟩, { on := 1, ground := Ground.textOnly Departure.lateStores }, ⟨2, .phase⟩, ⟨3, .phase⟩], none⟩) rfl (fun K9 hK => ?_) AllReadyH.nil
        go_simp
        refine hK.out _ _ ?_ ?_
        · (try dsimp only); refine ⟨?_, ?_, ?_, ?_⟩ <;> first | exact (cell_up ((((Below.refl w0.heap.size w0).alloc (Nat.le_refl _) (.cells #[.int .i64 0, .int .i64 0, .slice none 0 0, .slice none 0 0] 37)).alloc (by simp) (.cells #[.int .i64 mM.args, .int .i64 mM.temps, .slice la mM.lits.length lc, .slice ca mM.code.length cc] 37)).drew) hM.out.c.1) | exact (cell_up ((((Below.refl w0.heap.size w0).alloc (Nat.le_refl _) (.cells #[.int .i64 0, .int .i64 0, .slice none 0 0, .slice none 0 0] 37)).alloc (by simp) (.cells #[.int .i64 mM.args, .int .i64 mM.temps, .slice la mM.lits.length lc, .slice ca mM.code.length cc] 37)).drew) hM.out.c.2.1) | exact (cell_up ((((Below.refl w0.heap.size w0).alloc (Nat.le_refl _) (.cells #[.int .i64 0, .int .i64 0, .slice none 0 0, .slice none 0 0] 37)).alloc (by simp) (.cells #[.int .i64 mM.args, .int .i64 mM.temps, .slice la mM.lits.length lc, .slice ca mM.code.length cc] 37)).drew) hM.out.c.2.2.1) | exact (cell_up ((((Below.refl w0.heap.size w0).alloc (Nat.le_refl _) (.cells #[.int .i64 0, .int .i64 0, .slice none 0 0, .slice none 0 0] 37)).alloc (by simp) (.cells #[.int .i64 mM.args, .int .i64 mM.temps, .slice la mM.lits.length lc, .slice ca mM.code.length cc] 37)).drew) hM.out.c.2.2.2)
        clear hK K9 hHeld; intro hHeld
        try simp only [Act.put, nA]
        refine wpAnyH_ready (rs := [5]) (by kernel_rfl) (by simp) ?_
        refine AllReadyH.cons (o := ⟨none, .store 37 (.tmp 11) (.tmp 37), 0, "law.go:253", #[⟨3, .data⟩, ⟨1, .data⟩, ⟨4, .chain⟩, ⟨0, .phase⟩, ⟨1, .phase⟩, ⟨2, .phase⟩, ⟨3, .phase⟩, ⟨4, .phase⟩], none⟩) rfl (fun K9 hK => ?_) AllReadyH.nil
        go_simp
        refine hK.out _ _ ?_ ?_
        · (try dsimp only); refine ⟨?_, ?_, ?_, ?_⟩ <;> first | exact (cell_up ((((Below.refl w0.heap.size w0).alloc (Nat.le_refl _) (.cells #[.int .i64 mM.args, .int .i64 mM.temps, .slice la mM.lits.length lc, .slice ca mM.code.length cc] 37)).alloc (by simp) (.cells #[.int .i64 mM.args, .int .i64 mM.temps, .slice la mM.lits.length lc, .slice ca mM.code.length cc] 37)).drew) hM.out.c.1) | exact (cell_up ((((Below.refl w0.heap.size w0).alloc (Nat.le_refl _) (.cells #[.int .i64 mM.args, .int .i64 mM.temps, .slice la mM.lits.length lc, .slice ca mM.code.length cc] 37)).alloc (by simp) (.cells #[.int .i64 mM.args, .int .i64 mM.temps, .slice la mM.lits.length lc, .slice ca mM.code.length cc] 37)).drew) hM.out.c.2.1) | exact (cell_up ((((Below.refl w0.heap.size w0).alloc (Nat.le_refl _) (.cells #[.int .i64 mM.args, .int .i64 mM.temps, .slice la mM.lits.length lc, .slice ca mM.code.length cc] 37)).alloc (by simp) (.cells #[.int .i64 mM.args, .int .i64 mM.temps, .slice la mM.lits.length lc, .slice ca mM.code.length cc] 37)).drew) hM.out.c.2.2.1) | exact (cell_up ((((Below.refl w0.heap.size w0).alloc (Nat.le_refl _) (.cells #[.int .i64 mM.args, .int .i64 mM.temps, .slice la mM.lits.length lc, .slice ca mM.code.length cc] 37)).alloc (by simp) (.cells #[.int .i64 mM.args, .int .i64 mM.temps, .slice la mM.lits.length lc, .slice ca mM.code.length cc] 37)).drew) hM.out.c.2.2.2)
        clear hK K9 hHeld; intro hHeld
        try simp only [Act.put, nA]
        refine wpAnyH_done (by kernel_rfl) ?_ _
        go_wp2_with fail
        go_meet
        exact ⟨_, _, rfl, rfl, Lib.hid ⟨hM2.out, hM1.out⟩, hB2, Lib.hid (by omega)⟩
      exact AllReadyH.nil
    case rest =>
      clear a0 a1 a2 a3
      obtain ⟨qa, qb, rfl, rfl, hAB, hB0, hne⟩ := hcut
      have hBorig := hB
      obtain ⟨⟨gc, off, rfl⟩, hcc, hPr, hBy⟩ : (∃ gc off, ca = some ⟨gc, off, none⟩) ∧ mM.code.length ≤ cc ∧ Hid (PrV w0 (.slice la mM.lits.length lc) mM.lits) ∧ Hid (ByV w0 (.slice ca mM.code.length cc) mM.code) := by
        obtain ⟨_, _, ca', cc', e, hpr, hby⟩ := hM.out.v.ex
        cases e
        obtain ⟨x, hx⟩ : ∃ x, mM.code[0]? = some x := ⟨mM.code[0]'(by omega), by simp⟩
        obtain ⟨_, g', off', e, _⟩ := hby.at hx
        obtain ⟨_, _, e2, h2, _⟩ := hby.form
        cases e2
        exact ⟨⟨g', off', e⟩, h2, Lib.hid hpr, Lib.hid hby⟩
      have hMc := Lib.hid (hM.out.up hB0.out)
      obtain ⟨m0, m1, m2, m3⟩ := hMc.out.c
      have J3 : (J : Int) ≤ (cc : Int) := by omega
      have d3 := hAB.out.1.c.2.2.2
      have f3 : wc.frozen? ⟨qa, 3, none⟩ = false := Lib.frozen_of_heap hAB.out.1.h 3
      go_upto_region 6 with fail
      have hA1 := Lib.hid (set_block wc qa 3 (.slice (some ⟨gc, off, none⟩) J cc) _ _ _ hAB.out.1.h)
      have hBb := Lib.hid ((Below.heap_setCell wc ⟨qa, 3, none⟩ (.slice (some ⟨gc, off, none⟩) J cc) qb (fun e => hne.out.2.2 (by simp at e; exact e.symm))).trans hAB.out.2.h)
      have hB1 := Lib.hid (hB0.out.setCell hne.out.1 (p := ⟨qa, 3, none⟩) (.slice (some ⟨gc, off, none⟩) J cc))
      clear d3 f3 m0 m1 m2 m3 hAB hMc
      generalize wc.setCell ⟨qa, 3, none⟩ (.slice (some ⟨gc, off, none⟩) J cc) = W5 at *
      obtain ⟨m0, m1, m2, m3⟩ := (hM.out.up hB1.out).c
      obtain ⟨d0, d1, d2, d3⟩ : W5.cell? ⟨qb, 0, none⟩ = some (.int .i64 mM.args) ∧ W5.cell? ⟨qb, 1, none⟩ = some (.int .i64 mM.temps) ∧ W5.cell? ⟨qb, 2, none⟩ = some (.slice la mM.lits.length lc) ∧ W5.cell? ⟨qb, 3, none⟩ = some (.slice (some ⟨gc, off, none⟩) mM.code.length cc) := by
        refine ⟨?_, ?_, ?_, ?_⟩ <;> rw [Lib.cell_of_heap hBb.out] <;> rfl
      have f0 : W5.frozen? ⟨qb, 0, none⟩ = false := Lib.frozen_of_heap hBb.out 0
      have f1 : W5.frozen? ⟨qb, 1, none⟩ = false := Lib.frozen_of_heap hBb.out 1
      have f2 : W5.frozen? ⟨qb, 2, none⟩ = false := Lib.frozen_of_heap hBb.out 2
      have f3 : W5.frozen? ⟨qb, 3, none⟩ = false := Lib.frozen_of_heap hBb.out 3
      obtain ⟨sb, hsb, hByb⟩ : ∃ sb, (cc = J ∧ sb = Value.slice (some ⟨gc, off, none⟩) (mM.code.length - J) 0 ∨ ¬ cc = J ∧ sb = Value.slice (some ⟨gc, off + J, none⟩) (mM.code.length - J) (cc - J)) ∧ Hid (∃ adb cb, sb = .slice adb (mM.code.length - J) cb ∧ ByV w0 (.slice adb (mM.code.length - J) cb) (mM.code.drop J)) := by
        by_cases hcj : cc = J
        · exact ⟨_, Or.inl ⟨hcj, rfl⟩, Lib.hid ⟨_, _, rfl, ByV.dropE hBy.out J hj2 hcj⟩⟩
        · exact ⟨_, Or.inr ⟨hcj, rfl⟩, Lib.hid ⟨_, _, rfl, ByV.drop hBy.out J hj2⟩⟩
      go_cut [] (fun wx => Hid (wx = (((W5.setCell ⟨qb, 3, none⟩ sb).setCell ⟨qb, 2, none⟩ (.slice none 0 0)).setCell ⟨qb, 0, none⟩ (.int .i64 0)).setCell ⟨qb, 1, none⟩ (.int .i64 0)))
      case first =>
        rcases hsb with ⟨hcj, rfl⟩ | ⟨hcj, rfl⟩
        · have hc0 : cc - J = 0 := by omega
          subst hcj
          go_wp2_with fail
          go_meet
          exact Lib.hid (by rw [show mM.code.length - cc = 0 by omega])
        · have hcj' : ¬ (cc - J = 0) := by omega
          go_wp2_with fail
          go_meet
          exact Lib.hid rfl
      case rest =>
        clear hsb m0 m1 m2 m3 d0 d1 d2 d3 f0 f1 f2 f3
        have hcut' := hcut.out
        subst hcut'
        clear hcut
        have x3 := set_block _ qb 3 sb _ _ _ hBb.out
        have x2 := set_block _ qb 2 (.slice none 0 0) _ _ _ x3
        have x0 := set_block _ qb 0 (.int .i64 0) _ _ _ x2
        have x1 := Lib.hid (set_block _ qb 1 (.int .i64 0) _ _ _ x0)
        have far : ∀ (y : World) (i : Nat) (v : Value), (y.setCell ⟨qb, i, none⟩ v).heap[qa]? = y.heap[qa]? := fun y i v => Below.heap_setCell y ⟨qb, i, none⟩ v qa (fun e => hne.out.2.2 (by simpa using e))
        have y1 := Lib.hid ((far _ 1 (.int .i64 0)).trans ((far _ 0 (.int .i64 0)).trans ((far _ 2 (.slice none 0 0)).trans ((far _ 3 sb).trans hA1.out))))
        have hB2 := Lib.hid ((((hB1.out.setCell hne.out.2.1 (p := ⟨qb, 3, none⟩) sb).setCell hne.out.2.1 (p := ⟨qb, 2, none⟩) (.slice none 0 0)).setCell hne.out.2.1 (p := ⟨qb, 0, none⟩) (.int .i64 0)).setCell hne.out.2.1 (p := ⟨qb, 1, none⟩) (.int .i64 0))
        clear x3 x2 x0 far hA1 hBb hB1 hB0
        generalize (((W5.setCell ⟨qb, 3, none⟩ sb).setCell ⟨qb, 2, none⟩ (.slice none 0 0)).setCell ⟨qb, 0, none⟩ (.int .i64 0)).setCell ⟨qb, 1, none⟩ (.int .i64 0) = W7 at *
        obtain ⟨adb, cb, rfl, hByc⟩ := hByb.out
        replace x1 : Hid (W7.heap[qb]? = some (.cells #[.int .i64 0, .int .i64 0, .slice none 0 0, .slice adb (mM.code.length - J) cb] 37 (0, 0))) := x1
        replace y1 : Hid (W7.heap[qa]? = some (.cells #[.int .i64 mM.args, .int .i64 mM.temps, .slice la mM.lits.length lc, .slice (some ⟨gc, off, none⟩) J cc] 37 (0, 0))) := y1
        have hVM := Lib.hid hM.out.v
        have hMb := Lib.hid (hM.out.up hB2.out)
        have hVA : Hid (MeV w0 (.agg #[.int .i64 mM.args, .int .i64 mM.temps, .slice la mM.lits.length lc, .slice (some ⟨gc, off, none⟩) J cc]) ⟨mM.args, mM.temps, mM.lits, mM.code.take J⟩) := Lib.hid (MeV.of hPr.out (hBy.out.take J hj2) hM.out.v.a64 hM.out.v.t64)
        have hVB : Hid (MeV w0 (.agg #[.int .i64 0, .int .i64 0, .slice none 0 0, .slice adb (mM.code.length - J) cb]) ⟨0, 0, [], mM.code.drop J⟩) := Lib.hid (MeV.of (PrV.nil w0) hByc ⟨by decide, by decide⟩ ⟨by decide, by decide⟩)
        have hBw := Lib.hid (hBorig.out.trans (hB2.out.mono hBorig.out.size))
        clear hPr hBy hByb hByc hBorig hM
        obtain ⟨hp1, hp2⟩ := print_parts mM.args mM.temps mM.lits mM.code J hj2 hJe.out
        have PA := Lib.hid (fun y (b : Below w0.heap.size w0 y) (hy : Gl y) => print_c (hVA.out.up b) hy (by simp only; omega) (by simp only [List.length_take]; omega))
        have PB := Lib.hid (fun y (b : Below w0.heap.size w0 y) (hy : Gl y) => print_c (hVB.out.up b) hy (by simp) (by simp only [List.length_drop]; omega))
        have PM := Lib.hid (fun y (b : Below w0.heap.size w0 y) (hy : Gl y) => print_c (hVM.out.up b) hy (by omega) (by omega))
        have PZ := Lib.hid (fun y (hy : Gl y) => print_c (me_zero y) hy (by decide) (by decide))
        have lnH : (printR 0 0 [] []).length = 11 := by decide +kernel
        have lb1 := printR_len 0 0 [] (mM.code.drop J)
        have lb2 : 11 ≤ (printR 0 0 [] (mM.code.drop J)).length := by
          have h3 := congrArg List.length hp1
          rw [List.length_append, lnH] at h3
          omega
        have la1 := printR_len mM.args mM.temps mM.lits (mM.code.take J)
        rw [List.length_drop, List.length_nil] at lb1
        rw [List.length_take] at la1
        simp only at PA PB PM PZ
        generalize hxA : printR mM.args mM.temps mM.lits (mM.code.take J) = XA at *
        generalize hxB : printR 0 0 [] (mM.code.drop J) = XB at *
        generalize hxM : printR mM.args mM.temps mM.lits mM.code = XM at *
        generalize joinL (insL (mM.code.drop J)) = XT at *
        clear hxA hxB hxM
        generalize printR 0 0 [] [] = XH at *
        have e1 : (bs XB).extract 0 11 = bs XH := by
          rw [bs_take, hp1, ← lnH, List.take_left]
        have e2 : (bs XB).extract 11 (bs XB).size = bs XT := by
          rw [bs_drop, hp1, ← lnH, List.drop_left]
        have e3 : bs XA ++ bs XT = bs XM := by rw [bs_app, hp2]
        have sB : (bs XB).size = XB.length := bs_size XB
        have sH : (bs XH).size = 11 := by rw [bs_size, lnH]
        have sA : (bs XA).size = XA.length := bs_size XA
        have sT : (bs XT).size = XT.length := bs_size XT
        have lt1 : XT.length ≤ 100000 := by
          have := congrArg List.length hp1
          rw [List.length_append] at this
          omega
        have r1 : ¬ (9223372036854775807 : Nat) < XA.length + XT.length := by omega
        have gH : ((bs XH).toList == (bs XH).toList) = true := by simp
        have gM : ((bs XM).toList == (bs XM).toList) = true := by simp
        rw [sB] at e2
        clear hp1 hp2 lnH
        generalize XB.length = nXB at *
        generalize XA.length = nXA at *
        generalize XT.length = nXT at *
        generalize bs XB = TB at *
        generalize bs XA = TA at *
        generalize bs XM = TM at *
        generalize bs XH = TH at *
        generalize bs XT = TT at *
        have q1 : (11 : Int) ≤ (nXB : Int) := by omega
        go_upto_region 7 with fail
        have hb := (Below.refl W7.heap.size W7).drew
        replace y1 := Lib.hid (blk_up y1.out hb)
        replace x1 := Lib.hid (blk_up x1.out hb)
        replace hMb := Lib.hid (hMb.out.up hb)
        replace hBw := Lib.hid (hBw.out.trans (hb.mono hBw.out.size))
        replace hB2 := Lib.hid (hB2.out.trans (hb.mono hB2.out.size))
        clear hb
        refine wp_region_held_drew (S := (fun wr' => wr'.cell? ⟨qa, 0, none⟩ = some (.int .i64 mM.args) ∧ wr'.cell? ⟨qa, 1, none⟩ = some (.int .i64 mM.temps) ∧ wr'.cell? ⟨qa, 2, none⟩ = some (.slice la mM.lits.length lc) ∧ wr'.cell? ⟨qa, 3, none⟩ = some (.slice (some ⟨gc, off, none⟩) J cc) ∧ wr'.cell? ⟨qb, 0, none⟩ = some (.int .i64 0) ∧ wr'.cell? ⟨qb, 1, none⟩ = some (.int .i64 0) ∧ wr'.cell? ⟨qb, 2, none⟩ = some (.slice none 0 0) ∧ wr'.cell? ⟨qb, 3, none⟩ = some (.slice adb (mM.code.length - J) cb))) (by kernel_rfl) ?_ (fun hHeld => ?_)
        · (try dsimp only); exact ⟨(by rw [Lib.cell_of_heap y1.out]; rfl), (by rw [Lib.cell_of_heap y1.out]; rfl), (by rw [Lib.cell_of_heap y1.out]; rfl), (by rw [Lib.cell_of_heap y1.out]; rfl), (by rw [Lib.cell_of_heap x1.out]; rfl), (by rw [Lib.cell_of_heap x1.out]; rfl), (by rw [Lib.cell_of_heap x1.out]; rfl), (by rw [Lib.cell_of_heap x1.out]; rfl)⟩
        try simp only [Act.put, nA]
        refine tk (i := 0) (oi := ⟨some 51, .load 37 (.tmp 10), 37, "law.go:256", #[], none⟩) (hy := by intro w hSw; (try dsimp only at hSw); obtain ⟨q0, q1, q2, q3, q4, q5, q6, q7⟩ := hSw; go_simp <;> with_reducible rfl) ?_
        try simp only [Act.put, nA]
        refine tk (i := 2) (oi := ⟨some 53, .load 37 (.tmp 11), 37, "law.go:256", #[], none⟩) (hy := by intro w hSw; (try dsimp only at hSw); obtain ⟨q0, q1, q2, q3, q4, q5, q6, q7⟩ := hSw; go_simp <;> with_reducible rfl) ?_
        try simp only [Act.put, nA]
        refine wpAnyH_ready (rs := [1]) (by kernel_rfl) (by simp) ?_
        refine AllReadyH.cons (o := ⟨some 52, .call { callee := .value (.func 15), args := #[.tmp 51], argTypes := #[37] }, 9, "law.go:256", #[⟨0, .data⟩], none⟩) rfl (fun K9 hK => ?_) AllReadyH.nil
        go_simp
        refine (PA.out _ hB2.out (hG.out.up hBw.out)).mono ?_
        rintro e y8 ⟨rfl, hb⟩
        replace y1 := Lib.hid (blk_up y1.out hb)
        replace x1 := Lib.hid (blk_up x1.out hb)
        replace hMb := Lib.hid (hMb.out.up hb)
        replace hBw := Lib.hid (hBw.out.trans (hb.mono hBw.out.size))
        replace hB2 := Lib.hid (hB2.out.trans (hb.mono hB2.out.size))
        clear hb
        go_wp2_with fail
        refine hK.out _ _ ?_ ?_
        · (try dsimp only); exact ⟨(by rw [Lib.cell_of_heap y1.out]; rfl), (by rw [Lib.cell_of_heap y1.out]; rfl), (by rw [Lib.cell_of_heap y1.out]; rfl), (by rw [Lib.cell_of_heap y1.out]; rfl), (by rw [Lib.cell_of_heap x1.out]; rfl), (by rw [Lib.cell_of_heap x1.out]; rfl), (by rw [Lib.cell_of_heap x1.out]; rfl), (by rw [Lib.cell_of_heap x1.out]; rfl)⟩
        clear hK K9 hHeld; intro hHeld
        try simp only [Act.put, nA]
        refine wpAnyH_ready (rs := [3]) (by kernel_rfl) (by simp) ?_
        refine AllReadyH.cons (o := ⟨some 54, .call { callee := .value (.func 15), args := #[.tmp 53], argTypes := #[37] }, 9, "law.go:256", #[⟨2, .data⟩, ⟨1, .chain⟩], none⟩) rfl (fun K9 hK => ?_) AllReadyH.nil
        go_simp
        refine (PB.out _ hB2.out (hG.out.up hBw.out)).mono ?_
        rintro e y9 ⟨rfl, hb⟩
        replace y1 := Lib.hid (blk_up y1.out hb)
        replace x1 := Lib.hid (blk_up x1.out hb)
        replace hMb := Lib.hid (hMb.out.up hb)
        replace hBw := Lib.hid (hBw.out.trans (hb.mono hBw.out.size))
        replace hB2 := Lib.hid (hB2.out.trans (hb.mono hB2.out.size))
        clear hb
        go_wp2_with fail
        refine hK.out _ _ ?_ ?_
        · (try dsimp only); exact ⟨(by rw [Lib.cell_of_heap y1.out]; rfl), (by rw [Lib.cell_of_heap y1.out]; rfl), (by rw [Lib.cell_of_heap y1.out]; rfl), (by rw [Lib.cell_of_heap y1.out]; rfl), (by rw [Lib.cell_of_heap x1.out]; rfl), (by rw [Lib.cell_of_heap x1.out]; rfl), (by rw [Lib.cell_of_heap x1.out]; rfl), (by rw [Lib.cell_of_heap x1.out]; rfl)⟩
        clear hK K9 hHeld; intro hHeld
        try simp only [Act.put, nA]
        refine tk (i := 4) (oi := ⟨some 12, .assign (.tmp 52), 9, "law.go:256", #[⟨1, .data⟩, ⟨3, .chain⟩, ⟨0, .phase⟩, ⟨1, .phase⟩, { on := 2, ground := Ground.textOnly Departure.lateStores }, { on := 3, ground := Ground.textOnly Departure.lateStoresUnsure }], none⟩) (hy := by intro w hSw; (try dsimp only at hSw); obtain ⟨q0, q1, q2, q3, q4, q5, q6, q7⟩ := hSw; go_simp <;> with_reducible rfl) ?_
        try simp only [Act.put, nA]
        refine tk (i := 5) (oi := ⟨some 13, .assign (.tmp 54), 9, "law.go:256", #[⟨3, .data⟩, ⟨4, .chain⟩, ⟨0, .phase⟩, ⟨1, .phase⟩, ⟨2, .phase⟩, ⟨3, .phase⟩, ⟨4, .phase⟩], none⟩) (hy := by intro w hSw; (try dsimp only at hSw); obtain ⟨q0, q1, q2, q3, q4, q5, q6, q7⟩ := hSw; go_simp <;> with_reducible rfl) ?_
        try simp only [Act.put, nA]
        refine wpAnyH_done (by kernel_rfl) ?_ _
        clear hHeld
        go_upto_region 9 with (go_at_call 15; (refine (PZ.out _ (hG.out.up hBw.out)).mono ?_); rintro e y10 ⟨rfl, hb⟩)
        replace y1 := Lib.hid (blk_up y1.out hb)
        replace x1 := Lib.hid (blk_up x1.out hb)
        replace hMb := Lib.hid (hMb.out.up hb)
        replace hBw := Lib.hid (hBw.out.trans (hb.mono hBw.out.size))
        replace hB2 := Lib.hid (hB2.out.trans (hb.mono hB2.out.size))
        clear hb
        clear x1 y1 hVA hVB PA PB PZ
        have hb := (Below.refl y10.heap.size y10).drew
        replace hMb := Lib.hid (hMb.out.up hb)
        replace hBw := Lib.hid (hBw.out.trans (hb.mono hBw.out.size))
        replace hB2 := Lib.hid (hB2.out.trans (hb.mono hB2.out.size))
        clear hb
        have dq1 : decide ((nXB : Int) ≥ 11) = true := by simp; omega
        have dq2 : decide (11 ≤ nXB) = true := by simp; omega
        have KnC := Lib.hid (fun y (hy : Gl y) => known_c hy)
        refine wp_region_held_drew (S := (fun wr' => wr'.cell? ⟨q14, 0, none⟩ = some (.int .i64 mM.args) ∧ wr'.cell? ⟨q14, 1, none⟩ = some (.int .i64 mM.temps) ∧ wr'.cell? ⟨q14, 2, none⟩ = some (.slice la mM.lits.length lc) ∧ wr'.cell? ⟨q14, 3, none⟩ = some (.slice (some ⟨gc, off, none⟩) mM.code.length cc))) (by kernel_rfl) ?_ (fun hHeld => ?_)
        · (try dsimp only); exact hMb.out.c
        try simp only [Act.put, nA]
        refine tk (i := 0) (oi := ⟨some 57, .move (.tmp 13), 9, "law.go:258", #[], none⟩) (hy := by intro w hSw; (try dsimp only at hSw); obtain ⟨q0, q1, q2, q3⟩ := hSw; go_simp <;> with_reducible rfl) ?_
        try simp only [Act.put, nA]
        refine tk (i := 1) (oi := ⟨some 58, .call { callee := .builtin .len, args := #[.tmp 57], argTypes := #[9] }, 3, "law.go:258", #[⟨0, .data⟩], none⟩) (hy := by intro w hSw; (try dsimp only at hSw); obtain ⟨q0, q1, q2, q3⟩ := hSw; go_simp <;> with_reducible rfl) ?_
        try simp only [Act.put, nA]
        refine tk (i := 2) (oi := ⟨some 59, .move (.tmp 14), 9, "law.go:258", #[], none⟩) (hy := by intro w hSw; (try dsimp only at hSw); obtain ⟨q0, q1, q2, q3⟩ := hSw; go_simp <;> with_reducible rfl) ?_
        try simp only [Act.put, nA]
        refine tk (i := 3) (oi := ⟨some 60, .call { callee := .builtin .len, args := #[.tmp 59], argTypes := #[9] }, 3, "law.go:258", #[⟨2, .data⟩], none⟩) (hy := by intro w hSw; (try dsimp only at hSw); obtain ⟨q0, q1, q2, q3⟩ := hSw; go_simp <;> with_reducible rfl) ?_
        try simp only [Act.put, nA]
        refine tk (i := 4) (oi := ⟨some 61, .binOp .geq 3 (.tmp 58) (.tmp 60) 3, 4, "law.go:258", #[⟨1, .data⟩, ⟨3, .data⟩], none⟩) (hy := by intro w hSw; (try dsimp only at hSw); obtain ⟨q0, q1, q2, q3⟩ := hSw; go_simp <;> with_reducible rfl) ?_
        try simp only [Act.put, nA]
        refine tk (i := 5) (oi := ⟨some 62, .move (.tmp 61), 4, "law.go:258", #[⟨4, .data⟩], none⟩) (hy := by intro w hSw; (try dsimp only at hSw); obtain ⟨q0, q1, q2, q3⟩ := hSw; go_simp <;> with_reducible rfl) ?_
        try simp only [Act.put, nA]
        refine tk (i := 6) (oi := ⟨some 63, .move (.tmp 13), 9, "law.go:258", #[⟨5, .guard⟩], some (5, true)⟩) (hy := by intro w hSw; (try dsimp only at hSw); obtain ⟨q0, q1, q2, q3⟩ := hSw; go_simp <;> with_reducible rfl) ?_
        try simp only [Act.put, nA]
        refine tk (i := 7) (oi := ⟨some 64, .move (.tmp 14), 9, "law.go:258", #[⟨5, .guard⟩], some (5, true)⟩) (hy := by intro w hSw; (try dsimp only at hSw); obtain ⟨q0, q1, q2, q3⟩ := hSw; go_simp <;> with_reducible rfl) ?_
        try simp only [Act.put, nA]
        refine tk (i := 8) (oi := ⟨some 65, .call { callee := .builtin .len, args := #[.tmp 64], argTypes := #[9] }, 3, "law.go:258", #[⟨7, .data⟩, ⟨5, .guard⟩], some (5, true)⟩) (hy := by intro w hSw; (try dsimp only at hSw); obtain ⟨q0, q1, q2, q3⟩ := hSw; go_simp <;> with_reducible rfl) ?_
        try simp only [Act.put, nA]
        refine tk (i := 9) (oi := ⟨some 66, .slice 9 (.tmp 63) none (some (.tmp 65)) none, 9, "law.go:258", #[⟨6, .data⟩, ⟨8, .data⟩, ⟨5, .guard⟩], some (5, true)⟩) (hy := by intro w hSw; (try dsimp only at hSw); obtain ⟨q0, q1, q2, q3⟩ := hSw; go_simp <;> with_reducible rfl) ?_
        try simp only [Act.put, nA]
        refine tk (i := 10) (oi := ⟨some 67, .move (.tmp 14), 9, "law.go:258", #[⟨5, .guard⟩], some (5, true)⟩) (hy := by intro w hSw; (try dsimp only at hSw); obtain ⟨q0, q1, q2, q3⟩ := hSw; go_simp <;> with_reducible rfl) ?_
        try simp only [Act.put, nA]
        refine tk (i := 11) (oi := ⟨some 68, .binOp .eql 9 (.tmp 66) (.tmp 67) 9, 4, "law.go:258", #[⟨9, .data⟩, ⟨10, .data⟩, ⟨5, .guard⟩], some (5, true)⟩) (hy := by intro w hSw; (try dsimp only at hSw); obtain ⟨q0, q1, q2, q3⟩ := hSw; go_simp <;> with_reducible rfl) ?_
        try simp only [Act.put, nA]
        refine tk (i := 12) (oi := ⟨some 69, .pick (.tmp 62) (.tmp 68) (.const (.bool false)), 4, "law.go:258", #[⟨5, .data⟩, ⟨11, .data⟩], none⟩) (hy := by intro w hSw; (try dsimp only at hSw); obtain ⟨q0, q1, q2, q3⟩ := hSw; go_simp <;> with_reducible rfl) ?_
        try simp only [Act.put, nA]
        refine tk (i := 13) (oi := ⟨some 70, .move (.tmp 69), 4, "law.go:258", #[⟨12, .data⟩, ⟨5, .chain⟩], none⟩) (hy := by intro w hSw; (try dsimp only at hSw); obtain ⟨q0, q1, q2, q3⟩ := hSw; go_simp <;> with_reducible rfl) ?_
        try simp only [Act.put, nA]
        refine tk (i := 14) (oi := ⟨some 71, .move (.tmp 12), 9, "law.go:258", #[⟨13, .guard⟩], some (13, true)⟩) (hy := by intro w hSw; (try dsimp only at hSw); obtain ⟨q0, q1, q2, q3⟩ := hSw; go_simp <;> with_reducible rfl) ?_
        try simp only [Act.put, nA]
        refine tk (i := 15) (oi := ⟨some 72, .move (.tmp 13), 9, "law.go:258", #[⟨13, .guard⟩], some (13, true)⟩) (hy := by intro w hSw; (try dsimp only at hSw); obtain ⟨q0, q1, q2, q3⟩ := hSw; go_simp <;> with_reducible rfl) ?_
        try simp only [Act.put, nA]
        refine tk (i := 16) (oi := ⟨some 73, .move (.tmp 14), 9, "law.go:258", #[⟨13, .guard⟩], some (13, true)⟩) (hy := by intro w hSw; (try dsimp only at hSw); obtain ⟨q0, q1, q2, q3⟩ := hSw; go_simp <;> with_reducible rfl) ?_
        try simp only [Act.put, nA]
        refine tk (i := 17) (oi := ⟨some 74, .call { callee := .builtin .len, args := #[.tmp 73], argTypes := #[9] }, 3, "law.go:258", #[⟨16, .data⟩, ⟨13, .guard⟩], some (13, true)⟩) (hy := by intro w hSw; (try dsimp only at hSw); obtain ⟨q0, q1, q2, q3⟩ := hSw; go_simp <;> with_reducible rfl) ?_
        try simp only [Act.put, nA]
        refine tk (i := 18) (oi := ⟨some 75, .slice 9 (.tmp 72) (some (.tmp 74)) none none, 9, "law.go:258", #[⟨15, .data⟩, ⟨17, .data⟩, ⟨13, .guard⟩], some (13, true)⟩) (hy := by intro w hSw; (try dsimp only at hSw); obtain ⟨q0, q1, q2, q3⟩ := hSw; go_simp <;> with_reducible rfl) ?_
        try simp only [Act.put, nA]
        refine tk (i := 19) (oi := ⟨some 76, .binOp .add 9 (.tmp 71) (.tmp 75) 9, 9, "law.go:258", #[⟨14, .data⟩, ⟨18, .data⟩, ⟨13, .guard⟩], some (13, true)⟩) (hy := by intro w hSw; (try dsimp only at hSw); obtain ⟨q0, q1, q2, q3⟩ := hSw; go_simp <;> with_reducible rfl) ?_
        try simp only [Act.put, nA]
        refine tk (i := 20) (oi := ⟨some 77, .load 37 (.tmp 8), 37, "law.go:258", #[⟨13, .guard⟩], some (13, true)⟩) (hy := by intro w hSw; (try dsimp only at hSw); obtain ⟨q0, q1, q2, q3⟩ := hSw; go_simp <;> with_reducible rfl) ?_
        try simp only [Act.put, nA]
        refine wpAnyH_ready (rs := [21]) (by kernel_rfl) (by simp) ?_
        refine AllReadyH.cons (o := ⟨some 78, .call { callee := .value (.func 15), args := #[.tmp 77], argTypes := #[37] }, 9, "law.go:258", #[⟨20, .data⟩, ⟨13, .chain⟩, ⟨13, .guard⟩], some (13, true)⟩) rfl (fun K9 hK => ?_) AllReadyH.nil
        go_simp
        refine (PM.out _ hB2.out (hG.out.up hBw.out)).mono ?_
        rintro e y11 ⟨rfl, hb⟩
        replace hMb := Lib.hid (hMb.out.up hb)
        replace hBw := Lib.hid (hBw.out.trans (hb.mono hBw.out.size))
        replace hB2 := Lib.hid (hB2.out.trans (hb.mono hB2.out.size))
        clear hb
        go_wp2_with fail
        refine hK.out _ _ ?_ ?_
        · (try dsimp only); exact hMb.out.c
        clear hK K9 hHeld; intro hHeld
        try simp only [Act.put, nA]
        refine tk (i := 22) (oi := ⟨some 79, .binOp .eql 9 (.tmp 76) (.tmp 78) 9, 4, "law.go:258", #[⟨19, .data⟩, ⟨21, .data⟩, ⟨13, .guard⟩], some (13, true)⟩) (hy := by intro w hSw; (try dsimp only at hSw); obtain ⟨q0, q1, q2, q3⟩ := hSw; go_simp <;> with_reducible rfl) ?_
        try simp only [Act.put, nA]
        refine tk (i := 23) (oi := ⟨some 80, .pick (.tmp 70) (.tmp 79) (.const (.bool false)), 4, "law.go:258", #[⟨13, .data⟩, ⟨22, .data⟩], none⟩) (hy := by intro w hSw; (try dsimp only at hSw); obtain ⟨q0, q1, q2, q3⟩ := hSw; go_simp <;> with_reducible rfl) ?_
        try simp only [Act.put, nA]
        refine tk (i := 24) (oi := ⟨some 81, .move (.tmp 80), 4, "law.go:258", #[⟨23, .data⟩, ⟨21, .chain⟩], none⟩) (hy := by intro w hSw; (try dsimp only at hSw); obtain ⟨q0, q1, q2, q3⟩ := hSw; go_simp <;> with_reducible rfl) ?_
        try simp only [Act.put, nA]
        refine wpAnyH_ready (rs := [25]) (by kernel_rfl) (by simp) ?_
        refine AllReadyH.cons (o := ⟨some 82, .call { callee := .value (.func 13), args := #[], argTypes := #[] }, 4, "law.go:258", #[⟨24, .chain⟩, ⟨24, .guard⟩], some (24, true)⟩) rfl (fun K9 hK => ?_) AllReadyH.nil
        go_simp
        refine (KnC.out _ (hG.out.up hBw.out)).mono ?_
        rintro e y12 ⟨rfl, hb⟩
        replace hMb := Lib.hid (hMb.out.up hb)
        replace hBw := Lib.hid (hBw.out.trans (hb.mono hBw.out.size))
        replace hB2 := Lib.hid (hB2.out.trans (hb.mono hB2.out.size))
        clear hb
        go_wp2_with fail
        refine hK.out _ _ ?_ ?_
        · (try dsimp only); exact hMb.out.c
        clear hK K9 hHeld; intro hHeld
        try simp only [Act.put, nA]
        refine tk (i := 26) (oi := ⟨some 83, .pick (.tmp 81) (.tmp 82) (.const (.bool false)), 4, "law.go:258", #[⟨24, .data⟩, ⟨25, .data⟩], none⟩) (hy := by intro w hSw; (try dsimp only at hSw); obtain ⟨q0, q1, q2, q3⟩ := hSw; go_simp <;> with_reducible rfl) ?_
        try simp only [Act.put, nA]
        refine tk (i := 27) (oi := ⟨some 6, .assign (.tmp 83), 4, "law.go:258", #[⟨26, .data⟩, ⟨25, .chain⟩, ⟨0, .phase⟩, ⟨1, .phase⟩, ⟨2, .phase⟩, ⟨3, .phase⟩, ⟨4, .phase⟩, ⟨5, .phase⟩, ⟨6, .phase⟩, ⟨7, .phase⟩, ⟨8, .phase⟩, ⟨9, .phase⟩, ⟨10, .phase⟩, ⟨11, .phase⟩, ⟨12, .phase⟩, ⟨13, .phase⟩, ⟨14, .phase⟩, ⟨15, .phase⟩, ⟨16, .phase⟩, ⟨17, .phase⟩, ⟨18, .phase⟩, ⟨19, .phase⟩, ⟨20, .phase⟩, ⟨21, .phase⟩, ⟨22, .phase⟩, ⟨23, .phase⟩, ⟨24, .phase⟩, ⟨25, .phase⟩, ⟨26, .phase⟩], none⟩) (hy := by intro w hSw; (try dsimp only at hSw); obtain ⟨q0, q1, q2, q3⟩ := hSw; go_simp <;> with_reducible rfl) ?_
        try simp only [Act.put, nA]
        refine wpAnyH_done (by kernel_rfl) ?_ _
        go_wp2_with fail
        go_ret
        exact ⟨rfl, hBw.out⟩
end Wd
end Go.Proofs.YtkodnioheifalaaDoor
