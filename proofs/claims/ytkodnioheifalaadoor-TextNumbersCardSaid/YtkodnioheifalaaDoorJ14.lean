/- Texts joined: TLV. -/
import Derived.Test.YtkodnioheifalaaDoorJ8
import Derived.Test.YtkodnioheifalaaDoorJ13
/- TextBack. -/
namespace Go.Proofs.YtkodnioheifalaaDoor
open Go.RowKit
set_option linter.unusedVariables false
set_option maxRecDepth 20000
namespace Wd
theorem joinL_ge : ∀ ls : List Bs, ls.length ≤ (joinL ls).length
  | [] => by simp
  | l :: ls => by
    have := joinL_ge ls
    rw [joinL_cons, List.length_append, List.length_cons, List.length_cons]
    omega
theorem insL_ge : ∀ C : List Int, C.length ≤ 2 * (insL C).length
  | [] => by simp
  | [b] => by simp [insL]
  | o :: a :: r => by have := insL_ge r; simp only [insL, List.length_cons]; omega
theorem printR_ge (a t : Int) (L : List (Int × Int)) (C : List Int) : L.length ≤ (printR a t L C).length ∧ C.length ≤ 2 * (printR a t L C).length := by
  have h1 := joinL_ge (lineR a t L C)
  have h2 := insL_ge C
  have h3 : (lineR a t L C).length = 1 + (L.length + (insL C).length) := by
    simp only [lineR, List.length_cons, List.length_append, List.length_map]
    omega
  unfold printR
  omega
/-- bytes that lie -/
structure SB (w : World) (q : Nat) (l : Bs) : Prop where
  mk ::
  at_ : ∀ (j : Nat) x, l[j]? = some x → w.cell? ⟨q, j, none⟩ = some (.int .u8 (x.toNat : Int))
theorem SB.up {w w2 : World} {q : Nat} {l : Bs} (h : SB w q l) (b : Below w.heap.size w w2) : SB w2 q l := ⟨fun j x hx => cell_up b (h.at_ j x hx)⟩
theorem SB.back {w : World} {q : Nat} {l : Bs} (h : SB w q l) (cap : Nat) : Sem.run Tryd.prog (convert 35 9 (.slice (some ⟨q, 0, none⟩) l.length cap)) w = .ok (.string (bs l)) w := by
  refine run_convert_bytes_back (P := Tryd.prog) w 35 9 5 ⟨q, 0, none⟩ cap l Tryd.underlying35 Tryd.underlying5 Tryd.underlying9 (fun j hj => ?_)
  have := h.at_ j l[j] (by simp)
  rw [show (⟨q, 0, none⟩ : Addr).add j = ⟨q, j, none⟩ by unfold Addr.add; split <;> simp_all]
  exact this
theorem row_at {l : Bs} (cap k : Nat) (x : UInt8) (hk : l[k]? = some x) : (bytesRow (bs l) cap)[k]? = some (Value.int .u8 (x.toNat : Int)) := by
  obtain ⟨h1, h2⟩ := List.getElem?_eq_some_iff.1 hk
  rw [bytesRow_at (bs l) cap k (by simpa [bs] using h1), ← h2]
  simp [bs]
theorem row_size (l : Bs) (cap : Nat) : l.length ≤ (bytesRow (bs l) cap).size := by
  unfold bytesRow
  rw [Array.size_append, Array.size_map]
  have : (bs l).data.size = l.length := by simp [bs]
  omega
/-- a text as bytes, one of them stored -/
theorem SB.born {w : World} {l : Bs} (cap k : Nat) (b : UInt8) (hk : k < l.length) :
    (∀ x, l[k]? = some x → (w.alloc (.cells (bytesRow (bs l) cap) 5 ((bytesRow (bs l) cap).size, (bytesRow (bs l) cap).size + 1))).cell? ⟨w.heap.size, k, none⟩ = some (.int .u8 (x.toNat : Int)))
    ∧ (w.alloc (.cells (bytesRow (bs l) cap) 5 ((bytesRow (bs l) cap).size, (bytesRow (bs l) cap).size + 1))).frozen? ⟨w.heap.size, k, none⟩ = false
    ∧ SB ((w.alloc (.cells (bytesRow (bs l) cap) 5 ((bytesRow (bs l) cap).size, (bytesRow (bs l) cap).size + 1))).setCell ⟨w.heap.size, k, none⟩ (.int .u8 (b.toNat : Int))) w.heap.size (l.set k b) := by
  have hh := heap_alloc_new w (.cells (bytesRow (bs l) cap) 5 ((bytesRow (bs l) cap).size, (bytesRow (bs l) cap).size + 1))
  have hz := row_size l cap
  refine ⟨fun x hx => (Lib.cell_of_heap hh k).trans (row_at cap k x hx), ?_, ⟨fun j x hx => ?_⟩⟩
  · unfold World.frozen?
    rw [hh]
    simp
    omega
  · have h9 := set_block _ w.heap.size k (.int .u8 (b.toNat : Int)) _ _ _ hh
    rw [Lib.cell_of_heap h9 j]
    rw [List.getElem?_set] at hx
    split at hx
    · next e =>
      subst e
      cases hx
      rw [Array.getElem?_setIfInBounds_self_of_lt (by omega)]
    · next e =>
      rw [Array.getElem?_setIfInBounds_ne e]
      exact row_at cap j x hx
set_option maxHeartbeats 64000000 in
theorem back_s {w : World} (hG : Gl w) {ad : Option Addr} {n cap : Nat} (HA : NumA w ad n) (hl : n ≤ 4611686018427387904) (a : Int) (ha : In64 a) (b : Int) (hb : In64 b) (c : Int) (hc0 : 0 ≤ c) (hc1 : c ≤ 255) : Calls Tryd.prog 4 #[.slice ad n cap, .int .i64 a, .int .i64 b, .int .u8 c] w fun e w' => e = .returned (.bool true) ∧ Below w.heap.size w w' := by
  have hcb := Lib.hid (byte_of ⟨hc0, hc1⟩)
  generalize UInt8.ofNat c.toNat = c8 at *
  have hPW := Lib.hid (fun w => within40_c a 0 8 ha.1 ha.2 (by omega) (by omega) (by omega) w)
  have hka := within_bd a 0 8 (by omega)
  generalize within a 0 8 = kk at *
  obtain ⟨k, rfl⟩ : ∃ k : Nat, kk = (k : Int) := ⟨kk.toNat, by omega⟩
  have k0 : (0 : Int) ≤ (k : Int) := by omega
  have k1 : (k : Int) < 9 := by omega
  have w1 : IntKind.i64.wrap (((9 : Nat) : Int) - 1) = 8 := by decide
  have w8 : IntKind.i64.wrap 8 = 8 := by decide
  have PU := Lib.hid (unit_t (tape_tp (cap := cap) HA hl))
  replace hG := Lib.hid hG
  clear HA
  go_enter Tryd.func4, Tryd.ntmps4
  go_wp2_with fail
  with_reducible refine PU.out.mono ?_
  rintro e wu ⟨vU, U, g, ucap, M, rfl, hU, hcg⟩
  have hBu := Lib.hid (unit_bel hcg)
  clear PU hcg
  obtain ⟨na, nc, ka, kc, oa, oc, rfl⟩ := hU.ex
  have hBa := (Below.refl wu.heap.size wu).alloc (Nat.le_refl _) (.cells #[.slice na U.names.length nc, .slice ka U.classes.length kc, .slice (some ⟨g, 0, none⟩) U.methods.length ucap, .slice oa U.objects.length oc, .int .i64 U.main] 27)
  have hUB : Hid ((wu.alloc (.cells #[.slice na U.names.length nc, .slice ka U.classes.length kc, .slice (some ⟨g, 0, none⟩) U.methods.length ucap, .slice oa U.objects.length oc, .int .i64 U.main] 27)).cell? ⟨wu.heap.size, 2, none⟩ = some (.slice (some ⟨g, 0, none⟩) U.methods.length ucap)) := Lib.hid (by simp)
  have hW1 := Lib.hid (hBu.out.trans (hBa.mono hBu.out.size))
  have hU1 := Lib.hid (hU.up hBa)
  clear hU hBu hBa
  go_upto_region 2 with fail
  generalize wu.alloc (.cells #[.slice na U.names.length nc, .slice ka U.classes.length kc, .slice (some ⟨g, 0, none⟩) U.methods.length ucap, .slice oa U.objects.length oc, .int .i64 U.main] 27) = W1 at *
  generalize wu.heap.size = q13 at *
  have hml := hU1.out.ml
  obtain ⟨⟨mM, lv, cv⟩, hMk⟩ : ∃ x, M[k]? = some x := ⟨M[k]'(by omega), by simp⟩
  obtain ⟨m0, m1, m2, m3, _, _, hl9, hc9⟩ := hU1.out.m hMk
  obtain ⟨la, lc, e1, _⟩ := hl9.form
  obtain ⟨ca, cc, e2, _⟩ := hc9.form
  simp only at m0 m1 m2 m3 e1 e2
  subst e1
  subst e2
  have hme := Lib.hid (hU1.out.me hMk)
  have hlen : Hid (mM.code.length ≤ 300 ∧ mM.lits.length ≤ 20) := Lib.hid (by
    have hk' : U.methods[k]? = some mM := by rw [← hU1.out.mm, List.getElem?_map, hMk]; rfl
    exact meth_len (hU1.out.ta.mts k mM hk'))
  have hgo : Hid (goM mM.args mM.temps mM.lits = true) := Lib.hid (by
    have hk' : U.methods[k]? = some mM := by rw [← hU1.out.mm, List.getElem?_map, hMk]; rfl
    exact meth_go (hU1.out.ta.mts k mM hk') (by have := hU1.out.ta.cl1; omega))
  have hps : Hid (1 ≤ mM.code.length) := Lib.hid (by
    have hk' : U.methods[k]? = some mM := by rw [← hU1.out.mm, List.getElem?_map, hMk]; rfl
    exact meth_pos (hU1.out.ta.mts k mM hk'))
  clear hl9 hc9
  have u2' := hUB.out
  have hlen9 : U.methods.length = 9 := hml.2
  rw [hlen9] at u2'
  have hC2 := Lib.hid (R2S.mk u2' m0 m1 m2 m3)
  clear hUB m0 m1 m2 m3 u2' hMk hml hU1
  go_cut [10] (fun v14 wx => ∃ q14 : Nat, v14 = .pointer (some ⟨q14, 0, none⟩) ∧ Hid (Mb wx q14 la lc ca cc mM) ∧ Hid (Below w.heap.size w wx))
  case first =>
    have hC := Lib.hid (hC2.out.up ((Below.refl _ _).drew))
    have hBa := (Below.refl W1.heap.size W1).alloc (Nat.le_refl _) (.cells #[.int .i64 mM.args, .int .i64 mM.temps, .slice la mM.lits.length lc, .slice ca mM.code.length cc] 37)
    have hBm := hBa.trans (((Below.refl _ (W1.alloc (.cells #[.int .i64 mM.args, .int .i64 mM.temps, .slice la mM.lits.length lc, .slice ca mM.code.length cc] 37))).drew).mono hBa.size)
    have hT : Hid (Mb (W1.alloc (.cells #[.int .i64 mM.args, .int .i64 mM.temps, .slice la mM.lits.length lc, .slice ca mM.code.length cc] 37)).drew W1.heap.size la lc ca cc mM) := Lib.hid ((Mb.born hme.out).up ((Below.refl _ _).drew))
    have hB := Lib.hid (hW1.out.trans (hBm.mono hW1.out.size))
    clear hBa hBm
    refine wp_region_held_drew (S := (fun wr' => wr'.cell? ⟨q13, 2, none⟩ = some (.slice (some ⟨g, 0, none⟩) 9 ucap) ∧ wr'.cell? ⟨g, k * 4, none⟩ = some (.int .i64 mM.args) ∧ wr'.cell? ⟨g, k * 4 + 1, none⟩ = some (.int .i64 mM.temps) ∧ wr'.cell? ⟨g, k * 4 + 2, none⟩ = some (.slice la mM.lits.length lc) ∧ wr'.cell? ⟨g, k * 4 + 3, none⟩ = some (.slice ca mM.code.length cc))) (by kernel_rfl) ?_ (fun hHeld => ?_)
    · (try dsimp only); exact hC.out.cs
    try simp only [Act.put, nA]
    refine tk (i := 0) (oi := ⟨some 22, .fieldAddr 27 (.tmp 9) 2, 0, "law.go:218", #[], none⟩) (hy := by intro w hSw; (try dsimp only at hSw); obtain ⟨q0, q1, q2, q3, q4⟩ := hSw; go_simp <;> with_reducible rfl) ?_
    try simp only [Act.put, nA]
    refine tk (i := 1) (oi := ⟨some 23, .load 24 (.tmp 22), 24, "law.go:218", #[⟨0, .data⟩], none⟩) (hy := by intro w hSw; (try dsimp only at hSw); obtain ⟨q0, q1, q2, q3, q4⟩ := hSw; go_simp <;> with_reducible rfl) ?_
    try simp only [Act.put, nA]
    refine tk (i := 2) (oi := ⟨some 24, .move (.tmp 1), 3, "law.go:218", #[], none⟩) (hy := by intro w hSw; (try dsimp only at hSw); obtain ⟨q0, q1, q2, q3, q4⟩ := hSw; go_simp <;> with_reducible rfl) ?_
    try simp only [Act.put, nA]
    refine tk (i := 3) (oi := ⟨some 25, .fieldAddr 27 (.tmp 9) 2, 0, "law.go:218", #[], none⟩) (hy := by intro w hSw; (try dsimp only at hSw); obtain ⟨q0, q1, q2, q3, q4⟩ := hSw; go_simp <;> with_reducible rfl) ?_
    try simp only [Act.put, nA]
    refine tk (i := 4) (oi := ⟨some 26, .load 24 (.tmp 25), 24, "law.go:218", #[⟨3, .data⟩], none⟩) (hy := by intro w hSw; (try dsimp only at hSw); obtain ⟨q0, q1, q2, q3, q4⟩ := hSw; go_simp <;> with_reducible rfl) ?_
    try simp only [Act.put, nA]
    refine tk (i := 5) (oi := ⟨some 27, .call { callee := .builtin .len, args := #[.tmp 26], argTypes := #[24] }, 3, "law.go:218", #[⟨4, .data⟩], none⟩) (hy := by intro w hSw; (try dsimp only at hSw); obtain ⟨q0, q1, q2, q3, q4⟩ := hSw; go_simp <;> with_reducible rfl) ?_
    try simp only [Act.put, nA]
    refine tk (i := 6) (oi := ⟨some 28, .binOp .sub 3 (.tmp 27) (.const (.int .i64 1)) 3, 3, "law.go:218", #[⟨5, .data⟩], none⟩) (hy := by intro w hSw; (try dsimp only at hSw); obtain ⟨q0, q1, q2, q3, q4⟩ := hSw; go_simp <;> with_reducible rfl) ?_
    try simp only [Act.put, nA]
    refine wpAnyH_ready (rs := [7, 10]) (by kernel_rfl) (by simp) ?_
    refine AllReadyH.cons (o := ⟨some 29, .call { callee := .value (.func 14), args := #[.tmp 24, .const (.int .i64 0), .tmp 28], argTypes := #[3, 3, 3] }, 3, "law.go:218", #[⟨2, .data⟩, ⟨6, .data⟩], none⟩) rfl (fun K9 hK => ?_) ?_
    · go_simp
      with_reducible refine (hPW.out _).mono ?_
      rintro e y1 ⟨rfl, hy1⟩
      subst y1
      go_wp2_with fail
      refine hK.out _ _ ?_ ?_
      · (try dsimp only); exact hC.out.cs
      clear hK K9 hHeld; intro hHeld
      try simp only [Act.put, nA]
      refine tk (i := 8) (oi := ⟨some 30, .indexAddr 24 (.tmp 23) (.tmp 29), 0, "law.go:218", #[⟨1, .data⟩, ⟨7, .data⟩], none⟩) (hy := by intro w hSw; (try dsimp only at hSw); obtain ⟨q0, q1, q2, q3, q4⟩ := hSw; go_simp <;> with_reducible rfl) ?_
      try simp only [Act.put, nA]
      refine tk (i := 9) (oi := ⟨some 31, .load 37 (.tmp 30), 37, "law.go:218", #[⟨8, .data⟩], none⟩) (hy := by intro w hSw; (try dsimp only at hSw); obtain ⟨q0, q1, q2, q3, q4⟩ := hSw; go_simp <;> with_reducible rfl) ?_
      try simp only [Act.put, nA]
      refine wpAnyH_ready (rs := [10]) (by kernel_rfl) (by simp) ?_
      refine AllReadyH.cons (o := ⟨some 10, .alloc 37, 0, "law.go:218", #[], none⟩) rfl (fun K9 hK => ?_) AllReadyH.nil
      go_simp
      replace hC := Lib.hid (hC.out.up ((Below.refl _ _).alloc (Nat.le_refl _) (.cells #[.int .i64 0, .int .i64 0, .slice none 0 0, .slice none 0 0] 37)))
      refine hK.out _ _ ?_ ?_
      · (try dsimp only); exact hC.out.cs
      clear hK K9 hHeld; intro hHeld
      try simp only [Act.put, nA]
      refine wpAnyH_ready (rs := [11]) (by kernel_rfl) (by simp) ?_
      refine AllReadyH.cons (o := ⟨none, .store 37 (.tmp 10) (.tmp 31), 0, "law.go:218", #[⟨10, .data⟩, ⟨9, .data⟩, ⟨7, .chain⟩, ⟨0, .phase⟩, ⟨1, .phase⟩, ⟨2, .phase⟩, ⟨3, .phase⟩, ⟨4, .phase⟩, ⟨5, .phase⟩, ⟨6, .phase⟩, ⟨7, .phase⟩, ⟨8, .phase⟩, ⟨9, .phase⟩, ⟨10, .phase⟩], none⟩) rfl (fun K9 hK => ?_) AllReadyH.nil
      go_simp
      replace hC := Lib.hid ((hC2.out.up ((Below.refl W1.heap.size W1).alloc (Nat.le_refl _) (.cells #[.int .i64 mM.args, .int .i64 mM.temps, .slice la mM.lits.length lc, .slice ca mM.code.length cc] 37))).up ((Below.refl _ _).drew))
      refine hK.out _ _ ?_ ?_
      · (try dsimp only); exact hC.out.cs
      clear hK K9 hHeld; intro hHeld
      try simp only [Act.put, nA]
      refine wpAnyH_done (by kernel_rfl) ?_ _
      go_wp2_with fail
      go_meet
      exact ⟨_, rfl, hT, hB⟩
    refine AllReadyH.cons (o := ⟨some 10, .alloc 37, 0, "law.go:218", #[], none⟩) rfl (fun K9 hK => ?_) ?_
    · go_simp
      replace hC := Lib.hid (hC.out.up ((Below.refl _ _).alloc (Nat.le_refl _) (.cells #[.int .i64 0, .int .i64 0, .slice none 0 0, .slice none 0 0] 37)))
      refine hK.out _ _ ?_ ?_
      · (try dsimp only); exact hC.out.cs
      clear hK K9 hHeld; intro hHeld
      try simp only [Act.put, nA]
      refine wpAnyH_ready (rs := [7]) (by kernel_rfl) (by simp) ?_
      refine AllReadyH.cons (o := ⟨some 29, .call { callee := .value (.func 14), args := #[.tmp 24, .const (.int .i64 0), .tmp 28], argTypes := #[3, 3, 3] }, 3, "law.go:218", #[⟨2, .data⟩, ⟨6, .data⟩], none⟩) rfl (fun K9 hK => ?_) AllReadyH.nil
      go_simp
      with_reducible refine (hPW.out _).mono ?_
      rintro e y1 ⟨rfl, hy1⟩
      subst y1
      go_wp2_with fail
      refine hK.out _ _ ?_ ?_
      · (try dsimp only); exact hC.out.cs
      clear hK K9 hHeld; intro hHeld
      try simp only [Act.put, nA]
      refine tk (i := 8) (oi := ⟨some 30, .indexAddr 24 (.tmp 23) (.tmp 29), 0, "law.go:218", #[⟨1, .data⟩, ⟨7, .data⟩], none⟩) (hy := by intro w hSw; (try dsimp only at hSw); obtain ⟨q0, q1, q2, q3, q4⟩ := hSw; go_simp <;> with_reducible rfl) ?_
      try simp only [Act.put, nA]
      refine tk (i := 9) (oi := ⟨some 31, .load 37 (.tmp 30), 37, "law.go:218", #[⟨8, .data⟩], none⟩) (hy := by intro w hSw; (try dsimp only at hSw); obtain ⟨q0, q1, q2, q3, q4⟩ := hSw; go_simp <;> with_reducible rfl) ?_
      try simp only [Act.put, nA]
      refine wpAnyH_ready (rs := [11]) (by kernel_rfl) (by simp) ?_
      refine AllReadyH.cons (o := ⟨none, .store 37 (.tmp 10) (.tmp 31), 0, "law.go:218", #[⟨10, .data⟩, ⟨9, .data⟩, ⟨7, .chain⟩, ⟨0, .phase⟩, ⟨1, .phase⟩, ⟨2, .phase⟩, ⟨3, .phase⟩, ⟨4, .phase⟩, ⟨5, .phase⟩, ⟨6, .phase⟩, ⟨7, .phase⟩, ⟨8, .phase⟩, ⟨9, .phase⟩, ⟨10, .phase⟩], none⟩) rfl (fun K9 hK => ?_) AllReadyH.nil
      go_simp
      replace hC := Lib.hid ((hC2.out.up ((Below.refl W1.heap.size W1).alloc (Nat.le_refl _) (.cells #[.int .i64 mM.args, .int .i64 mM.temps, .slice la mM.lits.length lc, .slice ca mM.code.length cc] 37))).up ((Below.refl _ _).drew))
      refine hK.out _ _ ?_ ?_
      · (try dsimp only); exact hC.out.cs
      clear hK K9 hHeld; intro hHeld
      try simp only [Act.put, nA]
      refine wpAnyH_done (by kernel_rfl) ?_ _
      go_wp2_with fail
      go_meet
      exact ⟨_, rfl, hT, hB⟩
    exact AllReadyH.nil
  case rest =>
    clear hC2 hme hW1
    obtain ⟨q14, rfl, hM, hB⟩ := hcut
    obtain ⟨a0, a1, a2, a3⟩ := hM.out.c
    obtain ⟨hl1, hl2⟩ := hlen.out
    have hcy : Hid (∀ x ∈ mM.code, 0 ≤ x ∧ x ≤ 255) := Lib.hid (by
      obtain ⟨_, _, _, _, e, _, hby⟩ := hM.out.v.ex
      cases e
      exact hby.bd)
    obtain ⟨P, hP⟩ : ∃ P, P = printR mM.args mM.temps mM.lits mM.code := ⟨_, rfl⟩
    have hP1 : P.length ≤ 26001 := by
      have := printR_len mM.args mM.temps mM.lits mM.code
      rw [hP]
      omega
    have hP0 : 1 ≤ P.length := by
      have : P ≠ [] := by rw [hP]; exact printR_nil
      cases hq : P with
      | nil => exact absurd hq this
      | cons x r => simp
    have hmm : Hid (∀ m2 : MethA, methEq m2 mM = decide (m2.args = mM.args ∧ m2.temps = mM.temps ∧ m2.lits = mM.lits ∧ m2.code = mM.code)) := Lib.hid (fun m2 => by unfold methEq; simp [Bool.decide_and])
    have hturn : Hid (∀ (k : Nat) (c0 : UInt8), P[k]? = some c0 → ∀ (S : TS) (n : Nat), parT (P.set k c8) = (S, n) → (n = 0 → printR S.a S.t S.L S.C = P.set k c8 ∧ ((S.a = mM.args ∧ S.t = mM.temps ∧ S.L = mM.lits ∧ S.C = mM.code) ↔ c8 = c0)) ∧ (n ≠ 0 → c8 ≠ c0 ∧ S = tz)) := Lib.hid (by
      intro k c0 hk S n h
      rw [hP] at hk h
      have := par_turned hgo.out hcy.out hk h
      rw [← hP] at this
      exact this)
    obtain ⟨kk, hkk⟩ := parT_print hgo.out hcy.out
    rw [← hP] at hkk
    have C1 : Hid (Calls Tryd.prog 15 #[.agg #[.int .i64 mM.args, .int .i64 mM.temps, .slice la mM.lits.length lc, .slice ca mM.code.length cc]] wc fun e w' => e = .returned (.string (bs P)) ∧ Below wc.heap.size wc w') := by
      have := print_c hM.out.v (hG.out.up hB.out) (by omega) (by omega)
      rw [← hP] at this
      exact Lib.hid this
    replace hP := Lib.hid hP
    have C2 := Lib.hid (fun w => by
      have := parse_c P (by omega) w
      rw [hkk] at this
      exact this)
    simp only at C2
    have C3 := Lib.hid (fun k w => parse_c (P.set k c8) (by rw [List.length_set]; omega) w)
    have hpsz : (bs P).size = P.length := bs_size P
    have hcv : ∀ w0 : World, Sem.run Tryd.prog (convert 9 35 (.string (bs P))) w0 = .ok (.slice (some ⟨w0.heap.size, 0, none⟩) P.length (grownCap w0 P.length 0 5)) (w0.drew.alloc (.cells (bytesRow (bs P) (grownCap w0 P.length 0 5)) 5 ((bytesRow (bs P) (grownCap w0 P.length 0 5)).size, (bytesRow (bs P) (grownCap w0 P.length 0 5)).size + 1))) := fun w0 => by
      rw [← hpsz]
      exact run_bytes_of_string w0 9 35 5 (bs P) rfl rfl rfl
    have hix : Hid (∀ (k : Nat) (c0 : UInt8) h, P[k]? = some c0 → (bs P)[k]'h = c0) := Lib.hid (fun k c0 h hk => by
      obtain ⟨h1, h2⟩ := List.getElem?_eq_some_iff.1 hk
      rw [← h2]
      simp [bs, ByteArray.getElem_eq_getElem_data])
    obtain ⟨N, hN⟩ : ∃ N, P.length = N := ⟨_, rfl⟩
    have hPB := Lib.hid (fun w => within40_c b 0 ((N : Int) - 1) hb.1 hb.2 (by omega) (by omega) (by omega) w)
    have hkb := within_bd b 0 ((N : Int) - 1) (by omega)
    generalize within b 0 ((N : Int) - 1) = kb at *
    obtain ⟨x, rfl⟩ : ∃ x : Nat, kb = (x : Int) := ⟨kb.toNat, by omega⟩
    have x0 : (0 : Int) ≤ (x : Int) := by omega
    have x1 : (x : Int) < (N : Int) := by omega
    have x2 : x < N := by omega
    have wN : IntKind.i64.wrap ((N : Int) - 1) = (N : Int) - 1 := IntWalk.i64_in _ (by omega)
    obtain ⟨c0, hc0'⟩ : ∃ c0, P[x]? = some c0 := ⟨P[x]'(by omega), by simp⟩
    have hbrn := Lib.hid (fun (wq : World) (capq : Nat) => SB.born (w := wq) capq x c8 (by omega : x < P.length))
    have hset : (P.set x c8).length = N := by rw [List.length_set, hN]
    have hxi := fun h => hix.out x c0 h hc0'
    have hn0 : ((N : Int) == 0) = false := by simp; omega
    clear hkb
    rw [hN] at hpsz hcv
    go_upto_region 4 with (go_at_call 15; (with_reducible refine C1.out.mono ?_); rintro e y1 ⟨rfl, hb⟩)
    clear a0 a1 a2 a3 C1
    replace hM := Lib.hid (hM.out.up hb)
    replace hB := Lib.hid (hB.out.trans (hb.mono hB.out.size))
    clear hb
    go_upto_region 5 with (go_at_call 12; (with_reducible refine (C2.out _).mono ?_); rintro e y2 ⟨⟨xv, rfl, hxv⟩, hb⟩; obtain ⟨lx, lxc, cx, cxc, rfl, hX⟩ := me_form hxv)
    replace hM := Lib.hid (hM.out.up hb)
    replace hB := Lib.hid (hB.out.trans (hb.mono hB.out.size))
    clear hb
    have hX1 : Hid (Mb (y2.alloc (.cells #[.int .i64 mM.args, .int .i64 mM.temps, .slice lx mM.lits.length lxc, .slice cx mM.code.length cxc] 37)) y2.heap.size lx lxc cx cxc mM) := Lib.hid (Mb.born (m := mM) hX)
    have hba := (Below.refl y2.heap.size y2).alloc (Nat.le_refl _) (.cells #[.int .i64 mM.args, .int .i64 mM.temps, .slice lx mM.lits.length lxc, .slice cx mM.code.length cxc] 37)
    replace hM := Lib.hid (hM.out.up hba)
    replace hB := Lib.hid (hB.out.trans (hba.mono hB.out.size))
    clear hba hX hxv C2
    generalize y2.alloc (.cells #[.int .i64 mM.args, .int .i64 mM.temps, .slice lx mM.lits.length lxc, .slice cx mM.code.length cxc] 37) = W2 at *
    generalize y2.heap.size = q3 at *
    obtain ⟨a0, a1, a2, a3⟩ := hM.out.c
    obtain ⟨b0, b1, b2, b3⟩ := hX1.out.c
    have C4 : Hid (Calls Tryd.prog 16 #[.agg #[.int .i64 mM.args, .int .i64 mM.temps, .slice lx mM.lits.length lxc, .slice cx mM.code.length cxc], .agg #[.int .i64 mM.args, .int .i64 mM.temps, .slice la mM.lits.length lc, .slice ca mM.code.length cc]] W2 fun e w' => e = .returned (.bool true) ∧ Below W2.heap.size W2 w') := by
      have := rsamem_c hX1.out.v hM.out.v
      rw [meq5 rfl rfl rfl rfl] at this
      exact Lib.hid this
    go_upto_region 7 with (go_at_call 16; (with_reducible refine C4.out.mono ?_); rintro e y3 ⟨rfl, hb⟩)
    replace hM := Lib.hid (hM.out.up hb)
    replace hB := Lib.hid (hB.out.trans (hb.mono hB.out.size))
    clear hb C4 a0 a1 a2 a3 b0 b1 b2 b3 hX1
    go_upto_region 8 with fail
    obtain ⟨d1, f1, hS⟩ := hbrn.out y3 (grownCap y3 N 0 5)
    have hba := (Below.refl y3.heap.size y3).alloc (Nat.le_refl _) (.cells (bytesRow (bs P) (grownCap y3 N 0 5)) 5 ((bytesRow (bs P) (grownCap y3 N 0 5)).size, (bytesRow (bs P) (grownCap y3 N 0 5)).size + 1))
    replace hba := Lib.hid (hba.setCell (Nat.le_refl _) (p := ⟨y3.heap.size, x, none⟩) (.int .u8 (c8.toNat : Int)))
    replace d1 := d1 c0 hc0'
    replace hS := Lib.hid hS
    rw [hcb.out] at hba hS
    clear hbrn hcv
    generalize y3.alloc (.cells (bytesRow (bs P) (grownCap y3 N 0 5)) 5 ((bytesRow (bs P) (grownCap y3 N 0 5)).size, (bytesRow (bs P) (grownCap y3 N 0 5)).size + 1)) = W8 at *
    generalize grownCap y3 N 0 5 = cq at *
    go_upto_region 9 with (go_at_call 14; (with_reducible refine (hPB.out _).mono ?_); rintro e y4 ⟨rfl, hy4⟩; subst y4)
    go_upto_region 10 with fail
    replace hba := Lib.hid hba.out.drew
    replace hS := Lib.hid (hS.out.up ((Below.refl _ _).drew))
    replace hM := Lib.hid (hM.out.up hba.out)
    replace hB := Lib.hid (hB.out.trans (hba.out.mono hB.out.size))
    clear hba d1 f1 hPB
    generalize y3.heap.size = q4 at *
    generalize (W8.setCell ⟨q4, x, none⟩ (.int .u8 c)).drew = W9 at *
    obtain ⟨S, nn, hr⟩ : ∃ S nn, parT (P.set x c8) = (S, nn) := ⟨_, _, rfl⟩
    have C5 := Lib.hid (C3.out x)
    rw [hr] at C5
    simp only at C5
    have hT2 := hturn.out x c0 hc0' S nn hr
    have hl26 : (P.set x c8).length ≤ 26001 := by rw [List.length_set]; omega
    clear C3 hturn hr
    generalize P.set x c8 = L2 at *
    have hbk := hS.out.back cq
    rw [hset] at hbk
    go_upto_region 11 with (go_at_call 12; (with_reducible refine (C5.out _).mono ?_); rintro e y5 ⟨⟨zv, rfl, hzv⟩, hb⟩; obtain ⟨lz, lzc, cz, czc, rfl, hZ⟩ := me_form hzv)
    replace hM := Lib.hid (hM.out.up hb)
    replace hS := Lib.hid (hS.out.up hb)
    replace hB := Lib.hid (hB.out.trans (hb.mono hB.out.size))
    clear hb hbk C5
    have hZ1 : Hid (Mb (y5.alloc (.cells #[.int .i64 S.a, .int .i64 S.t, .slice lz S.L.length lzc, .slice cz S.C.length czc] 37)) y5.heap.size lz lzc cz czc ⟨S.a, S.t, S.L, S.C⟩) := Lib.hid (Mb.born (m := ⟨S.a, S.t, S.L, S.C⟩) hZ)
    have hba := (Below.refl y5.heap.size y5).alloc (Nat.le_refl _) (.cells #[.int .i64 S.a, .int .i64 S.t, .slice lz S.L.length lzc, .slice cz S.C.length czc] 37)
    replace hM := Lib.hid (hM.out.up hba)
    replace hS := Lib.hid (hS.out.up hba)
    replace hB := Lib.hid (hB.out.trans (hba.mono hB.out.size))
    clear hba hZ hzv
    generalize y5.alloc (.cells #[.int .i64 S.a, .int .i64 S.t, .slice lz S.L.length lzc, .slice cz S.C.length czc] 37) = W6 at *
    generalize y5.heap.size = q6 at *
    have KnC := Lib.hid (fun y (hy : Gl y) => known_c hy)
    by_cases hn : nn = 0
    · subst hn
      obtain ⟨e1, e2⟩ := hT2.1 rfl
      have hge := printR_ge S.a S.t S.L S.C
      rw [e1] at hge
      have PZ := Lib.hid (fun y (b : Below W6.heap.size W6 y) (hy : Gl y) => print_c (hZ1.out.v.up b) hy (by simp only; omega) (by simp only; omega))
      simp only at PZ
      rw [e1] at PZ
      obtain ⟨B, hBq⟩ : ∃ B, B = decide (c8 = c0) := ⟨_, rfl⟩
      have gq : (c == (c0.toNat : Int)) = B := by
        rw [hBq, ← hcb.out]
        by_cases h : c8 = c0
        · rw [h]; simp
        · have : ¬ c8.toNat = c0.toNat := fun e => h (UInt8.toNat_inj.1 e)
          rw [decide_eq_false h]
          simp
          omega
      have hmB : methEq ⟨S.a, S.t, S.L, S.C⟩ mM = B := by
        rw [hmm.out, hBq]
        exact decide_eq_decide.2 e2
      have C6 := Lib.hid (fun (y : World) (b : Below W6.heap.size W6 y) => rsamem_c (hZ1.out.v.up b) (hM.out.v.up b))
      rw [hmB] at C6
      clear hmB hBq e1 e2 hge hT2 hmm
      have hB6 := Lib.hid (Below.refl W6.heap.size W6)
      have gT : ((bs L2).toList == (bs L2).toList) = true := by simp
      have gB : (B == B) = true := by simp
      go_upto_region 12 with fail
      have hSb : ∀ {y : World}, SB y q4 L2 → Sem.run Tryd.prog (convert 35 9 (.slice (some ⟨q4, 0, none⟩) N cq)) y = .ok (.string (bs L2)) y := fun h => by have := h.back cq; rw [hset] at this; exact this
      have hbb := (Below.refl W6.heap.size W6).drew
      replace hM := Lib.hid (hM.out.up hbb)
      replace hZ1 := Lib.hid (hZ1.out.up hbb)
      replace hS := Lib.hid (hS.out.up hbb)
      replace hB := Lib.hid (hB.out.trans (hbb.mono hB.out.size))
      replace hB6 := Lib.hid (hB6.out.trans (hbb.mono hB6.out.size))
      clear hbb
      refine wp_region_held_drew (S := (fun wr' => wr'.cell? ⟨q14, 0, none⟩ = some (.int .i64 mM.args) ∧ wr'.cell? ⟨q14, 1, none⟩ = some (.int .i64 mM.temps) ∧ wr'.cell? ⟨q14, 2, none⟩ = some (.slice la mM.lits.length lc) ∧ wr'.cell? ⟨q14, 3, none⟩ = some (.slice ca mM.code.length cc) ∧ wr'.cell? ⟨q6, 0, none⟩ = some (.int .i64 S.a) ∧ wr'.cell? ⟨q6, 1, none⟩ = some (.int .i64 S.t) ∧ wr'.cell? ⟨q6, 2, none⟩ = some (.slice lz S.L.length lzc) ∧ wr'.cell? ⟨q6, 3, none⟩ = some (.slice cz S.C.length czc) ∧ Sem.run Tryd.prog (convert 35 9 (.slice (some ⟨q4, 0, none⟩) N cq)) wr' = .ok (.string (bs L2)) wr')) (by kernel_rfl) ?_ (fun hHeld => ?_)
      · (try dsimp only); exact ⟨hM.out.c.1, hM.out.c.2.1, hM.out.c.2.2.1, hM.out.c.2.2.2, hZ1.out.c.1, hZ1.out.c.2.1, hZ1.out.c.2.2.1, hZ1.out.c.2.2.2, hSb hS.out⟩
      try simp only [Act.put, nA]
      refine tk (i := 0) (oi := ⟨some 71, .load 37 (.tmp 16), 37, "law.go:229", #[], none⟩) (hy := by intro w hSw; (try dsimp only at hSw); obtain ⟨q0, q1, q2, q3, q4, q5, q6, q7, q8⟩ := hSw; go_simp <;> with_reducible rfl) ?_
      try simp only [Act.put, nA]
      refine tk (i := 2) (oi := ⟨some 73, .move (.tmp 14), 35, "law.go:229", #[], none⟩) (hy := by intro w hSw; (try dsimp only at hSw); obtain ⟨q0, q1, q2, q3, q4, q5, q6, q7, q8⟩ := hSw; go_simp <;> with_reducible rfl) ?_
      try simp only [Act.put, nA]
      refine tk (i := 3) (oi := ⟨some 74, .convert 35 9 (.tmp 73), 9, "law.go:229", #[⟨2, .data⟩], none⟩) (hy := by intro w hSw; (try dsimp only at hSw); obtain ⟨q0, q1, q2, q3, q4, q5, q6, q7, q8⟩ := hSw; go_simp <;> with_reducible rfl) ?_
      try simp only [Act.put, nA]
      refine wpAnyH_ready (rs := [1]) (by kernel_rfl) (by simp) ?_
      refine AllReadyH.cons (o := ⟨some 72, .call { callee := .value (.func 15), args := #[.tmp 71], argTypes := #[37] }, 9, "law.go:229", #[⟨0, .data⟩], none⟩) rfl (fun K9 hK => ?_) AllReadyH.nil
      go_simp
      refine (PZ.out _ hB6.out (hG.out.up hB.out)).mono ?_
      rintro e y8 ⟨rfl, hbb⟩
      replace hM := Lib.hid (hM.out.up hbb)
      replace hZ1 := Lib.hid (hZ1.out.up hbb)
      replace hS := Lib.hid (hS.out.up hbb)
      replace hB := Lib.hid (hB.out.trans (hbb.mono hB.out.size))
      replace hB6 := Lib.hid (hB6.out.trans (hbb.mono hB6.out.size))
      clear hbb
      go_wp2_with fail
      refine hK.out _ _ ?_ ?_
      · (try dsimp only); exact ⟨hM.out.c.1, hM.out.c.2.1, hM.out.c.2.2.1, hM.out.c.2.2.2, hZ1.out.c.1, hZ1.out.c.2.1, hZ1.out.c.2.2.1, hZ1.out.c.2.2.2, hSb hS.out⟩
      clear hK K9 hHeld; intro hHeld
      try simp only [Act.put, nA]
      refine tk (i := 4) (oi := ⟨some 75, .binOp .eql 9 (.tmp 72) (.tmp 74) 9, 4, "law.go:229", #[⟨1, .data⟩, ⟨3, .data⟩], none⟩) (hy := by intro w hSw; (try dsimp only at hSw); obtain ⟨q0, q1, q2, q3, q4, q5, q6, q7, q8⟩ := hSw; go_simp <;> with_reducible rfl) ?_
      try simp only [Act.put, nA]
      refine tk (i := 5) (oi := ⟨some 76, .move (.tmp 75), 4, "law.go:229", #[⟨4, .data⟩, ⟨1, .chain⟩], none⟩) (hy := by intro w hSw; (try dsimp only at hSw); obtain ⟨q0, q1, q2, q3, q4, q5, q6, q7, q8⟩ := hSw; go_simp <;> with_reducible rfl) ?_
      try simp only [Act.put, nA]
      refine tk (i := 6) (oi := ⟨some 77, .load 37 (.tmp 16), 37, "law.go:229", #[⟨5, .guard⟩], some (5, true)⟩) (hy := by intro w hSw; (try dsimp only at hSw); obtain ⟨q0, q1, q2, q3, q4, q5, q6, q7, q8⟩ := hSw; go_simp <;> with_reducible rfl) ?_
      try simp only [Act.put, nA]
      refine tk (i := 7) (oi := ⟨some 78, .load 37 (.tmp 10), 37, "law.go:229", #[⟨5, .guard⟩], some (5, true)⟩) (hy := by intro w hSw; (try dsimp only at hSw); obtain ⟨q0, q1, q2, q3, q4, q5, q6, q7, q8⟩ := hSw; go_simp <;> with_reducible rfl) ?_
      try simp only [Act.put, nA]
      refine tk (i := 9) (oi := ⟨some 80, .move (.tmp 3), 5, "law.go:229", #[⟨5, .guard⟩], some (5, true)⟩) (hy := by intro w hSw; (try dsimp only at hSw); obtain ⟨q0, q1, q2, q3, q4, q5, q6, q7, q8⟩ := hSw; go_simp <;> with_reducible rfl) ?_
      try simp only [Act.put, nA]
      refine tk (i := 10) (oi := ⟨some 81, .move (.tmp 11), 9, "law.go:229", #[⟨5, .guard⟩], some (5, true)⟩) (hy := by intro w hSw; (try dsimp only at hSw); obtain ⟨q0, q1, q2, q3, q4, q5, q6, q7, q8⟩ := hSw; go_simp <;> with_reducible rfl) ?_
      try simp only [Act.put, nA]
      refine tk (i := 11) (oi := ⟨some 82, .move (.tmp 15), 3, "law.go:229", #[⟨5, .guard⟩], some (5, true)⟩) (hy := by intro w hSw; (try dsimp only at hSw); obtain ⟨q0, q1, q2, q3, q4, q5, q6, q7, q8⟩ := hSw; go_simp <;> with_reducible rfl) ?_
      try simp only [Act.put, nA]
      refine tk (i := 12) (oi := ⟨some 83, .index 9 (.tmp 81) (.tmp 82), 5, "law.go:229", #[⟨10, .data⟩, ⟨11, .data⟩, ⟨5, .guard⟩], some (5, true)⟩) (hy := by intro w hSw; (try dsimp only at hSw); obtain ⟨q0, q1, q2, q3, q4, q5, q6, q7, q8⟩ := hSw; go_simp <;> with_reducible rfl) ?_
      try simp only [Act.put, nA]
      refine tk (i := 13) (oi := ⟨some 84, .binOp .eql 5 (.tmp 80) (.tmp 83) 5, 4, "law.go:229", #[⟨9, .data⟩, ⟨12, .data⟩, ⟨5, .guard⟩], some (5, true)⟩) (hy := by intro w hSw; (try dsimp only at hSw); obtain ⟨q0, q1, q2, q3, q4, q5, q6, q7, q8⟩ := hSw; go_simp <;> with_reducible rfl) ?_
      try simp only [Act.put, nA]
      refine wpAnyH_ready (rs := [8]) (by kernel_rfl) (by simp) ?_
      refine AllReadyH.cons (o := ⟨some 79, .call { callee := .value (.func 16), args := #[.tmp 77, .tmp 78], argTypes := #[37, 37] }, 4, "law.go:229", #[⟨6, .data⟩, ⟨7, .data⟩, ⟨5, .chain⟩, ⟨5, .guard⟩], some (5, true)⟩) rfl (fun K9 hK => ?_) AllReadyH.nil
      go_simp
      refine (C6.out _ hB6.out).mono ?_
      rintro e y9 ⟨rfl, hbb⟩
      replace hM := Lib.hid (hM.out.up hbb)
      replace hZ1 := Lib.hid (hZ1.out.up hbb)
      replace hS := Lib.hid (hS.out.up hbb)
      replace hB := Lib.hid (hB.out.trans (hbb.mono hB.out.size))
      replace hB6 := Lib.hid (hB6.out.trans (hbb.mono hB6.out.size))
      clear hbb
      go_wp2_with fail
      refine hK.out _ _ ?_ ?_
      · (try dsimp only); exact ⟨hM.out.c.1, hM.out.c.2.1, hM.out.c.2.2.1, hM.out.c.2.2.2, hZ1.out.c.1, hZ1.out.c.2.1, hZ1.out.c.2.2.1, hZ1.out.c.2.2.2, hSb hS.out⟩
      clear hK K9 hHeld; intro hHeld
      try simp only [Act.put, nA]
      refine tk (i := 14) (oi := ⟨some 85, .binOp .eql 4 (.tmp 79) (.tmp 84) 4, 4, "law.go:229", #[⟨8, .data⟩, ⟨13, .data⟩, ⟨5, .guard⟩], some (5, true)⟩) (hy := by intro w hSw; (try dsimp only at hSw); obtain ⟨q0, q1, q2, q3, q4, q5, q6, q7, q8⟩ := hSw; go_simp <;> with_reducible rfl) ?_
      try simp only [Act.put, nA]
      refine tk (i := 15) (oi := ⟨some 86, .pick (.tmp 76) (.tmp 85) (.const (.bool false)), 4, "law.go:229", #[⟨5, .data⟩, ⟨14, .data⟩], none⟩) (hy := by intro w hSw; (try dsimp only at hSw); obtain ⟨q0, q1, q2, q3, q4, q5, q6, q7, q8⟩ := hSw; go_simp <;> with_reducible rfl) ?_
      try simp only [Act.put, nA]
      refine tk (i := 16) (oi := ⟨some 87, .move (.tmp 86), 4, "law.go:229", #[⟨15, .data⟩, ⟨8, .chain⟩], none⟩) (hy := by intro w hSw; (try dsimp only at hSw); obtain ⟨q0, q1, q2, q3, q4, q5, q6, q7, q8⟩ := hSw; go_simp <;> with_reducible rfl) ?_
      try simp only [Act.put, nA]
      refine wpAnyH_ready (rs := [17]) (by kernel_rfl) (by simp) ?_
      refine AllReadyH.cons (o := ⟨some 88, .call { callee := .value (.func 13), args := #[], argTypes := #[] }, 4, "law.go:229", #[⟨16, .chain⟩, ⟨16, .guard⟩], some (16, true)⟩) rfl (fun K9 hK => ?_) AllReadyH.nil
      go_simp
      refine (KnC.out _ (hG.out.up hB.out)).mono ?_
      rintro e y10 ⟨rfl, hbb⟩
      replace hM := Lib.hid (hM.out.up hbb)
      replace hZ1 := Lib.hid (hZ1.out.up hbb)
      replace hS := Lib.hid (hS.out.up hbb)
      replace hB := Lib.hid (hB.out.trans (hbb.mono hB.out.size))
      replace hB6 := Lib.hid (hB6.out.trans (hbb.mono hB6.out.size))
      clear hbb
      go_wp2_with fail
      refine hK.out _ _ ?_ ?_
      · (try dsimp only); exact ⟨hM.out.c.1, hM.out.c.2.1, hM.out.c.2.2.1, hM.out.c.2.2.2, hZ1.out.c.1, hZ1.out.c.2.1, hZ1.out.c.2.2.1, hZ1.out.c.2.2.2, hSb hS.out⟩
      clear hK K9 hHeld; intro hHeld
      try simp only [Act.put, nA]
      refine tk (i := 18) (oi := ⟨some 89, .pick (.tmp 87) (.tmp 88) (.const (.bool false)), 4, "law.go:229", #[⟨16, .data⟩, ⟨17, .data⟩], none⟩) (hy := by intro w hSw; (try dsimp only at hSw); obtain ⟨q0, q1, q2, q3, q4, q5, q6, q7, q8⟩ := hSw; go_simp <;> with_reducible rfl) ?_
      try simp only [Act.put, nA]
      refine tk (i := 19) (oi := ⟨some 8, .assign (.tmp 89), 4, "law.go:229", #[⟨18, .data⟩, ⟨17, .chain⟩, ⟨0, .phase⟩, ⟨1, .phase⟩, ⟨2, .phase⟩, ⟨3, .phase⟩, ⟨4, .phase⟩, ⟨5, .phase⟩, ⟨6, .phase⟩, ⟨7, .phase⟩, ⟨8, .phase⟩, ⟨9, .phase⟩, ⟨10, .phase⟩, ⟨11, .phase⟩, ⟨12, .phase⟩, ⟨13, .phase⟩, ⟨14, .phase⟩, ⟨15, .phase⟩, ⟨16, .phase⟩, ⟨17, .phase⟩, ⟨18, .phase⟩], none⟩) (hy := by intro w hSw; (try dsimp only at hSw); obtain ⟨q0, q1, q2, q3, q4, q5, q6, q7, q8⟩ := hSw; go_simp <;> with_reducible rfl) ?_
      try simp only [Act.put, nA]
      refine wpAnyH_done (by kernel_rfl) ?_ _
      go_wp2_with fail
      go_ret
      exact ⟨rfl, hB.out⟩
    · have g0 : ((nn : Int) == 0) = false := by simp; omega
      obtain ⟨e1, e2⟩ := hT2.2 hn
      have gq : (c == (c0.toNat : Int)) = false := by
        rw [← hcb.out]
        have : ¬ c8.toNat = c0.toNat := fun e => e1 (UInt8.toNat_inj.1 e)
        simp
        omega
      have gq2 : ¬ c = (c0.toNat : Int) := by simpa using gq
      have gq3 : (c != (c0.toNat : Int)) = true := by simpa using gq
      subst e2
      have C6 := Lib.hid (fun (y : World) (b : Below W6.heap.size W6 y) => rsamem_c (hZ1.out.v.up b) (me_zero y))
      rw [show methEq ⟨tz.a, tz.t, tz.L, tz.C⟩ ⟨0, 0, [], []⟩ = true from meq5 rfl rfl rfl rfl] at C6
      obtain ⟨z0, z1, z2, z3⟩ := hZ1.out.c
      have hB6 := Lib.hid (Below.refl W6.heap.size W6)
      clear hT2 hmm hZ1
      simp only [tz, List.length_nil] at z0 z1 z2 z3 C6 ⊢
      go_wp2_with (first
        | (go_at_call 16; (refine (C6.out _ (by first | exact hB6.out | exact hB6.out.drew)).mono ?_); rintro e y7 ⟨rfl, hbb⟩; (replace hB := Lib.hid (hB.out.trans (hbb.mono hB.out.size))); clear hbb)
        | (go_at_call 13; (refine (KnC.out _ (hG.out.up hB.out)).mono ?_); rintro e y8 ⟨rfl, hbb⟩; (replace hB := Lib.hid (hB.out.trans (hbb.mono hB.out.size))); clear hbb))
      trace_state
      go_ret
      exact ⟨rfl, hB.out⟩
end Wd
end Go.Proofs.YtkodnioheifalaaDoor
