/- The document's own instructions: is a method right? -/
import Derived.Test.YthlijmdohejheaaOInst
namespace Go.Proofs.Ythlijmdohejheaa
open Go.RowKit
set_option linter.unusedVariables false
set_option maxRecDepth 20000
namespace Wd
/-- a program in a box of its own -/
structure UnB (w : World) (q : Nat) (u : Value) (U : UnitA) (na ka ma oa : Option Addr) (nc kc mc oc : Nat) : Prop where
  e : u = .agg #[.slice na U.names.length nc, .slice ka U.classes.length kc, .slice ma U.methods.length mc, .slice oa U.objects.length oc, .int .i64 U.main]
  c0 : w.cell? ⟨q, 0, none⟩ = some (.slice na U.names.length nc)
  c1 : w.cell? ⟨q, 1, none⟩ = some (.slice ka U.classes.length kc)
  c2 : w.cell? ⟨q, 2, none⟩ = some (.slice ma U.methods.length mc)
  c3 : w.cell? ⟨q, 3, none⟩ = some (.slice oa U.objects.length oc)
  c4 : w.cell? ⟨q, 4, none⟩ = some (.int .i64 U.main)
  un : UnK w u U
theorem UnB.born {w : World} {U : UnitA} {na ka ma oa : Option Addr} {nc kc mc oc : Nat} (h : UnK w (.agg #[.slice na U.names.length nc, .slice ka U.classes.length kc, .slice ma U.methods.length mc, .slice oa U.objects.length oc, .int .i64 U.main]) U) : UnB (w.alloc (.cells #[.slice na U.names.length nc, .slice ka U.classes.length kc, .slice ma U.methods.length mc, .slice oa U.objects.length oc, .int .i64 U.main] 27)) w.heap.size (.agg #[.slice na U.names.length nc, .slice ka U.classes.length kc, .slice ma U.methods.length mc, .slice oa U.objects.length oc, .int .i64 U.main]) U na ka ma oa nc kc mc oc :=
  ⟨rfl, by simp, by simp, by simp, by simp, by simp, h.up ((Below.refl _ _).alloc (Nat.le_refl _) _)⟩
theorem UnB.up {w w1 : World} {q : Nat} {u : Value} {U : UnitA} {na ka ma oa : Option Addr} {nc kc mc oc : Nat} (h : UnB w q u U na ka ma oa nc kc mc oc) (b : Below w.heap.size w w1) : UnB w1 q u U na ka ma oa nc kc mc oc :=
  ⟨h.e, cell_up b h.c0, cell_up b h.c1, cell_up b h.c2, cell_up b h.c3, cell_up b h.c4, h.un.up b⟩
def metT (m : MethA) (nn nc nm : Nat) : Int := if m.lits.all (fun x => litR x nn nc nm) = false then 12 else if insF m (m.code.length / 2) 0 = false then 12 else 0
theorem met_long {m : MethA} {nn nc nm : Nat} (h : m.code.length > 128 ∨ m.lits.length > 16 ∨ m.args < 0 ∨ m.temps < 0 ∨ m.args > 8 ∨ m.temps > 8 - m.args) : metR m nn nc nm = 3 := if_pos h
theorem met_len {m : MethA} {nn nc nm : Nat} (h : ¬ (m.code.length > 128 ∨ m.lits.length > 16 ∨ m.args < 0 ∨ m.temps < 0 ∨ m.args > 8 ∨ m.temps > 8 - m.args)) (h2 : m.code.length < 2 ∨ m.code.length % 2 ≠ 0) : metR m nn nc nm = 12 := by
  unfold metR; rw [if_neg h, if_pos h2]
theorem met_last {m : MethA} {nn nc nm : Nat} (h : ¬ (m.code.length > 128 ∨ m.lits.length > 16 ∨ m.args < 0 ∨ m.temps < 0 ∨ m.args > 8 ∨ m.temps > 8 - m.args)) (h2 : ¬ (m.code.length < 2 ∨ m.code.length % 2 ≠ 0)) (h3 : byAt m.code (m.code.length - 2) ≠ 14 ∧ byAt m.code (m.code.length - 2) ≠ 19 ∧ byAt m.code (m.code.length - 2) ≠ 16) : metR m nn nc nm = 12 := by
  unfold metR; rw [if_neg h, if_neg h2, if_pos h3]
theorem met_t {m : MethA} {nn nc nm : Nat} (h : ¬ (m.code.length > 128 ∨ m.lits.length > 16 ∨ m.args < 0 ∨ m.temps < 0 ∨ m.args > 8 ∨ m.temps > 8 - m.args)) (h2 : ¬ (m.code.length < 2 ∨ m.code.length % 2 ≠ 0)) (h3 : ¬ (byAt m.code (m.code.length - 2) ≠ 14 ∧ byAt m.code (m.code.length - 2) ≠ 19 ∧ byAt m.code (m.code.length - 2) ≠ 16)) : metR m nn nc nm = metT m nn nc nm := by
  unfold metR; rw [if_neg h, if_neg h2, if_neg h3]; rfl
theorem metT_lit {m : MethA} {nn nc nm : Nat} (h : m.lits.all (fun x => litR x nn nc nm) = false) : metT m nn nc nm = 12 := if_pos h
theorem metT_ins {m : MethA} {nn nc nm : Nat} (h : m.lits.all (fun x => litR x nn nc nm) = true) (h2 : insF m (m.code.length / 2) 0 = false) : metT m nn nc nm = 12 := by
  unfold metT; rw [if_neg (by rw [h]; decide), if_pos h2]
theorem metT_ok {m : MethA} {nn nc nm : Nat} (h : m.lits.all (fun x => litR x nn nc nm) = true) (h2 : insF m (m.code.length / 2) 0 = true) : metT m nn nc nm = 0 := by
  unfold metT; rw [if_neg (by rw [h]; decide), if_neg (by rw [h2]; decide)]
theorem all_next {α : Type} {L : List α} {f : α → Bool} {k : Nat} {x : α} (h : L[k]? = some x) : (L.drop k).all f = (f x && (L.drop (k + 1)).all f) := by
  obtain ⟨hk, e⟩ := List.getElem?_eq_some_iff.1 h
  rw [← e, List.drop_eq_getElem_cons hk, List.all_cons]
theorem ins_next {m : MethA} {N j : Nat} (h : j < N) : insF m (N - j) (2 * j) = (insR m ((2 * j : Nat) : Int) (byAt m.code (2 * j)) (byAt m.code (2 * j + 1)) && insF m (N - (j + 1)) (2 * (j + 1))) := by
  rw [show N - j = (N - (j + 1)) + 1 by omega, insF, show 2 * j + 2 = 2 * (j + 1) by omega]
/-- all that follows the first tests -/
structure MSt (w0 wr : World) (q q2 : Nat) (v u : Value) (m : MethA) (U : UnitA) (la ca na ka ma oa : Option Addr) (lc cc nc kc mc oc : Nat) : Prop where
  b : MeB wr q v m la ca lc cc
  u : UnB wr q2 u U na ka ma oa nc kc mc oc
  bel : Below w0.heap.size w0 wr
theorem MSt.up {w0 w w1 : World} {q q2 : Nat} {v u : Value} {m : MethA} {U : UnitA} {la ca na ka ma oa : Option Addr} {lc cc nc kc mc oc : Nat} (h : MSt w0 w q q2 v u m U la ca na ka ma oa lc cc nc kc mc oc) (b : Below w.heap.size w w1) : MSt w0 w1 q q2 v u m U la ca na ka ma oa lc cc nc kc mc oc :=
  ⟨h.b.up b, h.u.up b, h.bel.trans (b.mono h.bel.size)⟩
set_option maxHeartbeats 32000000 in
theorem rmeth_c {w : World} {v u : Value} {m : MethA} {U : UnitA} (h : MeV w v m) (hu : UnK w u U) :
    Calls Try.prog 24 #[v, u] w fun e w' => e = .returned (.int .i64 (metR m U.names.length U.classes.length U.methods.length)) ∧ Below w.heap.size w w' := by
  obtain ⟨la, lc, ca, cc, rfl, hl, hc⟩ := h.ex
  obtain ⟨na, nc, ka, kc, ma, mc, oa, oc, rfl, _⟩ := hu.ex
  have hw1 := (Below.refl w.heap.size w).alloc (Nat.le_refl _) (.cells #[.int .i64 m.args, .int .i64 m.temps, .slice la m.lits.length lc, .slice ca m.code.length cc] 37)
  have S0 : Hid (MSt w ((w.alloc (.cells #[.int .i64 m.args, .int .i64 m.temps, .slice la m.lits.length lc, .slice ca m.code.length cc] 37)).alloc (.cells #[.slice na U.names.length nc, .slice ka U.classes.length kc, .slice ma U.methods.length mc, .slice oa U.objects.length oc, .int .i64 U.main] 27)) w.heap.size (w.alloc (.cells #[.int .i64 m.args, .int .i64 m.temps, .slice la m.lits.length lc, .slice ca m.code.length cc] 37)).heap.size _ _ m U la ca na ka ma oa lc cc nc kc mc oc) := Lib.hid ⟨(MeB.born h).up ((Below.refl _ _).alloc (Nat.le_refl _) _), UnB.born (hu.up hw1), hw1.trans (((Below.refl _ _).alloc (Nat.le_refl _) _).mono hw1.size)⟩
  have hle := len_le hc.le
  have hle2 := len_le hl.le
  obtain ⟨p0, p1⟩ := h.a64
  obtain ⟨p2, p3⟩ := h.t64
  have i1 : (w.alloc (.cells #[.int .i64 m.args, .int .i64 m.temps, .slice la m.lits.length lc, .slice ca m.code.length cc] 37)).heap.size = w.heap.size + 1 := by simp
  rw [i1] at S0
  clear hl hc h hu hw1 i1
  have a0 := S0.out.b.c0
  have a1 := S0.out.b.c1
  have a2 := S0.out.b.c2
  have a3 := S0.out.b.c3
  obtain ⟨n, hn⟩ : ∃ n, n = m.code.length := ⟨_, rfl⟩
  obtain ⟨nl, hnl⟩ : ∃ n, n = m.lits.length := ⟨_, rfl⟩
  go_enter Try.func24, Try.ntmps24
  go_upto_region 1 with fail
  generalize (w.alloc (.cells #[.int .i64 m.args, .int .i64 m.temps, .slice la m.lits.length lc, .slice ca m.code.length cc] 37)).alloc (.cells #[.slice na U.names.length nc, .slice ka U.classes.length kc, .slice ma U.methods.length mc, .slice oa U.objects.length oc, .int .i64 U.main] 27) = W at *
  by_cases g1 : m.code.length > 128
  · have dg1 : decide ((m.code.length : Int) > 128) = true := by simp; omega
    have e := Lib.hid (met_long (m := m) (nn := U.names.length) (nc := U.classes.length) (nm := U.methods.length) (Or.inl g1))
    go_wp2
    go_ret
    exact ⟨by rw [e.out]; rfl, S0.out.bel⟩
  have dg1 : decide ((m.code.length : Int) > 128) = false := by simp; omega
  by_cases g2 : m.lits.length > 16
  · have dg2 : decide ((m.lits.length : Int) > 16) = true := by simp; omega
    have e := Lib.hid (met_long (m := m) (nn := U.names.length) (nc := U.classes.length) (nm := U.methods.length) (Or.inr (Or.inl g2)))
    go_wp2
    go_ret
    exact ⟨by rw [e.out]; rfl, S0.out.bel⟩
  have dg2 : decide ((m.lits.length : Int) > 16) = false := by simp; omega
  by_cases g3 : m.args < 0
  · have dg3 : decide (m.args < 0) = true := by simp; omega
    have e := Lib.hid (met_long (m := m) (nn := U.names.length) (nc := U.classes.length) (nm := U.methods.length) (Or.inr (Or.inr (Or.inl g3))))
    go_wp2
    go_ret
    exact ⟨by rw [e.out]; rfl, S0.out.bel⟩
  have dg3 : decide (m.args < 0) = false := by simp; omega
  by_cases g4 : m.temps < 0
  · have dg4 : decide (m.temps < 0) = true := by simp; omega
    have e := Lib.hid (met_long (m := m) (nn := U.names.length) (nc := U.classes.length) (nm := U.methods.length) (Or.inr (Or.inr (Or.inr (Or.inl g4)))))
    go_wp2
    go_ret
    exact ⟨by rw [e.out]; rfl, S0.out.bel⟩
  have dg4 : decide (m.temps < 0) = false := by simp; omega
  by_cases g5 : m.args > 8
  · have dg5 : decide (m.args > 8) = true := by simp; omega
    have e := Lib.hid (met_long (m := m) (nn := U.names.length) (nc := U.classes.length) (nm := U.methods.length) (Or.inr (Or.inr (Or.inr (Or.inr (Or.inl g5))))))
    go_wp2
    go_ret
    exact ⟨by rw [e.out]; rfl, S0.out.bel⟩
  have dg5 : decide (m.args > 8) = false := by simp; omega
  have wk : IntKind.i64.wrap (8 - m.args) = 8 - m.args := by rw [IntKind.wrap_i64]; omega
  by_cases g6 : m.temps > 8 - m.args
  · have dg6 : decide (m.temps > 8 - m.args) = true := by simp; omega
    have e := Lib.hid (met_long (m := m) (nn := U.names.length) (nc := U.classes.length) (nm := U.methods.length) (Or.inr (Or.inr (Or.inr (Or.inr (Or.inr g6))))))
    go_wp2
    go_ret
    exact ⟨by rw [e.out]; rfl, S0.out.bel⟩
  have dg6 : decide (m.temps > 8 - m.args) = false := by simp; omega
  have G : ¬ (m.code.length > 128 ∨ m.lits.length > 16 ∨ m.args < 0 ∨ m.temps < 0 ∨ m.args > 8 ∨ m.temps > 8 - m.args) := by omega
  have ha : 0 ≤ m.args ∧ m.args ≤ 8 := by omega
  have ht : 0 ≤ m.temps ∧ m.temps ≤ 8 := by omega
  go_upto_region 3 with fail
  clear dg1 dg2 dg3 dg4 dg5 dg6
  by_cases h2 : m.code.length < 2
  · have d2 : decide ((m.code.length : Int) < 2) = true := by simp; omega
    have e := Lib.hid (met_len (nn := U.names.length) (nc := U.classes.length) (nm := U.methods.length) G (Or.inl h2))
    go_wp2
    go_ret
    exact ⟨by rw [e.out]; rfl, S0.out.bel⟩
  have d2 : decide ((m.code.length : Int) < 2) = false := by simp; omega
  have hm := mod2 (n := m.code.length)
  rcases (show m.code.length % 2 = 1 ∨ m.code.length % 2 = 0 by omega) with h1 | h1
  · have e := Lib.hid (met_len (nn := U.names.length) (nc := U.classes.length) (nm := U.methods.length) G (Or.inr (by omega)))
    rw [h1] at hm
    replace hm : Int.tmod (m.code.length : Int) 2 = 1 := hm
    go_wp2
    go_ret
    exact ⟨by rw [e.out]; rfl, S0.out.bel⟩
  rw [h1] at hm
  replace hm : Int.tmod (m.code.length : Int) 2 = 0 := hm
  have H2 : ¬ (m.code.length < 2 ∨ m.code.length % 2 ≠ 0) := by omega
  go_upto_region 6 with fail
  obtain ⟨k, hk⟩ : ∃ k, k = m.code.length - 2 := ⟨_, rfl⟩
  have wm : IntKind.i64.wrap ((m.code.length : Int) - 2) = (k : Int) := by rw [IntKind.wrap_i64]; omega
  have k0 : (0 : Int) ≤ (k : Int) := by omega
  have k1 : (k : Int) < (m.code.length : Int) := by omega
  obtain ⟨bb, g, off, rfl, c0⟩ := S0.out.b.py.2.at (byAt_some (C := m.code) (k := k) (by omega))
  have L3 : byAt m.code k = byAt m.code (m.code.length - 2) := by rw [hk]
  have e1 := fun h => met_last (nn := U.names.length) (nc := U.classes.length) (nm := U.methods.length) G H2 h
  have e2 := fun h => met_t (nn := U.names.length) (nc := U.classes.length) (nm := U.methods.length) G H2 h
  rw [← L3] at e1 e2
  clear L3
  generalize byAt m.code k = x at *
  have wx : IntKind.i64.wrap x = x := by rw [IntKind.wrap_i64]; omega
  by_cases hx : x = 14 ∨ x = 19 ∨ x = 16
  · have e := Lib.hid (e2 (by omega))
    have hevn := Lib.hid h1
    have h128 := Lib.hid (show m.code.length ≤ 128 by omega)
    have hge2 := Lib.hid (show 2 ≤ m.code.length by omega)
    clear e1 e2 G H2 h2 hm hk h1 g1 g2 g3 g4 g5 g6 hn hnl
    rcases hx with rfl | rfl | rfl
    · have hst : Hid (m.lits.all (fun x => litR x U.names.length U.classes.length U.methods.length) = (m.lits.drop 0).all (fun x => litR x U.names.length U.classes.length U.methods.length)) := Lib.hid (by rw [List.drop_zero])
      go_upto_region 9 with fail
      clear c0 wm k0 k1 wx bb
      go_wp2
      go_loopw [73] (fun i73 wr => ∃ k : Nat, k ≤ m.lits.length ∧ i73 = .int .i64 k ∧ Hid (m.lits.all (fun x => litR x U.names.length U.classes.length U.methods.length) = (m.lits.drop k).all (fun x => litR x U.names.length U.classes.length U.methods.length)) ∧ Hid (MSt w wr w.heap.size (w.heap.size + 1) _ _ m U la (some ⟨g, off, none⟩) na ka ma oa lc cc nc kc mc oc)) (fun i73 _ => m.lits.length - (intOf i73).toNat)
      case atStart => exact ⟨0, by omega, rfl, hst, S0⟩
      case round =>
        clear hst S0 a0 a1 a2 a3
        obtain ⟨j, hj, rfl, hA, S⟩ := hrel
        by_cases hlt : j < m.lits.length
        · have d1 : decide ((j : Int) < (m.lits.length : Int)) = true := by simp; omega
          have j0 : (0 : Int) ≤ (j : Int) := by omega
          have j1 : (j : Int) < (m.lits.length : Int) := by omega
          obtain ⟨⟨lk, lx⟩, hx⟩ : ∃ x, m.lits[j]? = some x := ⟨m.lits[j]'hlt, by simp⟩
          obtain ⟨_, _, g', off', rfl, l0, l1⟩ := S.out.b.py.1.at hx
          have hnx := all_next (f := fun x => litR x U.names.length U.classes.length U.methods.length) hx
          have hS1 := S.out.up ((Below.refl _ _).alloc (Nat.le_refl _) (.cells #[.int .i64 lk, .int .i64 lx] 41))
          have PL := Lib.hid (rliteral_c hS1.u.un lk lx)
          replace hS1 := Lib.hid hS1
          have u0 := hS1.out.u.c0
          have u1 := hS1.out.u.c1
          have u2' := hS1.out.u.c2
          have u3 := hS1.out.u.c3
          have u4' := hS1.out.u.c4
          clear hx S
          cases hb : litR (lk, lx) U.names.length U.classes.length U.methods.length with
          | true =>
            rw [hb, Bool.true_and] at hnx
            rw [hb] at PL
            have hA' := Lib.hid (hA.out.trans hnx)
            clear hnx hb hA
            go_wp2_with fail
            with_reducible refine PL.out.mono ?_
            rintro e1 w2 ⟨rfl, hb2⟩
            go_wp2
            go_roundw
            case rel => exact ⟨j + 1, by omega, by go_num, hA', Lib.hid (hS1.out.up hb2)⟩
            case measure => simp [intOf]; omega
          | false =>
            rw [hb, Bool.false_and] at hnx
            rw [hb] at PL
            have eT := Lib.hid (metT_lit (m := m) (hA.out.trans hnx))
            clear hnx hb hA
            go_wp2_with fail
            with_reducible refine PL.out.mono ?_
            rintro e1 w2 ⟨rfl, hb2⟩
            go_wp2
            go_ret
            exact ⟨by rw [e.out, eT.out]; rfl, (hS1.out.up hb2).bel⟩
        · have d1 : decide ((j : Int) < (m.lits.length : Int)) = false := by simp; omega
          have hall := hA.out
          rw [show j = m.lits.length by omega, List.drop_length] at hall
          replace hall := Lib.hid (show m.lits.all (fun x => litR x U.names.length U.classes.length U.methods.length) = true from hall)
          clear hA
          obtain ⟨N, hN⟩ : ∃ N, N = m.code.length / 2 := ⟨_, rfl⟩
          have hN2 : m.code.length = 2 * N := by have := hevn.out; omega
          have hst2 : Hid (insF m (m.code.length / 2) 0 = insF m (N - 0) (2 * 0)) := Lib.hid (by rw [hN]; rfl)
          replace hN2 := Lib.hid hN2
          clear hN
          go_wp2
          go_loopw [9] (fun i9 wr => ∃ t : Nat, t ≤ N ∧ i9 = .int .i64 ((2 * t : Nat) : Int) ∧ Hid (insF m (m.code.length / 2) 0 = insF m (N - t) (2 * t)) ∧ Hid (MSt w wr w.heap.size (w.heap.size + 1) _ _ m U la (some ⟨g, off, none⟩) na ka ma oa lc cc nc kc mc oc)) (fun i9 _ => 2 * N - (intOf i9).toNat)
          case atStart => exact ⟨0, by omega, rfl, hst2, S⟩
          case round =>
            clear hst2 S
            obtain ⟨t, ht2, rfl, hI, S⟩ := hrel
            by_cases hlt2 : t < N
            · have d2' : decide (((2 * t : Nat) : Int) < (m.code.length : Int)) = true := by have := hN2.out; simp; omega
              have d3' : ((2 * t : Nat) : Int) < (m.code.length : Int) := by have := hN2.out; omega
              have wt : IntKind.i64.wrap (((2 * t : Nat) : Int) + 2) = ((2 * (t + 1) : Nat) : Int) := by have := h128.out; have := hN2.out; rw [IntKind.wrap_i64]; omega
              have PI := Lib.hid (rinst_c S.out.b.me (2 * t) h128.out (by have := hN2.out; omega) (by omega) ha ht)
              have hnx := ins_next (m := m) hlt2
              have q0 := S.out.b.c0
              have q1 := S.out.b.c1
              have q2 := S.out.b.c2
              have q3 := S.out.b.c3
              cases hb : insR m ((2 * t : Nat) : Int) (byAt m.code (2 * t)) (byAt m.code (2 * t + 1)) with
              | true =>
                rw [hb, Bool.true_and] at hnx
                rw [hb] at PI
                have hI' := Lib.hid (hI.out.trans hnx)
                clear hnx hb hI
                generalize hTT : ((2 * t : Nat) : Int) = tt at *
                go_wp2_with fail
                with_reducible refine PI.out.mono ?_
                rintro e1 w2 ⟨rfl, hb2⟩
                go_wp2
                go_roundw
                case rel => exact ⟨t + 1, by omega, rfl, hI', Lib.hid (S.out.up hb2)⟩
                case measure => subst hTT; simp [intOf]; have := hN2.out; omega
              | false =>
                rw [hb, Bool.false_and] at hnx
                rw [hb] at PI
                have eT := Lib.hid (metT_ins (m := m) hall.out (hI.out.trans hnx))
                clear hnx hb hI
                generalize hTT : ((2 * t : Nat) : Int) = tt at *
                go_wp2_with fail
                with_reducible refine PI.out.mono ?_
                rintro e1 w2 ⟨rfl, hb2⟩
                go_wp2
                go_ret
                exact ⟨by rw [e.out, eT.out]; rfl, (S.out.up hb2).bel⟩
            · have d2' : decide (((2 * t : Nat) : Int) < (m.code.length : Int)) = false := by have := hN2.out; simp; omega
              have d3' : ¬ ((2 * t : Nat) : Int) < (m.code.length : Int) := by have := hN2.out; omega
              have hI' := hI.out
              rw [show N - t = 0 by omega, insF] at hI'
              have eT := Lib.hid (metT_ok (m := m) hall.out hI')
              clear hI hI'
              generalize hTT : ((2 * t : Nat) : Int) = tt at *
              go_wp2
              go_ret
              exact ⟨by rw [e.out, eT.out]; rfl, S.out.bel⟩
    · have hst : Hid (m.lits.all (fun x => litR x U.names.length U.classes.length U.methods.length) = (m.lits.drop 0).all (fun x => litR x U.names.length U.classes.length U.methods.length)) := Lib.hid (by rw [List.drop_zero])
      go_upto_region 9 with fail
      clear c0 wm k0 k1 wx bb
      go_wp2
      go_loopw [73] (fun i73 wr => ∃ k : Nat, k ≤ m.lits.length ∧ i73 = .int .i64 k ∧ Hid (m.lits.all (fun x => litR x U.names.length U.classes.length U.methods.length) = (m.lits.drop k).all (fun x => litR x U.names.length U.classes.length U.methods.length)) ∧ Hid (MSt w wr w.heap.size (w.heap.size + 1) _ _ m U la (some ⟨g, off, none⟩) na ka ma oa lc cc nc kc mc oc)) (fun i73 _ => m.lits.length - (intOf i73).toNat)
      case atStart => exact ⟨0, by omega, rfl, hst, S0⟩
      case round =>
        clear hst S0 a0 a1 a2 a3
        obtain ⟨j, hj, rfl, hA, S⟩ := hrel
        by_cases hlt : j < m.lits.length
        · have d1 : decide ((j : Int) < (m.lits.length : Int)) = true := by simp; omega
          have j0 : (0 : Int) ≤ (j : Int) := by omega
          have j1 : (j : Int) < (m.lits.length : Int) := by omega
          obtain ⟨⟨lk, lx⟩, hx⟩ : ∃ x, m.lits[j]? = some x := ⟨m.lits[j]'hlt, by simp⟩
          obtain ⟨_, _, g', off', rfl, l0, l1⟩ := S.out.b.py.1.at hx
          have hnx := all_next (f := fun x => litR x U.names.length U.classes.length U.methods.length) hx
          have hS1 := S.out.up ((Below.refl _ _).alloc (Nat.le_refl _) (.cells #[.int .i64 lk, .int .i64 lx] 41))
          have PL := Lib.hid (rliteral_c hS1.u.un lk lx)
          replace hS1 := Lib.hid hS1
          have u0 := hS1.out.u.c0
          have u1 := hS1.out.u.c1
          have u2' := hS1.out.u.c2
          have u3 := hS1.out.u.c3
          have u4' := hS1.out.u.c4
          clear hx S
          cases hb : litR (lk, lx) U.names.length U.classes.length U.methods.length with
          | true =>
            rw [hb, Bool.true_and] at hnx
            rw [hb] at PL
            have hA' := Lib.hid (hA.out.trans hnx)
            clear hnx hb hA
            go_wp2_with fail
            with_reducible refine PL.out.mono ?_
            rintro e1 w2 ⟨rfl, hb2⟩
            go_wp2
            go_roundw
            case rel => exact ⟨j + 1, by omega, by go_num, hA', Lib.hid (hS1.out.up hb2)⟩
            case measure => simp [intOf]; omega
          | false =>
            rw [hb, Bool.false_and] at hnx
            rw [hb] at PL
            have eT := Lib.hid (metT_lit (m := m) (hA.out.trans hnx))
            clear hnx hb hA
            go_wp2_with fail
            with_reducible refine PL.out.mono ?_
            rintro e1 w2 ⟨rfl, hb2⟩
            go_wp2
            go_ret
            exact ⟨by rw [e.out, eT.out]; rfl, (hS1.out.up hb2).bel⟩
        · have d1 : decide ((j : Int) < (m.lits.length : Int)) = false := by simp; omega
          have hall := hA.out
          rw [show j = m.lits.length by omega, List.drop_length] at hall
          replace hall := Lib.hid (show m.lits.all (fun x => litR x U.names.length U.classes.length U.methods.length) = true from hall)
          clear hA
          obtain ⟨N, hN⟩ : ∃ N, N = m.code.length / 2 := ⟨_, rfl⟩
          have hN2 : m.code.length = 2 * N := by have := hevn.out; omega
          have hst2 : Hid (insF m (m.code.length / 2) 0 = insF m (N - 0) (2 * 0)) := Lib.hid (by rw [hN]; rfl)
          replace hN2 := Lib.hid hN2
          clear hN
          go_wp2
          go_loopw [9] (fun i9 wr => ∃ t : Nat, t ≤ N ∧ i9 = .int .i64 ((2 * t : Nat) : Int) ∧ Hid (insF m (m.code.length / 2) 0 = insF m (N - t) (2 * t)) ∧ Hid (MSt w wr w.heap.size (w.heap.size + 1) _ _ m U la (some ⟨g, off, none⟩) na ka ma oa lc cc nc kc mc oc)) (fun i9 _ => 2 * N - (intOf i9).toNat)
          case atStart => exact ⟨0, by omega, rfl, hst2, S⟩
          case round =>
            clear hst2 S
            obtain ⟨t, ht2, rfl, hI, S⟩ := hrel
            by_cases hlt2 : t < N
            · have d2' : decide (((2 * t : Nat) : Int) < (m.code.length : Int)) = true := by have := hN2.out; simp; omega
              have d3' : ((2 * t : Nat) : Int) < (m.code.length : Int) := by have := hN2.out; omega
              have wt : IntKind.i64.wrap (((2 * t : Nat) : Int) + 2) = ((2 * (t + 1) : Nat) : Int) := by have := h128.out; have := hN2.out; rw [IntKind.wrap_i64]; omega
              have PI := Lib.hid (rinst_c S.out.b.me (2 * t) h128.out (by have := hN2.out; omega) (by omega) ha ht)
              have hnx := ins_next (m := m) hlt2
              have q0 := S.out.b.c0
              have q1 := S.out.b.c1
              have q2 := S.out.b.c2
              have q3 := S.out.b.c3
              cases hb : insR m ((2 * t : Nat) : Int) (byAt m.code (2 * t)) (byAt m.code (2 * t + 1)) with
              | true =>
                rw [hb, Bool.true_and] at hnx
                rw [hb] at PI
                have hI' := Lib.hid (hI.out.trans hnx)
                clear hnx hb hI
                generalize hTT : ((2 * t : Nat) : Int) = tt at *
                go_wp2_with fail
                with_reducible refine PI.out.mono ?_
                rintro e1 w2 ⟨rfl, hb2⟩
                go_wp2
                go_roundw
                case rel => exact ⟨t + 1, by omega, rfl, hI', Lib.hid (S.out.up hb2)⟩
                case measure => subst hTT; simp [intOf]; have := hN2.out; omega
              | false =>
                rw [hb, Bool.false_and] at hnx
                rw [hb] at PI
                have eT := Lib.hid (metT_ins (m := m) hall.out (hI.out.trans hnx))
                clear hnx hb hI
                generalize hTT : ((2 * t : Nat) : Int) = tt at *
                go_wp2_with fail
                with_reducible refine PI.out.mono ?_
                rintro e1 w2 ⟨rfl, hb2⟩
                go_wp2
                go_ret
                exact ⟨by rw [e.out, eT.out]; rfl, (S.out.up hb2).bel⟩
            · have d2' : decide (((2 * t : Nat) : Int) < (m.code.length : Int)) = false := by have := hN2.out; simp; omega
              have d3' : ¬ ((2 * t : Nat) : Int) < (m.code.length : Int) := by have := hN2.out; omega
              have hI' := hI.out
              rw [show N - t = 0 by omega, insF] at hI'
              have eT := Lib.hid (metT_ok (m := m) hall.out hI')
              clear hI hI'
              generalize hTT : ((2 * t : Nat) : Int) = tt at *
              go_wp2
              go_ret
              exact ⟨by rw [e.out, eT.out]; rfl, S.out.bel⟩
    · have hst : Hid (m.lits.all (fun x => litR x U.names.length U.classes.length U.methods.length) = (m.lits.drop 0).all (fun x => litR x U.names.length U.classes.length U.methods.length)) := Lib.hid (by rw [List.drop_zero])
      go_upto_region 9 with fail
      clear c0 wm k0 k1 wx bb
      go_wp2
      go_loopw [73] (fun i73 wr => ∃ k : Nat, k ≤ m.lits.length ∧ i73 = .int .i64 k ∧ Hid (m.lits.all (fun x => litR x U.names.length U.classes.length U.methods.length) = (m.lits.drop k).all (fun x => litR x U.names.length U.classes.length U.methods.length)) ∧ Hid (MSt w wr w.heap.size (w.heap.size + 1) _ _ m U la (some ⟨g, off, none⟩) na ka ma oa lc cc nc kc mc oc)) (fun i73 _ => m.lits.length - (intOf i73).toNat)
      case atStart => exact ⟨0, by omega, rfl, hst, S0⟩
      case round =>
        clear hst S0 a0 a1 a2 a3
        obtain ⟨j, hj, rfl, hA, S⟩ := hrel
        by_cases hlt : j < m.lits.length
        · have d1 : decide ((j : Int) < (m.lits.length : Int)) = true := by simp; omega
          have j0 : (0 : Int) ≤ (j : Int) := by omega
          have j1 : (j : Int) < (m.lits.length : Int) := by omega
          obtain ⟨⟨lk, lx⟩, hx⟩ : ∃ x, m.lits[j]? = some x := ⟨m.lits[j]'hlt, by simp⟩
          obtain ⟨_, _, g', off', rfl, l0, l1⟩ := S.out.b.py.1.at hx
          have hnx := all_next (f := fun x => litR x U.names.length U.classes.length U.methods.length) hx
          have hS1 := S.out.up ((Below.refl _ _).alloc (Nat.le_refl _) (.cells #[.int .i64 lk, .int .i64 lx] 41))
          have PL := Lib.hid (rliteral_c hS1.u.un lk lx)
          replace hS1 := Lib.hid hS1
          have u0 := hS1.out.u.c0
          have u1 := hS1.out.u.c1
          have u2' := hS1.out.u.c2
          have u3 := hS1.out.u.c3
          have u4' := hS1.out.u.c4
          clear hx S
          cases hb : litR (lk, lx) U.names.length U.classes.length U.methods.length with
          | true =>
            rw [hb, Bool.true_and] at hnx
            rw [hb] at PL
            have hA' := Lib.hid (hA.out.trans hnx)
            clear hnx hb hA
            go_wp2_with fail
            with_reducible refine PL.out.mono ?_
            rintro e1 w2 ⟨rfl, hb2⟩
            go_wp2
            go_roundw
            case rel => exact ⟨j + 1, by omega, by go_num, hA', Lib.hid (hS1.out.up hb2)⟩
            case measure => simp [intOf]; omega
          | false =>
            rw [hb, Bool.false_and] at hnx
            rw [hb] at PL
            have eT := Lib.hid (metT_lit (m := m) (hA.out.trans hnx))
            clear hnx hb hA
            go_wp2_with fail
            with_reducible refine PL.out.mono ?_
            rintro e1 w2 ⟨rfl, hb2⟩
            go_wp2
            go_ret
            exact ⟨by rw [e.out, eT.out]; rfl, (hS1.out.up hb2).bel⟩
        · have d1 : decide ((j : Int) < (m.lits.length : Int)) = false := by simp; omega
          have hall := hA.out
          rw [show j = m.lits.length by omega, List.drop_length] at hall
          replace hall := Lib.hid (show m.lits.all (fun x => litR x U.names.length U.classes.length U.methods.length) = true from hall)
          clear hA
          obtain ⟨N, hN⟩ : ∃ N, N = m.code.length / 2 := ⟨_, rfl⟩
          have hN2 : m.code.length = 2 * N := by have := hevn.out; omega
          have hst2 : Hid (insF m (m.code.length / 2) 0 = insF m (N - 0) (2 * 0)) := Lib.hid (by rw [hN]; rfl)
          replace hN2 := Lib.hid hN2
          clear hN
          go_wp2
          go_loopw [9] (fun i9 wr => ∃ t : Nat, t ≤ N ∧ i9 = .int .i64 ((2 * t : Nat) : Int) ∧ Hid (insF m (m.code.length / 2) 0 = insF m (N - t) (2 * t)) ∧ Hid (MSt w wr w.heap.size (w.heap.size + 1) _ _ m U la (some ⟨g, off, none⟩) na ka ma oa lc cc nc kc mc oc)) (fun i9 _ => 2 * N - (intOf i9).toNat)
          case atStart => exact ⟨0, by omega, rfl, hst2, S⟩
          case round =>
            clear hst2 S
            obtain ⟨t, ht2, rfl, hI, S⟩ := hrel
            by_cases hlt2 : t < N
            · have d2' : decide (((2 * t : Nat) : Int) < (m.code.length : Int)) = true := by have := hN2.out; simp; omega
              have d3' : ((2 * t : Nat) : Int) < (m.code.length : Int) := by have := hN2.out; omega
              have wt : IntKind.i64.wrap (((2 * t : Nat) : Int) + 2) = ((2 * (t + 1) : Nat) : Int) := by have := h128.out; have := hN2.out; rw [IntKind.wrap_i64]; omega
              have PI := Lib.hid (rinst_c S.out.b.me (2 * t) h128.out (by have := hN2.out; omega) (by omega) ha ht)
              have hnx := ins_next (m := m) hlt2
              have q0 := S.out.b.c0
              have q1 := S.out.b.c1
              have q2 := S.out.b.c2
              have q3 := S.out.b.c3
              cases hb : insR m ((2 * t : Nat) : Int) (byAt m.code (2 * t)) (byAt m.code (2 * t + 1)) with
              | true =>
                rw [hb, Bool.true_and] at hnx
                rw [hb] at PI
                have hI' := Lib.hid (hI.out.trans hnx)
                clear hnx hb hI
                generalize hTT : ((2 * t : Nat) : Int) = tt at *
                go_wp2_with fail
                with_reducible refine PI.out.mono ?_
                rintro e1 w2 ⟨rfl, hb2⟩
                go_wp2
                go_roundw
                case rel => exact ⟨t + 1, by omega, rfl, hI', Lib.hid (S.out.up hb2)⟩
                case measure => subst hTT; simp [intOf]; have := hN2.out; omega
              | false =>
                rw [hb, Bool.false_and] at hnx
                rw [hb] at PI
                have eT := Lib.hid (metT_ins (m := m) hall.out (hI.out.trans hnx))
                clear hnx hb hI
                generalize hTT : ((2 * t : Nat) : Int) = tt at *
                go_wp2_with fail
                with_reducible refine PI.out.mono ?_
                rintro e1 w2 ⟨rfl, hb2⟩
                go_wp2
                go_ret
                exact ⟨by rw [e.out, eT.out]; rfl, (S.out.up hb2).bel⟩
            · have d2' : decide (((2 * t : Nat) : Int) < (m.code.length : Int)) = false := by have := hN2.out; simp; omega
              have d3' : ¬ ((2 * t : Nat) : Int) < (m.code.length : Int) := by have := hN2.out; omega
              have hI' := hI.out
              rw [show N - t = 0 by omega, insF] at hI'
              have eT := Lib.hid (metT_ok (m := m) hall.out hI')
              clear hI hI'
              generalize hTT : ((2 * t : Nat) : Int) = tt at *
              go_wp2
              go_ret
              exact ⟨by rw [e.out, eT.out]; rfl, S.out.bel⟩
  · have f14 : (x == 14) = false := by simp; omega
    have f19 : (x == 19) = false := by simp; omega
    have f16 : (x == 16) = false := by simp; omega
    have n14 : (x != 14) = true := by simp; omega
    have n19 : (x != 19) = true := by simp; omega
    have n16 : (x != 16) = true := by simp; omega
    have e := Lib.hid (e1 (by omega))
    clear hx e1 e2 hk hm H2 G h1 hn hnl
    go_wp2
    go_ret
    exact ⟨by rw [e.out]; rfl, S0.out.bel⟩
end Wd
end Go.Proofs.Ythlijmdohejheaa
