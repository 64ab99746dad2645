/- The landed cache: what it does. -/
import Derived.Test.YtpilbpofikdkmaaZL
namespace Go.Proofs.Ytpilbpofikdkmaa
open Go.RowKit Go.Maps
set_option linter.unusedVariables false
set_option maxRecDepth 20000
namespace Wd
section
variable {w : World} {p mm mk h m a b : Nat} {A : Pl → Option Int} {B : Int → Option Pl}
theorem khits_c (H : ZQ w p mm mk h m a b A B) : Calls Try.prog 13 #[.pointer (some ⟨p, 0, none⟩)] w fun e w' => e = .returned (.int .i64 (h : Nat)) ∧ Below w.heap.size w w' := by
  have c2 := H.c2
  clear H
  go_enter Try.func13, Try.ntmps13
  go_wp2
  go_ret
  exact ⟨rfl, Below.refl _ _⟩
theorem kmisses_c (H : ZQ w p mm mk h m a b A B) : Calls Try.prog 14 #[.pointer (some ⟨p, 0, none⟩)] w fun e w' => e = .returned (.int .i64 (m : Nat)) ∧ Below w.heap.size w w' := by
  have c3 := H.c3
  clear H
  go_enter Try.func14, Try.ntmps14
  go_wp2
  go_ret
  exact ⟨rfl, Below.refl _ _⟩
theorem klen_c (H : ZQ w p mm mk h m a b A B) : Calls Try.prog 15 #[.pointer (some ⟨p, 0, none⟩)] w fun e w' => e = .returned (.int .i64 (b : Nat)) ∧ Below w.heap.size w w' := by
  have c1 := H.c1
  have hl := fun ty => H.mq.len ty
  clear H
  go_enter Try.func15, Try.ntmps15
  go_wp2
  go_ret
  exact ⟨rfl, Below.refl _ _⟩
theorem kclear_c (H : ZQ w p mm mk h m a b A B) : Calls Try.prog 17 #[.pointer (some ⟨p, 0, none⟩)] w fun e w' => e = .returned (.tuple #[]) ∧ ZQ w' p mm mk h m 0 0 (fun _ => none) (fun _ => none) ∧ Ch (FZ p mm mk) w w' := by
  have c0 := H.c0
  obtain ⟨w1, r1, hm1, hg1, hs1⟩ := H.mp.clear 0
  have H1 := H.meth hm1 hg1
  have c1 := H1.c1
  obtain ⟨w2, r2, hm2, hg2, hs2⟩ := H1.mq.clear 0
  have H2 := Lib.hid (H1.keys hm2 hg2)
  have hC := Lib.hid (((Ch.refl (FZ p mm mk) w).grown hg1 (Or.inr (Or.inl rfl))).grown hg2 (Or.inr (Or.inr rfl)))
  clear H H1 hm1 hg1 hs1 hm2 hg2 hs2
  go_enter Try.func17, Try.ntmps17
  go_wp2
  go_returns
  exact ⟨rfl, H2.out, hC.out⟩
theorem knew_c (w : World) : Calls Try.prog 10 #[] w fun e w' => ∃ p F, e = .returned (.pointer (some ⟨p, 0, none⟩)) ∧ CZ w' p S0 F ∧ (∀ k, F k → w.heap.size ≤ k) ∧ Below w.heap.size w w' := by
  have hm1 : (w.alloc (.map #[] 0)).heap.size = w.heap.size + 1 := by simp
  have hm2 : ((w.alloc (.map #[] 0)).alloc (.map #[] 0)).heap.size = w.heap.size + 1 + 1 := by simp
  have hp := heap_alloc_new ((w.alloc (.map #[] 0)).alloc (.map #[] 0)) (.cells #[.map (some w.heap.size), .map (some (w.heap.size + 1)), .int .i64 0, .int .i64 0] 47)
  have hB : Below w.heap.size w (((w.alloc (.map #[] 0)).alloc (.map #[] 0)).alloc (.cells #[.map (some w.heap.size), .map (some (w.heap.size + 1)), .int .i64 0, .int .i64 0] 47)) := (((Below.refl _ _).alloc (Nat.le_refl _) _).alloc (by omega) _).alloc (by omega) _
  have hk0 : ∀ i, i < w.heap.size + 1 + 1 → (((w.alloc (.map #[] 0)).alloc (.map #[] 0)).alloc (.cells #[.map (some w.heap.size), .map (some (w.heap.size + 1)), .int .i64 0, .int .i64 0] 47)).heap[i]? = ((w.alloc (.map #[] 0)).alloc (.map #[] 0)).heap[i]? := fun i hi => Below.heap_alloc _ _ _ (by omega)
  have h1 : ZQ (((w.alloc (.map #[] 0)).alloc (.map #[] 0)).alloc (.cells #[.map (some w.heap.size), .map (some (w.heap.size + 1)), .int .i64 0, .int .i64 0] 47)) (w.heap.size + 1 + 1) w.heap.size (w.heap.size + 1) 0 0 0 0 (fun _ => none) (fun _ => none) := by
    have hM := (((MapP.made w).same (Below.heap_alloc (w.alloc (.map #[] 0)) (.map #[] 0) w.heap.size (by omega))).same (hk0 w.heap.size (by omega)))
    have hQ := MapQ.made (w.alloc (.map #[] 0))
    rw [hm1] at hQ
    replace hQ := hQ.same (hk0 (w.heap.size + 1) (by omega))
    rw [hm2] at hp
    clear hk0 hB
    generalize ((w.alloc (.map #[] 0)).alloc (.map #[] 0)).alloc (.cells #[.map (some w.heap.size), .map (some (w.heap.size + 1)), .int .i64 0, .int .i64 0] 47) = W at *
    exact ⟨by simp [World.cell?, hp], by simp [World.cell?, hp], by simp [World.cell?, hp], by simp [World.cell?, hp], fun k => by simp [World.frozen?, hp], hM, hQ, by omega, by omega, by omega⟩
  clear hp hk0 hm1 hm2
  replace hB := Lib.hid hB
  replace h1 := Lib.hid h1
  have hmm := @run_makeMap Try.prog
  go_enter Try.func10, Try.ntmps10
  go_wp2
  go_ret
  refine ⟨w.heap.size + 1 + 1, FZ (w.heap.size + 1 + 1) w.heap.size (w.heap.size + 1), rfl, ⟨w.heap.size, w.heap.size + 1, ?_, fun j c k x h => (by cases h), rfl⟩, fun k hk => (by rcases hk with rfl | rfl | rfl <;> omega), hB.out⟩
  have := h1.out
  rw [← methM_clr, ← keyM_clr] at this
  exact this
theorem met_not {S : Cst} {c k : Int} (h : getB S c k = false) : getM S c k = -1 := by
  unfold getB hasT at h
  unfold getM metT
  cases e : S.L (lineR c k) with
  | none => rfl
  | some t =>
    obtain ⟨a, b, x⟩ := t
    rw [e] at h
    simp only at h ⊢
    rw [h]; rfl
theorem hasG (S : Cst) (c k : Int) : methM S.L (c, k) = if getB S c k = true then some (getM S c k) else none := rfl
set_option maxHeartbeats 16000000 in
theorem kget_c {S : Cst} (H : ZQ w p mm mk S.h S.m a b (methM S.L) B) {c k : Int} (hc : I64 c) (hk : I64 k) (hb : S.h + S.m < 1000000) : Calls Try.prog 12 #[.pointer (some ⟨p, 0, none⟩), .agg #[.int .i64 c, .int .i64 k]] w fun e w' => e = .returned (.tuple #[.int .i64 (getM S c k), .bool (getB S c k)]) ∧ ZQ w' p mm mk (getS S c k).h (getS S c k).m a b (methM S.L) B ∧ Ch (FZ p mm mk) w w' := by
  have hB := ((Below.refl w.heap.size w).alloc (Nat.le_refl _) (.cells #[.int .i64 c, .int .i64 k] 32)).drew
  have H1 := H.keep hB
  have hp : (w.alloc (.cells #[.int .i64 c, .int .i64 k] 32)).heap[w.heap.size]? = some (.cells #[.int .i64 c, .int .i64 k] 32 (0, 0)) := heap_alloc_new w _
  have k0 : (w.alloc (.cells #[.int .i64 c, .int .i64 k] 32)).cell? ⟨w.heap.size, 0, none⟩ = some (.int .i64 c) := by unfold World.cell?; rw [hp]; rfl
  have k1 : (w.alloc (.cells #[.int .i64 c, .int .i64 k] 32)).cell? ⟨w.heap.size, 1, none⟩ = some (.int .i64 k) := by unfold World.cell?; rw [hp]; rfl
  have c0 : (w.alloc (.cells #[.int .i64 c, .int .i64 k] 32)).cell? ⟨p, 0, none⟩ = some (.map (some mm)) := H1.c0
  have hl := H1.mp.look_ok (p := (c, k)) ⟨hc, hk⟩
  unfold plV at hl
  rw [hasG] at hl
  have hC := below_toCh (FZ p mm mk) hB
  clear hp H hB
  have key : ∀ (x y : Int) (t : Bool), (if t = true then (⟨S.L, S.h + 1, S.m⟩ : Cst) else ⟨S.L, S.h, S.m + 1⟩) = getS S c k → (t = true → y = x) → (t = false → y = -1) → (Instr.lookup 30 (.map (some mm)) (.agg #[.int .i64 c, .int .i64 k]) true).run Try.prog (w.alloc (.cells #[.int .i64 c, .int .i64 k] 32)).drew = .ok (.tuple #[.int .i64 x, .bool t]) (w.alloc (.cells #[.int .i64 c, .int .i64 k] 32)).drew → Calls Try.prog 12 #[.pointer (some ⟨p, 0, none⟩), .agg #[.int .i64 c, .int .i64 k]] w fun e w' => e = .returned (.tuple #[.int .i64 y, .bool t]) ∧ ZQ w' p mm mk (getS S c k).h (getS S c k).m a b (methM S.L) B ∧ Ch (FZ p mm mk) w w' := by
    clear hl
    intro x y t hS hy hy' hl
    have c2 := H1.c2
    have c3 := H1.c3
    have hz := H1.z
    have hlt := H1.lt p (Or.inl rfl)
    cases t with
    | true =>
      rw [if_pos rfl] at hS
      rw [← hS]
      replace hy := hy rfl
      subst hy
      clear hy' hS
      have H2 := Lib.hid H1.hit
      have hC2 := Lib.hid (hC.set ⟨p, 2, none⟩ (Or.inl rfl) (.int .i64 ((S.h + 1 : Nat) : Int)))
      replace hC := Lib.hid hC
      go_enter Try.func12, Try.ntmps12
      go_upto_region 1 with fail
      go_region
      go_wp2
      go_ret2
      exact ⟨rfl, H2.out, hC2.out⟩
    | false =>
      rw [if_neg Bool.false_ne_true] at hS
      rw [← hS]
      replace hy' := hy' rfl
      subst hy'
      clear hy hS
      have H2 := Lib.hid H1.miss
      have hC2 := Lib.hid (hC.set ⟨p, 3, none⟩ (Or.inl rfl) (.int .i64 ((S.m + 1 : Nat) : Int)))
      replace hC := Lib.hid hC
      clear H1
      go_enter Try.func12, Try.ntmps12
      go_upto_region 1 with fail
      go_region
      go_wp2
      go_ret2
      exact ⟨rfl, H2.out, hC2.out⟩
  by_cases ht : getB S c k = true
  · rw [if_pos ht] at hl
    rw [ht]
    exact key _ _ true (by unfold getS; rw [ht]) (fun _ => rfl) (fun h => by cases h) hl
  · rw [if_neg ht] at hl
    have ht' : getB S c k = false := by simpa using ht
    rw [ht']
    exact key _ _ false (by unfold getS; rw [ht']) (fun h => by cases h) (fun _ => met_not ht') hl
end
end Wd
end Go.Proofs.Ytpilbpofikdkmaa
