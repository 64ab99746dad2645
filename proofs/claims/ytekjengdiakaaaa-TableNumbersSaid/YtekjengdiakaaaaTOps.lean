/- The document's own table: Has, Take, Give, Swap. -/
import Derived.Test.YtekjengdiakaaaaTRef
namespace Go.Proofs.Ytekjengdiakaaaa
open Go.RowKit
set_option linter.unusedVariables false
namespace Wd
/-- w' is w, but for the blocks of F and new ones -/
structure Ch (F : Nat → Prop) (w w' : World) : Prop where
  os : w'.os = w.os
  tape : w'.tape = w.tape
  output : w'.output = w.output
  size : w.heap.size ≤ w'.heap.size
  block : ∀ k, k < w.heap.size → ¬ F k → w'.heap[k]? = w.heap[k]?
/-- F' has no block but those of F and new ones -/
def Newer (F F' : Nat → Prop) (s : Nat) : Prop := ∀ k, F' k → F k ∨ s ≤ k
theorem Ch.refl (F : Nat → Prop) (w : World) : Ch F w w := ⟨rfl, rfl, rfl, Nat.le_refl _, fun _ _ _ => rfl⟩
theorem Ch.trans {F : Nat → Prop} {w w1 w2 : World} (h : Ch F w w1) (g : Ch F w1 w2) : Ch F w w2 :=
  ⟨g.os.trans h.os, g.tape.trans h.tape, g.output.trans h.output, Nat.le_trans h.size g.size, fun k hk hF => (g.block k (Nat.lt_of_lt_of_le hk h.size) hF).trans (h.block k hk hF)⟩
theorem Ch.set {F : Nat → Prop} {w w1 : World} (h : Ch F w w1) (a : Addr) (ha : F a.block) (v : Value) : Ch F w (w1.setCell a v) :=
  ⟨h.os, h.tape, h.output, by simpa [World.setCell] using h.size, fun k hk hF => (Below.heap_setCell _ _ _ _ (fun e => hF (by rw [e]; exact ha))).trans (h.block k hk hF)⟩
theorem Ch.drew {F : Nat → Prop} {w w1 : World} (h : Ch F w w1) : Ch F w w1.drew := ⟨h.os, h.tape, h.output, h.size, h.block⟩
theorem below_toCh {w w' : World} (F : Nat → Prop) (b : Below w.heap.size w w') : Ch F w w' := ⟨b.os, b.tape, b.output, b.size, fun k hk _ => b.block k hk⟩
theorem below_ch {w wr w1 : World} {F : Nat → Prop} (h : Below w.heap.size w wr) (c : Ch F wr w1) (hF : ∀ k, F k → w.heap.size ≤ k) : Below w.heap.size w w1 :=
  ⟨c.os.trans h.os, c.tape.trans h.tape, c.output.trans h.output, Nat.le_trans h.size c.size, fun k hk => (c.block k (Nat.lt_of_lt_of_le hk h.size) (fun e => by have := hF k e; omega)).trans (h.block k hk)⟩
theorem Ch.mono {F G : Nat → Prop} {w w' : World} (h : Ch F w w') (hFG : ∀ k, F k → G k) : Ch G w w' := ⟨h.os, h.tape, h.output, h.size, fun k hk hn => h.block k hk (fun hF => hn (hFG k hF))⟩
section
variable {w : World} {b : Nat} {T : Tst}
theorem hasT_out {i : Int} (hi : ¬ (0 ≤ i ∧ i < 1024)) : hasT T i = false := by
  unfold hasT
  by_cases h : 0 ≤ i
  · rw [decide_eq_false (show ¬ i < 1024 by omega)]; simp
  · rw [decide_eq_false h]; simp
theorem hasT_in {k : Nat} (hk : k < 1024) : hasT T (k : Int) = inR T k := by
  unfold hasT inR
  rw [decide_eq_true (show (0 : Int) ≤ k by omega), decide_eq_true (show (k : Int) < 1024 by omega)]
  simp
theorem rhas_c (i : Int) (h : RefT w b T) :
    Calls Try.prog 25 #[.pointer (some ⟨b, 0, none⟩), .int .i64 i] w fun e w' => e = .returned (.bool (hasT T i)) ∧ w' = w := by
  by_cases h0 : 0 ≤ i
  · by_cases hn : i < 1024
    · obtain ⟨k, rfl⟩ : ∃ k : Nat, i = k := ⟨i.toNat, by omega⟩
      have hk : k < 1024 := by omega
      rw [hasT_in hk]
      have ci := h.ci k hk
      have d1 : decide ((k : Int) ≥ 0) = true := by simp
      have d2 : decide (0 ≤ (k : Int)) = true := by simp
      have d3 : decide ((k : Int) < 1024) = true := by simp; omega
      clear h
      generalize inR T k = x at *
      go_enter Try.func25, Try.ntmps25
      go_wp2
      go_ret
      exact ⟨by cases x <;> rfl, rfl⟩
    · rw [hasT_out (by omega)]
      have d1 : decide (i ≥ 0) = true := by simpa using h0
      have d2 : decide (0 ≤ i) = true := by simpa using h0
      have d3 : decide (i < 1024) = false := by simp; omega
      clear h
      go_enter Try.func25, Try.ntmps25
      go_wp2
      go_ret
      exact ⟨rfl, rfl⟩
  · rw [hasT_out (by omega)]
    have d1 : decide (i ≥ 0) = false := by simp; omega
    have d2 : decide (0 ≤ i) = false := by simp; omega
    clear h
    go_enter Try.func25, Try.ntmps25
    go_wp2
    go_ret
    exact ⟨rfl, rfl⟩
theorem RefT.drew (h : RefT w b T) : RefT w.drew b T := h.same rfl
/-- a place is written, and whether it is there -/
theorem RefT.put (h : RefT w b T) {k : Nat} (hk : k < 1024) (v : Option Pl) : RefT (((w.setCell ⟨b, k, none⟩ (.bool v.isSome)).setCell ⟨b, 1024 + k * 2, none⟩ (.int .i64 (v.getD (0, 0)).1)).setCell ⟨b, 1024 + k * 2 + 1, none⟩ (.int .i64 (v.getD (0, 0)).2)) b (updT T k v) := by
  have far : ∀ {w : World} {o o' : Nat} {x : Value}, o ≠ o' → (w.setCell ⟨b, o, none⟩ x).cell? ⟨b, o', none⟩ = w.cell? ⟨b, o', none⟩ := fun hne => World.cell?_setCell_other _ _ _ _ (by intro e; injection e with _ h2; exact hne h2)
  refine ⟨fun j hj => ?_, fun j hj => ?_, fun j hj => ?_, fun j => by rw [World.frozen?_setCell, World.frozen?_setCell, World.frozen?_setCell]; exact h.z j⟩
  · rw [far (by omega), far (by omega)]
    by_cases c : j = k
    · subst c
      rw [World.cell?_setCell_same _ _ _ (h.ci j hj)]
      simp [inR, updT]
    · rw [far (by omega), h.ci j hj]
      simp [inR, updT, c]
  · rw [far (by omega)]
    by_cases c : j = k
    · subst c
      rw [World.cell?_setCell_same _ _ _ (by rw [far (by omega)]; exact h.cs j hj)]
      simp [szR, updT]
    · rw [far (by omega), far (by omega), h.cs j hj]
      simp [szR, updT, c]
  · by_cases c : j = k
    · subst c
      rw [World.cell?_setCell_same _ _ _ (by rw [far (by omega), far (by omega)]; exact h.cl j hj)]
      simp [clR, updT]
    · rw [far (by omega), far (by omega), far (by omega), h.cl j hj]
      simp [clR, updT, c]
theorem updT_self {k : Nat} (v : Option Pl) : updT T k v k = v := by simp [updT]
theorem RefT.putAt (h : RefT w b T) {k : Nat} (hk : k < 1024) (p : Pl) (hin : inR T k = true) : RefT ((w.setCell ⟨b, 1024 + k * 2, none⟩ (.int .i64 p.1)).setCell ⟨b, 1024 + k * 2 + 1, none⟩ (.int .i64 p.2)) b (updT T k (some p)) := by
  have far : ∀ {w : World} {o o' : Nat} {x : Value}, o ≠ o' → (w.setCell ⟨b, o, none⟩ x).cell? ⟨b, o', none⟩ = w.cell? ⟨b, o', none⟩ := fun hne => World.cell?_setCell_other _ _ _ _ (by intro e; injection e with _ h2; exact hne h2)
  refine ⟨fun j hj => ?_, fun j hj => ?_, fun j hj => ?_, fun j => by rw [World.frozen?_setCell, World.frozen?_setCell]; exact h.z j⟩
  · rw [far (by omega), far (by omega), h.ci j hj]
    by_cases c : j = k
    · subst c; rw [hin]; simp [inR, updT]
    · simp [inR, updT, c]
  · rw [far (by omega)]
    by_cases c : j = k
    · subst c
      rw [World.cell?_setCell_same _ _ _ (h.cs j hj)]
      simp [szR, updT]
    · rw [far (by omega), h.cs j hj]
      simp [szR, updT, c]
  · by_cases c : j = k
    · subst c
      rw [World.cell?_setCell_same _ _ _ (by rw [far (by omega)]; exact h.cl j hj)]
      simp [clR, updT]
    · rw [far (by omega), far (by omega), h.cl j hj]
      simp [clR, updT, c]
set_option maxHeartbeats 4000000 in
theorem rgive_c (i : Int) (h : RefT w b T) :
    Calls Try.prog 17 #[.pointer (some ⟨b, 0, none⟩), .int .i64 i] w fun e w' => e = .returned (.bool (hasT T i)) ∧ RefT w' b (giveT T i) ∧ Ch (fun k => k = b) w w' := by
  have P0 := rhas_c i h
  unfold giveT
  cases hh : hasT T i
  · rw [hh] at P0
    replace P0 := Lib.hid P0
    rw [if_neg (by simp)]
    replace h := Lib.hid h
    clear hh
    go_enter Try.func17, Try.ntmps17
    go_wp2_with (first | (go_at_call 25; ((with_reducible refine P0.out.mono ?_); rintro e w' ⟨rfl, hw'⟩; subst w')))
    go_ret
    exact ⟨rfl, h.out, Ch.refl _ _⟩
  · rw [if_pos rfl]
    have hi : 0 ≤ i ∧ i < 1024 := by
      apply Classical.byContradiction
      intro hn
      rw [hasT_out hn] at hh
      cases hh
    obtain ⟨k, rfl⟩ : ∃ k : Nat, i = k := ⟨i.toNat, by omega⟩
    have hk : k < 1024 := by omega
    have hk1 : (k : Int) < 1024 := by omega
    rw [hh] at P0
    replace P0 := Lib.hid P0
    have ci := h.ci k hk
    have cs := h.cs k hk
    have cl := h.cl k hk
    have z0 := h.z k
    have z1 := h.z (1024 + k * 2)
    have z2 := h.z (1024 + k * 2 + 1)
    have hP := Lib.hid (h.put hk none)
    have hC : Hid (Ch (fun k => k = b) w _) := Lib.hid ((((Ch.refl (fun k => k = b) w).set ⟨b, k, none⟩ rfl (.bool false)).set ⟨b, 1024 + k * 2, none⟩ rfl (.int .i64 0)).set ⟨b, 1024 + k * 2 + 1, none⟩ rfl (.int .i64 0))
    replace h := Lib.hid h
    clear hh
    go_enter Try.func17, Try.ntmps17
    go_wp2_with (first | (go_at_call 25; ((with_reducible refine P0.out.mono ?_); rintro e w' ⟨rfl, hw'⟩; subst w')))
    go_region
    go_wp2
    go_ret
    exact ⟨rfl, hP.out.drew, hC.out.drew⟩
/-- so far all are taken -/
structure KSt (w : World) (T : Tst) (b : Nat) (p : Pl) (q k : Nat) (wr : World) : Prop where
  bel : Below w.heap.size w wr
  c0 : wr.cell? ⟨q, 0, none⟩ = some (.int .i64 p.1)
  c1 : wr.cell? ⟨q, 1, none⟩ = some (.int .i64 p.2)
  em : ∀ j, 4 ≤ j → j < k → (T j).isNone = false
set_option maxHeartbeats 8000000 in
theorem rtake_c (p : Pl) (h : RefT w b T) :
    Calls Try.prog 19 #[.pointer (some ⟨b, 0, none⟩), plV p] w fun e w' => e = .returned (.int .i64 (takeI T p)) ∧ RefT w' b (takeT T p) ∧ Ch (fun k => k = b) w w' := by
  have hb0 := Lib.hid h.lt
  have hB : Below w.heap.size w (w.alloc (.cells #[.int .i64 p.1, .int .i64 p.2] 46)) := (Below.refl _ _).alloc (Nat.le_refl _) _
  have P0 := rof_c p (h.keep hB)
  have hx0 : (w.alloc (.cells #[.int .i64 p.1, .int .i64 p.2] 46)).cell? ⟨w.heap.size, 0, none⟩ = some (.int .i64 p.1) := by simp
  have hx1 : (w.alloc (.cells #[.int .i64 p.1, .int .i64 p.2] 46)).cell? ⟨w.heap.size, 1, none⟩ = some (.int .i64 p.2) := by simp
  unfold takeI takeT
  cases ho : ofR T p with
  | some j0 =>
    simp only [Option.isSome_some, if_true]
    rw [ho] at P0
    simp only [Option.isSome_some] at P0
    replace P0 := Lib.hid P0
    replace hB := Lib.hid hB
    replace h := Lib.hid h
    clear ho hx0 hx1
    obtain ⟨pa, pc⟩ := p
    unfold plV at *
    go_enter Try.func19, Try.ntmps19
    go_wp2_with (first | (go_at_call 26; ((with_reducible refine P0.out.mono ?_); rintro e w1 ⟨he, d1⟩; subst he; replace d1 := Lib.hid (hB.out.trans (d1.mono hB.out.size)))))
    go_ret
    exact ⟨rfl, h.out.keep d1.out, below_toCh _ d1.out⟩
  | none =>
    simp only [Option.isSome_none, Bool.false_eq_true, if_false]
    rw [ho] at P0
    simp only [Option.isSome_none] at P0
    replace P0 := Lib.hid P0
    have hQ : ∀ w1, Below (w.alloc (.cells #[.int .i64 p.1, .int .i64 p.2] 46)).heap.size (w.alloc (.cells #[.int .i64 p.1, .int .i64 p.2] 46)) w1 → KSt w T b p w.heap.size 4 w1 := fun w1 hb =>
      ⟨hB.trans (hb.mono hB.size), (hb.cell (by simp)).trans hx0, (hb.cell (by simp)).trans hx1, fun j a b => by omega⟩
    replace hQ := Lib.hid hQ
    replace hB := Lib.hid hB
    replace h := Lib.hid h
    clear ho hx0 hx1
    obtain ⟨pa, pc⟩ := p
    unfold plV at *
    go_enter Try.func19, Try.ntmps19
    go_wp2_with (first | (go_at_call 26; ((with_reducible refine P0.out.mono ?_); rintro e w1 ⟨he, d1⟩; subst he; have S0 := Lib.hid (hQ.out w1 d1); clear d1 P0 hQ)))
    go_loopw [7] (fun i wr => ∃ k : Nat, 4 ≤ k ∧ k ≤ 1024 ∧ i = .int .i64 k ∧ KSt w T b (pa, pc) w.heap.size k wr) (fun i _ => 1024 - (intOf i).toNat)
    case atStart => exact ⟨4, by omega, by omega, rfl, S0.out⟩
    case round =>
      obtain ⟨k, hk4, hk, rfl, hR⟩ := hrel
      by_cases hlt : k < 1024
      · have hlt' : decide ((k : Int) < 1024) = true := by simp; omega
        have hk1 : (k : Int) < 1024 := by omega
        have hw : IntKind.i64.wrap ((k : Int) + 1) = (k : Int) + 1 := by rw [IntKind.wrap_i64]; omega
        have hr := h.out.keep hR.bel
        have ci := hr.ci k hlt
        have cs := hr.cs k hlt
        have cl := hr.cl k hlt
        have c0 := hR.c0
        have c1 := hR.c1
        have z0 := hr.z k
        have z1 := hr.z (1024 + k * 2)
        have z2 := hr.z (1024 + k * 2 + 1)
        unfold inR at ci
        rcases hT : T k with _ | s
        · rw [hT] at ci
          simp only [Option.isSome] at ci
          have e1 : freeR T = some k := firstIn_hit hk4 hlt (fun j a b => hR.em j a b) (by show (T k).isNone = true; rw [hT]; rfl)
          replace e1 := Lib.hid e1
          have hP := Lib.hid (hr.put hlt (some (pa, pc)))
          have hC : Hid (Ch (fun k => k = b) w _) := Lib.hid ((((below_toCh (fun k => k = b) hR.bel).set ⟨b, k, none⟩ rfl (.bool true)).set ⟨b, 1024 + k * 2, none⟩ rfl (.int .i64 pa)).set ⟨b, 1024 + k * 2 + 1, none⟩ rfl (.int .i64 pc))
          have ne : w.heap.size ≠ b := by have := hb0.out; omega
          have ne' := Ne.symm ne
          replace hR := Lib.hid hR
          clear hr hT
          go_wp2
          go_region
          go_wp2
          go_ret
          rw [e1.out]
          exact ⟨rfl, hP.out.drew, hC.out.drew⟩
        · rw [hT] at ci
          simp only [Option.isSome] at ci
          have hN : Hid (KSt w T b (pa, pc) w.heap.size (k + 1) wr) := Lib.hid ⟨hR.bel, hR.c0, hR.c1, fun j a b => by
            by_cases c : j = k
            · subst c; rw [hT]; rfl
            · exact hR.em j a (by omega)⟩
          replace hR := Lib.hid hR
          clear hr hT cs cl z0 z1 z2
          go_wp2
          go_roundw
          case rel => exact ⟨k + 1, by omega, by omega, by go_num, hN.out⟩
          case measure => simp [intOf]; omega
      · have e : k = 1024 := by omega
        subst e
        have e1 : Hid (freeR T = none) := Lib.hid (firstIn_none (fun j a b => hR.em j a b))
        replace hR := Lib.hid hR
        go_wp2
        go_ret
        rw [e1.out]
        exact ⟨rfl, h.out.keep hR.out.bel, below_toCh _ hR.out.bel⟩
theorem hasT_some {i : Int} (hh : hasT T i = true) : ∃ k : Nat, i = k ∧ k < 1024 ∧ inR T k = true ∧ ∃ p, T k = some p := by
  have hi : 0 ≤ i ∧ i < 1024 := by
    apply Classical.byContradiction
    intro hn
    rw [hasT_out hn] at hh
    cases hh
  obtain ⟨k, rfl⟩ : ∃ k : Nat, i = k := ⟨i.toNat, by omega⟩
  have hk : k < 1024 := by omega
  rw [hasT_in hk] at hh
  refine ⟨k, rfl, hk, hh, ?_⟩
  unfold inR at hh
  exact Option.isSome_iff_exists.1 hh
set_option maxHeartbeats 8000000 in
theorem rswap_c (i j : Int) (h : RefT w b T) :
    Calls Try.prog 18 #[.pointer (some ⟨b, 0, none⟩), .int .i64 i, .int .i64 j] w fun e w' => e = .returned (.bool (swapB T i j)) ∧ RefT w' b (swapT T i j) ∧ Ch (fun k => k = b) w w' := by
  have Pi := rhas_c i h
  have Pj := rhas_c j h
  unfold swapT swapB
  cases hi : hasT T i
  · rw [hi] at Pi
    replace Pi := Lib.hid Pi
    rw [if_neg (by simp)]
    simp only [Bool.false_and]
    replace h := Lib.hid h
    clear hi Pj
    go_enter Try.func18, Try.ntmps18
    go_wp2_with (first | (go_at_call 25; ((with_reducible refine Pi.out.mono ?_); rintro e w' ⟨rfl, hw'⟩; subst w')))
    go_ret
    exact ⟨rfl, h.out, Ch.refl _ _⟩
  · cases hj : hasT T j
    · rw [hi] at Pi
      rw [hj] at Pj
      replace Pi := Lib.hid Pi
      replace Pj := Lib.hid Pj
      rw [if_neg (by simp)]
      simp only [Bool.and_false]
      replace h := Lib.hid h
      clear hi hj
      go_enter Try.func18, Try.ntmps18
      go_wp2_with (first | (go_at_call 25; ((with_reducible first | refine Pi.out.mono ?_ | refine Pj.out.mono ?_); rintro e w' ⟨rfl, hw'⟩; subst w')))
      go_ret
      exact ⟨rfl, h.out, Ch.refl _ _⟩
    · rw [hi] at Pi
      rw [hj] at Pj
      obtain ⟨x, rfl, hx, hix, ⟨pa, pc⟩, hTx⟩ := hasT_some hi
      obtain ⟨y, rfl, hy, hiy, ⟨qa, qc⟩, hTy⟩ := hasT_some hj
      replace Pi := Lib.hid Pi
      replace Pj := Lib.hid Pj
      rw [if_pos (by simp)]
      simp only [Bool.and_true]
      have e1 : (x : Int).toNat = x := by simp
      have e2 : (y : Int).toNat = y := by simp
      rw [e1, e2, hTx, hTy]
      have hx1 : (x : Int) < 1024 := by omega
      have hy1 : (y : Int) < 1024 := by omega
      have sx := h.cs x hx
      have cx := h.cl x hx
      have sy := h.cs y hy
      have cy := h.cl y hy
      unfold szR at sx sy
      unfold clR at cx cy
      rw [hTx] at sx cx
      rw [hTy] at sy cy
      simp only [Option.getD] at sx cx sy cy
      have zx := h.z (1024 + x * 2)
      have zx' := h.z (1024 + x * 2 + 1)
      have zy := h.z (1024 + y * 2)
      have zy' := h.z (1024 + y * 2 + 1)
      have hP := h.putAt hx (qa, qc) hix
      have hP2 := Lib.hid (hP.putAt hy (pa, pc) (by unfold inR updT; split; rfl; exact hiy))
      have hC : Hid (Ch (fun k => k = b) w _) := Lib.hid (((((Ch.refl (fun k => k = b) w).set ⟨b, 1024 + x * 2, none⟩ rfl (.int .i64 qa)).set ⟨b, 1024 + x * 2 + 1, none⟩ rfl (.int .i64 qc)).set ⟨b, 1024 + y * 2, none⟩ rfl (.int .i64 pa)).set ⟨b, 1024 + y * 2 + 1, none⟩ rfl (.int .i64 pc))
      clear hi hj hP e1 e2 h hix hiy
      by_cases hxy : x = y
      · subst hxy
        rw [hTx] at hTy
        obtain ⟨rfl, rfl⟩ : pa = qa ∧ pc = qc := by cases hTy; exact ⟨rfl, rfl⟩
        clear hTx hTy
        go_enter Try.func18, Try.ntmps18
        go_wp2_with (first | (go_at_call 25; ((with_reducible first | refine Pi.out.mono ?_ | refine Pj.out.mono ?_); rintro e w' ⟨rfl, hw'⟩; subst w')))
        go_region
        go_wp2
        go_ret
        exact ⟨rfl, hP2.out.drew, hC.out.drew⟩
      · have n1 : ¬ (1024 + x * 2 = 1024 + y * 2) := by omega
        have n2 : ¬ (1024 + x * 2 + 1 = 1024 + y * 2 + 1) := by omega
        have n3 : ¬ (1024 + x * 2 + 1 = 1024 + y * 2) := by omega
        have n4 : ¬ (1024 + x * 2 = 1024 + y * 2 + 1) := by omega
        have m1 : ¬ (1024 + y * 2 = 1024 + x * 2) := by omega
        have m2 : ¬ (1024 + y * 2 + 1 = 1024 + x * 2 + 1) := by omega
        have m3 : ¬ (1024 + y * 2 + 1 = 1024 + x * 2) := by omega
        have m4 : ¬ (1024 + y * 2 = 1024 + x * 2 + 1) := by omega
        clear hTx hTy
        go_enter Try.func18, Try.ntmps18
        go_wp2_with (first | (go_at_call 25; ((with_reducible first | refine Pi.out.mono ?_ | refine Pj.out.mono ?_); rintro e w' ⟨rfl, hw'⟩; subst w')))
        go_region
        go_wp2
        go_ret
        exact ⟨rfl, hP2.out.drew, hC.out.drew⟩
end
end Wd
end Go.Proofs.Ytekjengdiakaaaa
