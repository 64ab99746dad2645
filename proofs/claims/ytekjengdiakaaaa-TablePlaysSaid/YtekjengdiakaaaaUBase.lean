/- The landed table, as it lies; has, leastFree. -/
import Derived.Test.YtekjengdiakaaaaTMath
import Derived.Deep.MidRow
namespace Go.Proofs.Ytekjengdiakaaaa
open Go.RowKit Go.Maps
set_option linter.unusedVariables false
set_option maxRecDepth 20000
namespace Wd
/-- the landed table at block b, its map at block m: who is there (T tells), the places (P), the map (M, of c entries) -/
structure TP (w : World) (b m : Nat) (T : Tst) (P : Nat → Pl) (c : Nat) (M : Pl → Option Int) : Prop where
  ci : ∀ k, k < 1024 → w.cell? ⟨b, k, none⟩ = some (.bool (inR T k))
  cs : ∀ k, k < 1024 → w.cell? ⟨b, 1024 + k * 2, none⟩ = some (.int .i64 (P k).1)
  cl : ∀ k, k < 1024 → w.cell? ⟨b, 1024 + k * 2 + 1, none⟩ = some (.int .i64 (P k).2)
  cm : w.cell? ⟨b, 3072, none⟩ = some (.map (some m))
  z : ∀ k, w.frozen? ⟨b, k, none⟩ = false
  ne : m ≠ b
  mp : MapP w m c M
def updP (P : Nat → Pl) (k : Nat) (p : Pl) : Nat → Pl := fun j => if j = k then p else P j
def FT (b m : Nat) : Nat → Prop := fun k => k = b ∨ k = m
section
variable {w w1 : World} {b m c c' : Nat} {T : Tst} {P : Nat → Pl} {M M' : Pl → Option Int}
theorem TP.lt (h : TP w b m T P c M) : b < w.heap.size := World.block_lt_of_cell? w _ (h.ci 0 (by decide))
theorem TP.same (h : TP w b m T P c M) (hb : w1.heap[b]? = w.heap[b]?) (hm : w1.heap[m]? = w.heap[m]?) : TP w1 b m T P c M :=
  ⟨fun k hk => (World.cell?_of_block (a := ⟨b, k, none⟩) hb).trans (h.ci k hk), fun k hk => (World.cell?_of_block (a := ⟨b, 1024 + k * 2, none⟩) hb).trans (h.cs k hk), fun k hk => (World.cell?_of_block (a := ⟨b, 1024 + k * 2 + 1, none⟩) hb).trans (h.cl k hk), (World.cell?_of_block (a := ⟨b, 3072, none⟩) hb).trans h.cm, fun k => (World.frozen?_of_block (a := ⟨b, k, none⟩) hb).trans (h.z k), h.ne, h.mp.same hm⟩
theorem TP.keep (h : TP w b m T P c M) (g : Below w.heap.size w w1) : TP w1 b m T P c M := h.same (g.block b h.lt) (g.block m h.mp.lt)
theorem TP.drew (h : TP w b m T P c M) : TP w.drew b m T P c M := h.same rfl rfl
theorem heap_set {o : Nat} {x : Value} (hne : m ≠ b) : (w.setCell ⟨b, o, none⟩ x).heap[m]? = w.heap[m]? := Below.heap_setCell _ _ _ _ hne
/-- it is said whether an identity is there -/
theorem TP.tell (h : TP w b m T P c M) {k : Nat} (hk : k < 1024) (v : Option Pl) : TP (w.setCell ⟨b, k, none⟩ (.bool v.isSome)) b m (updT T k v) P c M := by
  have far : ∀ {o : Nat}, k ≠ o → (w.setCell ⟨b, k, none⟩ (.bool v.isSome)).cell? ⟨b, o, none⟩ = w.cell? ⟨b, o, none⟩ := fun hne => World.cell?_setCell_other _ _ _ _ (by intro e; injection e with _ h2; exact hne h2)
  refine ⟨fun j hj => ?_, fun j hj => (far (by omega)).trans (h.cs j hj), fun j hj => (far (by omega)).trans (h.cl j hj), (far (by omega)).trans h.cm, fun j => (World.frozen?_setCell _ _ _ _).trans (h.z j), h.ne, h.mp.same (heap_set h.ne)⟩
  by_cases e : j = k
  · subst e
    rw [World.cell?_setCell_same _ _ _ (h.ci j hj)]
    simp [inR, updT]
  · rw [far (Ne.symm e), h.ci j hj]
    simp [inR, updT, e]
/-- a place is written -/
theorem TP.place (h : TP w b m T P c M) {k : Nat} (hk : k < 1024) (p : Pl) : TP ((w.setCell ⟨b, 1024 + k * 2, none⟩ (.int .i64 p.1)).setCell ⟨b, 1024 + k * 2 + 1, none⟩ (.int .i64 p.2)) b m T (updP P k p) c M := by
  have far : ∀ {w : World} {o o' : Nat} {x : Value}, o ≠ o' → (w.setCell ⟨b, o, none⟩ x).cell? ⟨b, o', none⟩ = w.cell? ⟨b, o', none⟩ := fun hne => World.cell?_setCell_other _ _ _ _ (by intro e; injection e with _ h2; exact hne h2)
  refine ⟨fun j hj => ?_, fun j hj => ?_, fun j hj => ?_, ?_, fun j => by rw [World.frozen?_setCell, World.frozen?_setCell]; exact h.z j, h.ne, h.mp.same ((heap_set h.ne).trans (heap_set h.ne))⟩
  · rw [far (by omega), far (by omega), h.ci j hj]
  · rw [far (by omega)]
    by_cases e : j = k
    · subst e
      rw [World.cell?_setCell_same _ _ _ (h.cs j hj)]
      simp [updP]
    · rw [far (by omega), h.cs j hj]
      simp [updP, e]
  · by_cases e : j = k
    · subst e
      rw [World.cell?_setCell_same _ _ _ (by rw [far (by omega)]; exact h.cl j hj)]
      simp [updP]
    · rw [far (by omega), far (by omega), h.cl j hj]
      simp [updP, e]
  · rw [far (by omega), far (by omega)]; exact h.cm
/-- the map is turned -/
theorem TP.map (h : TP w b m T P c M) (hm : MapP w1 m c' M') (g : w.grownBy w1 (some m)) : TP w1 b m T P c' M' := by
  have hb : w1.heap[b]? = w.heap[b]? := g.block b h.lt (by intro e; cases e; exact h.ne rfl)
  exact ⟨fun k hk => (World.cell?_of_block (a := ⟨b, k, none⟩) hb).trans (h.ci k hk), fun k hk => (World.cell?_of_block (a := ⟨b, 1024 + k * 2, none⟩) hb).trans (h.cs k hk), fun k hk => (World.cell?_of_block (a := ⟨b, 1024 + k * 2 + 1, none⟩) hb).trans (h.cl k hk), (World.cell?_of_block (a := ⟨b, 3072, none⟩) hb).trans h.cm, fun k => (World.frozen?_of_block (a := ⟨b, k, none⟩) hb).trans (h.z k), h.ne, hm⟩
theorem grown_ch (g : w.grownBy w1 (some m)) : Ch (fun k => k = m) w w1 := ⟨g.os, g.tape, g.output, g.size, fun k hk hne => g.block k hk (by intro e; cases e; exact hne rfl)⟩
theorem uhas_c (i : Int) (h : TP w b m T P c M) :
    Calls Try.prog 23 #[.pointer (some ⟨b, 0, none⟩), .int .i64 i] w fun e w' => e = .returned (.bool (hasT T i)) ∧ w' = w := by
  by_cases h0 : 0 ≤ i
  · by_cases hn : i < 1024
    · obtain ⟨k, rfl⟩ : ∃ k : Nat, i = k := ⟨i.toNat, by omega⟩
      have hk : k < 1024 := by omega
      rw [hasT_in hk]
      have ci := h.ci k hk
      have d1 : decide ((k : Int) ≥ 0) = true := by simp
      have d2 : decide (0 ≤ (k : Int)) = true := by simp
      have d3 : decide ((k : Int) < 1024) = true := by simp; omega
      clear h
      generalize inR T k = x at *
      go_enter Try.func23, Try.ntmps23
      go_wp2
      go_ret
      exact ⟨by cases x <;> rfl, rfl⟩
    · rw [hasT_out (by omega)]
      have d1 : decide (i ≥ 0) = true := by simpa using h0
      have d2 : decide (0 ≤ i) = true := by simpa using h0
      have d3 : decide (i < 1024) = false := by simp; omega
      clear h
      go_enter Try.func23, Try.ntmps23
      go_wp2
      go_ret
      exact ⟨rfl, rfl⟩
  · rw [hasT_out (by omega)]
    have d1 : decide (i ≥ 0) = false := by simp; omega
    have d2 : decide (0 ≤ i) = false := by simp; omega
    clear h
    go_enter Try.func23, Try.ntmps23
    go_wp2
    go_ret
    exact ⟨rfl, rfl⟩
set_option maxHeartbeats 4000000 in
theorem uleast_c (h : TP w b m T P c M) :
    Calls Try.prog 21 #[.pointer (some ⟨b, 0, none⟩)] w fun e w' => e = .returned (.int .i64 (frI (freeR T))) ∧ w' = w := by
  have hci := Lib.hid h.ci
  clear h
  go_enter Try.func21, Try.ntmps21
  go_wp2
  go_loopw [3] (fun i wr => ∃ k : Nat, 4 ≤ k ∧ k ≤ 1024 ∧ i = .int .i64 k ∧ wr = w ∧ ∀ j, 4 ≤ j → j < k → (T j).isNone = false) (fun i _ => 1024 - (intOf i).toNat)
  case atStart => exact ⟨4, by omega, by omega, rfl, rfl, fun j a b => by omega⟩
  case round =>
    obtain ⟨k, hk4, hk, rfl, rfl, hR⟩ := hrel
    by_cases hlt : k < 1024
    · have hlt' : decide ((k : Int) < 1024) = true := by simp; omega
      have hk1 : (k : Int) < 1024 := by omega
      have hw : IntKind.i64.wrap ((k : Int) + 1) = (k : Int) + 1 := by rw [IntKind.wrap_i64]; omega
      have ci := hci.out k hlt
      unfold inR at ci
      rcases hT : T k with _ | s
      · rw [hT] at ci
        simp only [Option.isSome] at ci
        have e1 : Hid (freeR T = some k) := Lib.hid (firstIn_hit hk4 hlt (fun j a b => hR j a b) (by show (T k).isNone = true; rw [hT]; rfl))
        clear hT hR
        go_wp2
        go_ret
        rw [e1.out]
        exact ⟨rfl, rfl⟩
      · rw [hT] at ci
        simp only [Option.isSome] at ci
        have hN : Hid (∀ j, 4 ≤ j → j < k + 1 → (T j).isNone = false) := Lib.hid fun j a b => by
          by_cases e : j = k
          · subst e; rw [hT]; rfl
          · exact hR j a (by omega)
        clear hT hR
        go_wp2
        go_roundw
        case rel => exact ⟨k + 1, by omega, by omega, by go_num, trivial, hN.out⟩
        case measure => simp [intOf]; omega
    · have e : k = 1024 := by omega
      subst e
      have e1 : Hid (freeR T = none) := Lib.hid (firstIn_none (fun j a b => hR j a b))
      clear hR
      go_wp2
      go_ret
      rw [e1.out]
      exact ⟨rfl, rfl⟩
end
end Wd
end Go.Proofs.Ytekjengdiakaaaa
