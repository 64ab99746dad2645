/- The document's own table: what it is, and Of. -/
import Derived.Test.YtekjengdiakaaaaMBase
import Derived.StillTailTactics
import Derived.BigRegion
namespace Go.Proofs.Ytekjengdiakaaaa
open Go.RowKit
set_option linter.unusedVariables false
namespace Wd
abbrev Pl := Int × Int
/-- identities' places -/
abbrev Tst := Nat → Option Pl
def plV (p : Pl) : Value := .agg #[.int .i64 p.1, .int .i64 p.2]
def firstIn (P : Nat → Bool) : Option Nat := (List.range' 4 1020).find? P
theorem firstIn_hit {P : Nat → Bool} {k : Nat} (h4 : 4 ≤ k) (hk : k < 1024) (hn : ∀ j, 4 ≤ j → j < k → P j = false) (hp : P k = true) : firstIn P = some k := by
  unfold firstIn
  rw [List.find?_range'_eq_some]
  exact ⟨hp, by rw [List.mem_range'_1]; omega, fun j h1 h2 => by rw [hn j h1 h2]; rfl⟩
theorem firstIn_none {P : Nat → Bool} (hn : ∀ j, 4 ≤ j → j < 1024 → P j = false) : firstIn P = none := by
  unfold firstIn
  rw [List.find?_range'_eq_none]
  intro j h1 h2
  rw [hn j h1 (by omega)]; rfl
theorem firstIn_some {P : Nat → Bool} {k : Nat} (h : firstIn P = some k) : 4 ≤ k ∧ k < 1024 ∧ P k = true ∧ ∀ j, 4 ≤ j → j < k → P j = false := by
  unfold firstIn at h
  rw [List.find?_range'_eq_some] at h
  obtain ⟨h1, h2, h3⟩ := h
  rw [List.mem_range'_1] at h2
  exact ⟨h2.1, by omega, h1, fun j a b => by simpa using h3 j a b⟩
theorem firstIn_no {P : Nat → Bool} (h : firstIn P = none) : ∀ j, 4 ≤ j → j < 1024 → P j = false := by
  unfold firstIn at h
  rw [List.find?_range'_eq_none] at h
  intro j a b
  simpa using h j a (by omega)
/-- whose the place is -/
def ofR (T : Tst) (p : Pl) : Option Nat := firstIn (fun id => T id == some p)
def ofI (T : Tst) (p : Pl) : Int := (((ofR T p).getD 0 : Nat) : Int)
/-- the least one that is free -/
def freeR (T : Tst) : Option Nat := firstIn (fun id => (T id).isNone)
def updT (T : Tst) (k : Nat) (v : Option Pl) : Tst := fun j => if j = k then v else T j
def frI : Option Nat → Int | some k => (k : Int) | none => -1
def frT (T : Tst) (p : Pl) : Option Nat → Tst | some k => updT T k (some p) | none => T
def takeI (T : Tst) (p : Pl) : Int := if (ofR T p).isSome then -1 else frI (freeR T)
def takeT (T : Tst) (p : Pl) : Tst := if (ofR T p).isSome then T else frT T p (freeR T)
def hasT (T : Tst) (i : Int) : Bool := decide (0 ≤ i) && (decide (i < 1024) && (T i.toNat).isSome)
def giveT (T : Tst) (i : Int) : Tst := if hasT T i then updT T i.toNat none else T
def swapB (T : Tst) (a b : Int) : Bool := hasT T a && hasT T b
def swapT (T : Tst) (a b : Int) : Tst := if swapB T a b then updT (updT T a.toNat (T b.toNat)) b.toNat (T a.toNat) else T
def idsT (T : Tst) : List Int := ((List.range 1024).filter (fun k => (T k).isSome)).map (fun (k : Nat) => (k : Int))
def inR (T : Tst) (k : Nat) : Bool := (T k).isSome
def szR (T : Tst) (k : Nat) : Int := ((T k).getD (0, 0)).1
def clR (T : Tst) (k : Nat) : Int := ((T k).getD (0, 0)).2
/-- a table of the document's own, at block b -/
structure RefT (w : World) (b : Nat) (T : Tst) : Prop where
  ci : ∀ k, k < 1024 → w.cell? ⟨b, k, none⟩ = some (.bool (inR T k))
  cs : ∀ k, k < 1024 → w.cell? ⟨b, 1024 + k * 2, none⟩ = some (.int .i64 (szR T k))
  cl : ∀ k, k < 1024 → w.cell? ⟨b, 1024 + k * 2 + 1, none⟩ = some (.int .i64 (clR T k))
  z : ∀ k, w.frozen? ⟨b, k, none⟩ = false
theorem RefT.lt {w : World} {b : Nat} {T : Tst} (h : RefT w b T) : b < w.heap.size := World.block_lt_of_cell? w _ (h.ci 0 (by decide))
theorem RefT.same {w w' : World} {b : Nat} {T : Tst} (h : RefT w b T) (hb : w'.heap[b]? = w.heap[b]?) : RefT w' b T :=
  ⟨fun k hk => (World.cell?_of_block (a := ⟨b, k, none⟩) hb).trans (h.ci k hk), fun k hk => (World.cell?_of_block (a := ⟨b, 1024 + k * 2, none⟩) hb).trans (h.cs k hk), fun k hk => (World.cell?_of_block (a := ⟨b, 1024 + k * 2 + 1, none⟩) hb).trans (h.cl k hk), fun k => (World.frozen?_of_block (a := ⟨b, k, none⟩) hb).trans (h.z k)⟩
theorem RefT.keep {w w' : World} {b : Nat} {T : Tst} (h : RefT w b T) (g : Below w.heap.size w w') : RefT w' b T := h.same (g.block b h.lt)
/-- so far nobody has it -/
structure OSt (w : World) (T : Tst) (p : Pl) (q k : Nat) (wr : World) : Prop where
  bel : Below w.heap.size w wr
  c0 : wr.cell? ⟨q, 0, none⟩ = some (.int .i64 p.1)
  c1 : wr.cell? ⟨q, 1, none⟩ = some (.int .i64 p.2)
  em : ∀ j, 4 ≤ j → j < k → (T j == some p) = false
theorem OSt.next {w wr : World} {T : Tst} {p : Pl} {q k : Nat} (h : OSt w T p q k wr) (hk : (T k == some p) = false) : OSt w T p q (k + 1) wr.drew :=
  ⟨h.bel.drew, h.c0, h.c1, fun j h4 hj => by
    by_cases c : j = k
    · subst c; exact hk
    · exact h.em j h4 (by omega)⟩
set_option maxHeartbeats 4000000 in
theorem rof_c (p : Pl) {w : World} {b : Nat} {T : Tst} (h : RefT w b T) :
    Calls Try.prog 26 #[.pointer (some ⟨b, 0, none⟩), plV p] w fun e w' => e = .returned (.tuple #[.int .i64 (ofI T p), .bool (ofR T p).isSome]) ∧ Below w.heap.size w w' := by
  obtain ⟨pa, pc⟩ := p
  unfold plV
  have S0 : OSt w T (pa, pc) w.heap.size 4 (w.alloc (.cells #[.int .i64 pa, .int .i64 pc] 46)) :=
    ⟨(Below.refl _ _).alloc (Nat.le_refl _) _, by simp, by simp, fun j h1 h2 => by omega⟩
  replace S0 := Lib.hid S0
  replace h := Lib.hid h
  go_enter Try.func26, Try.ntmps26
  go_wp2
  go_loopw [6] (fun i wr => ∃ k : Nat, 4 ≤ k ∧ k ≤ 1024 ∧ i = .int .i64 k ∧ OSt w T (pa, pc) w.heap.size k wr) (fun i _ => 1024 - (intOf i).toNat)
  case atStart => exact ⟨4, by omega, by omega, rfl, S0.out⟩
  case round =>
    obtain ⟨k, hk4, hk, rfl, hR⟩ := hrel
    by_cases hlt : k < 1024
    · have hlt' : decide ((k : Int) < 1024) = true := by simp; omega
      have hk1 : (k : Int) < 1024 := by omega
      have hw : IntKind.i64.wrap ((k : Int) + 1) = (k : Int) + 1 := by rw [IntKind.wrap_i64]; omega
      have hr := h.out.keep hR.bel
      have ci := hr.ci k hlt
      have cs := hr.cs k hlt
      have cl := hr.cl k hlt
      have c0 := hR.c0
      have c1 := hR.c1
      unfold inR at ci
      unfold szR at cs
      unfold clR at cl
      rcases hT : T k with _ | ⟨sa, sc⟩
      · rw [hT] at ci cs cl
        simp only [Option.isSome] at ci
        have hN := Lib.hid (hR.next (by rw [hT]; rfl))
        replace hR := Lib.hid hR
        clear hr cs cl hT
        go_wp2
        go_region
        go_wp2
        go_roundw
        case rel => exact ⟨k + 1, by omega, by omega, by go_num, hN.out⟩
        case measure => simp [intOf]; omega
      · rw [hT] at ci cs cl
        simp only [Option.isSome, Option.getD] at ci cs cl
        by_cases ea : sa = pa
        · by_cases ec : sc = pc
          · subst ea ec
            have e1 : ofR T (sa, sc) = some k := firstIn_hit hk4 hlt (fun j a b => hR.em j a b) (by show (T k == some (sa, sc)) = true; rw [hT]; simp)
            have e2 : Hid ((Ending.returned (.tuple #[.int .i64 (k : Int), .bool true])) = .returned (.tuple #[.int .i64 (ofI T (sa, sc)), .bool (ofR T (sa, sc)).isSome])) := Lib.hid (by unfold ofI; rw [e1]; rfl)
            replace hR := Lib.hid hR
            clear hT e1 hr
            go_wp2
            go_region
            go_wp2
            go_ret2
            exact ⟨e2.out, hR.out.bel.drew⟩
          · have hN := Lib.hid (hR.next (by rw [hT]; simp [ec]))
            replace hR := Lib.hid hR
            clear hr hT
            go_wp2
            go_region
            go_wp2
            go_roundw
            case rel => exact ⟨k + 1, by omega, by omega, by go_num, hN.out⟩
            case measure => simp [intOf]; omega
        · have hN := Lib.hid (hR.next (by rw [hT]; simp [ea]))
          replace hR := Lib.hid hR
          clear hr hT
          go_wp2
          go_region
          go_wp2
          go_roundw
          case rel => exact ⟨k + 1, by omega, by omega, by go_num, hN.out⟩
          case measure => simp [intOf]; omega
    · have e : k = 1024 := by omega
      subst e
      have e1 : ofR T (pa, pc) = none := firstIn_none (fun j a b => hR.em j a b)
      have e2 : Hid ((Ending.returned (.tuple #[.int .i64 0, .bool false])) = .returned (.tuple #[.int .i64 (ofI T (pa, pc)), .bool (ofR T (pa, pc)).isSome])) := Lib.hid (by unfold ofI; rw [e1]; rfl)
      replace hR := Lib.hid hR
      clear e1
      go_wp2
      go_ret2
      exact ⟨e2.out, hR.out.bel⟩
end Wd
end Go.Proofs.Ytekjengdiakaaaa
