/- What the laws ask of the package's instructions. -/
import Derived.Test.YthlijmdohejheaaOMeth
import Derived.Deep.MidRow
namespace Go.Proofs.Ythlijmdohejheaa
open Go.RowKit
set_option linter.unusedVariables false
set_option maxRecDepth 20000
namespace Wd
/-- the bytes of instructions -/
def bytL (L : List (Int × Int)) : List Int := flat (L.map (fun x => (wr8 x.1, wr8 x.2)))
structure CodeK : Prop where
  fetch : ∀ {w : World} {v : Value} {m : MethA}, MeV w v m → ∀ (pc : Int), In64 pc → Calls Try.prog 15 #[v, .int .i64 pc] w fun e w' => e = .returned (.tuple #[.agg #[.int .i64 (fetR m.code pc).1, .int .i64 (fetR m.code pc).2.1], .bool (fetR m.code pc).2.2]) ∧ Below w.heap.size w w'
  right : ∀ {w : World} {v u : Value} {m : MethA} {U : UnitA}, MeV w v m → UnK w u U → Calls Try.prog 18 #[v, u] w fun e w' => e = .returned (.int .i64 (metR m U.names.length U.classes.length U.methods.length)) ∧ Below w.heap.size w w'
  takes : ∀ (p : Int), In64 p → ∀ w, Calls Try.prog 16 #[.int .i64 p] w fun e w' => e = .returned (.int .i64 (takR p)) ∧ Below w.heap.size w w'
  name : ∀ (p : Int), In64 p → ∀ w, Calls Try.prog 17 #[.int .i64 p] w fun e w' => e = .returned (.string (namR p)) ∧ Below w.heap.size w w'
  bytes : ∀ {w : World} {v : Value} {L : List (Int × Int)}, PrV w v L → L.length ≤ 1000 → Calls Try.prog 14 #[v] w fun e w' => ∃ v', e = .returned v' ∧ ByV w' v' (bytL L) ∧ Below w.heap.size w w'
theorem range4 {w : World} {q : Nat} {a b c d : Value} (h0 : w.cell? ⟨q, 0, none⟩ = some a) (h1 : w.cell? ⟨q, 1, none⟩ = some b) (h2 : w.cell? ⟨q, 2, none⟩ = some c) (h3 : w.cell? ⟨q, 3, none⟩ = some d) : w.rangeAt q 0 [a, b, c, d] := by
  intro j v hj
  match j, hj with
  | 0, hj => simp at hj; subst hj; exact h0
  | 1, hj => simp at hj; subst hj; exact h1
  | 2, hj => simp at hj; subst hj; exact h2
  | 3, hj => simp at hj; subst hj; exact h3
  | j + 4, hj => simp at hj
theorem range5 {w : World} {q : Nat} {a b c d e : Value} (h0 : w.cell? ⟨q, 0, none⟩ = some a) (h1 : w.cell? ⟨q, 1, none⟩ = some b) (h2 : w.cell? ⟨q, 2, none⟩ = some c) (h3 : w.cell? ⟨q, 3, none⟩ = some d) (h4 : w.cell? ⟨q, 4, none⟩ = some e) : w.rangeAt q 0 [a, b, c, d, e] := by
  intro j v hj
  match j, hj with
  | 0, hj => simp at hj; subst hj; exact h0
  | 1, hj => simp at hj; subst hj; exact h1
  | 2, hj => simp at hj; subst hj; exact h2
  | 3, hj => simp at hj; subst hj; exact h3
  | 4, hj => simp at hj; subst hj; exact h4
  | j + 5, hj => simp at hj
theorem MeB.range {w : World} {q : Nat} {v : Value} {m : MethA} {la ca : Option Addr} {lc cc : Nat} (h : MeB w q v m la ca lc cc) : w.rangeAt q 0 [.int .i64 m.args, .int .i64 m.temps, .slice la m.lits.length lc, .slice ca m.code.length cc] := range4 h.c0 h.c1 h.c2 h.c3
theorem UnB.range {w : World} {q : Nat} {u : Value} {U : UnitA} {na ka ma oa : Option Addr} {nc kc mc oc : Nat} (h : UnB w q u U na ka ma oa nc kc mc oc) : w.rangeAt q 0 [.slice na U.names.length nc, .slice ka U.classes.length kc, .slice ma U.methods.length mc, .slice oa U.objects.length oc, .int .i64 U.main] := range5 h.c0 h.c1 h.c2 h.c3 h.c4
theorem rowM : ∃ d, Try.prog.underlying 37 = some d ∧ d.isRow = true := ⟨_, Try.underlying37, rfl⟩
theorem rowU : ∃ d, Try.prog.underlying 27 = some d ∧ d.isRow = true := ⟨_, Try.underlying27, rfl⟩
theorem infoM : (Try.prog.info? 37).map (fun i => i.size) = some 4 := by kernel_rfl
theorem infoU : (Try.prog.info? 27).map (fun i => i.size) = some 5 := by kernel_rfl
/-- what same holds at its comparisons -/
structure SmS (w0 wr : World) (q q2 q7 : Nat) (v u : Value) (m : MethA) (U : UnitA) (la ca na ka ma oa : Option Addr) (lc cc nc kc mc oc : Nat) (x y : Int) : Prop where
  ms : MSt w0 wr q q2 v u m U la ca na ka ma oa lc cc nc kc mc oc
  x0 : wr.cell? ⟨q7, 0, none⟩ = some (.int .i64 x)
  x1 : wr.cell? ⟨q7, 1, none⟩ = some (.int .i64 y)
theorem SmS.up {w0 w w1 : World} {q q2 q7 : Nat} {v u : Value} {m : MethA} {U : UnitA} {la ca na ka ma oa : Option Addr} {lc cc nc kc mc oc : Nat} {x y : Int} (h : SmS w0 w q q2 q7 v u m U la ca na ka ma oa lc cc nc kc mc oc x y) (b : Below w.heap.size w w1) : SmS w0 w1 q q2 q7 v u m U la ca na ka ma oa lc cc nc kc mc oc x y :=
  ⟨h.ms.up b, cell_up b h.x0, cell_up b h.x1⟩
theorem SmS.born {w0 w : World} {q q2 : Nat} {v u : Value} {m : MethA} {U : UnitA} {la ca na ka ma oa : Option Addr} {lc cc nc kc mc oc : Nat} (h : MSt w0 w q q2 v u m U la ca na ka ma oa lc cc nc kc mc oc) (x y : Int) (T : TypeId) : SmS w0 (w.alloc (.cells #[.int .i64 x, .int .i64 y] T)) q q2 w.heap.size v u m U la ca na ka ma oa lc cc nc kc mc oc x y :=
  ⟨h.up ((Below.refl _ _).alloc (Nat.le_refl _) _), by simp, by simp⟩
end Wd
end Go.Proofs.Ythlijmdohejheaa
