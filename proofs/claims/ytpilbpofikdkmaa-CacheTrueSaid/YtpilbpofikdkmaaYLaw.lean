/- What the laws ask of a cache, whoever keeps it. -/
import Derived.Test.YtpilbpofikdkmaaYLen
namespace Go.Proofs.Ytpilbpofikdkmaa
open Go.RowKit
set_option linter.unusedVariables false
set_option maxRecDepth 20000
namespace Wd
abbrev CAt := World → Nat → Cst → (Nat → Prop) → Prop
/-- 'CA w p S F': at block p lies a cache that holds S; it lies in the blocks F -/
structure CacK (CA : CAt) : Prop where
  lt : ∀ {w p S F}, CA w p S F → ∀ k, F k → k < w.heap.size
  keep : ∀ {w w' p S F}, CA w p S F → (∀ k, F k → w'.heap[k]? = w.heap[k]?) → CA w' p S F
  put : ∀ {w p S F} (c k x : Int), CA w p S F → I64 c → I64 k → I64 x → Calls Try.prog 11 #[.pointer (some ⟨p, 0, none⟩), .agg #[.int .i64 c, .int .i64 k], .int .i64 x] w fun e w' => ∃ F', e = .returned (.tuple #[]) ∧ CA w' p (putS S c k x) F' ∧ Ch F w w' ∧ Newer F F' w.heap.size
  get : ∀ {w p S F} (c k : Int), CA w p S F → I64 c → I64 k → S.h + S.m < 1000000 → Calls Try.prog 12 #[.pointer (some ⟨p, 0, none⟩), .agg #[.int .i64 c, .int .i64 k]] w fun e w' => ∃ F', e = .returned (.tuple #[.int .i64 (getM S c k), .bool (getB S c k)]) ∧ CA w' p (getS S c k) F' ∧ Ch F w w' ∧ Newer F F' w.heap.size
  clear : ∀ {w p S F}, CA w p S F → Calls Try.prog 17 #[.pointer (some ⟨p, 0, none⟩)] w fun e w' => ∃ F', e = .returned (.tuple #[]) ∧ CA w' p (clrS S) F' ∧ Ch F w w' ∧ Newer F F' w.heap.size
  hits : ∀ {w p S F}, CA w p S F → Calls Try.prog 13 #[.pointer (some ⟨p, 0, none⟩)] w fun e w' => e = .returned (.int .i64 (S.h : Nat)) ∧ Below w.heap.size w w'
  misses : ∀ {w p S F}, CA w p S F → Calls Try.prog 14 #[.pointer (some ⟨p, 0, none⟩)] w fun e w' => e = .returned (.int .i64 (S.m : Nat)) ∧ Below w.heap.size w w'
  len : ∀ {w p S F}, CA w p S F → Calls Try.prog 15 #[.pointer (some ⟨p, 0, none⟩)] w fun e w' => e = .returned (.int .i64 (cntL S : Nat)) ∧ Below w.heap.size w w'
  new : ∀ {w}, Calls Try.prog 10 #[] w fun e w' => ∃ p F, e = .returned (.pointer (some ⟨p, 0, none⟩)) ∧ CA w' p S0 F ∧ (∀ k, F k → w.heap.size ≤ k) ∧ Below w.heap.size w w'
/-- a cache of the call's own -/
structure PC (CA : CAt) (w0 wr : World) (p : Nat) (S : Cst) (F : Nat → Prop) : Prop where
  da : CA wr p S F
  bel : Below w0.heap.size w0 wr
  fF : ∀ k, F k → w0.heap.size ≤ k
section
variable {CA : CAt} {w0 wr wA w1 : World} {p : Nat} {S S' : Cst} {F F' : Nat → Prop}
theorem PC.keep (K : CacK CA) (h : PC CA w0 wr p S F) (g : Below wr.heap.size wr wA) : PC CA w0 wA p S F :=
  ⟨K.keep h.da (fun k hk => g.block k (K.lt h.da k hk)), h.bel.trans (g.mono h.bel.size), h.fF⟩
theorem PC.step (h : PC CA w0 wr p S F) (hm : CA w1 p S' F') (c : Ch F wr w1) (hn : Newer F F' wr.heap.size) : PC CA w0 w1 p S' F' := by
  refine ⟨hm, below_ch h.bel c h.fF, fun k hk => ?_⟩
  rcases hn k hk with h' | h'
  · exact h.fF k h'
  · exact Nat.le_trans h.bel.size h'
theorem put_s (K : CacK CA) (h : PC CA w0 wr p S F) {c k x : Int} (hc : I64 c) (hk : I64 k) (hx : I64 x) (hS : putS S c k x = S') :
    Calls Try.prog 11 #[.pointer (some ⟨p, 0, none⟩), .agg #[.int .i64 c, .int .i64 k], .int .i64 x] wr fun e w' => ∃ F', e = .returned (.tuple #[]) ∧ PC CA w0 w' p S' F' ∧ Ch F wr w' ∧ Newer F F' wr.heap.size := by
  subst hS
  refine (K.put c k x h.da hc hk hx).mono ?_
  rintro e w' ⟨F', rfl, hm, hc, hn⟩
  exact ⟨F', rfl, h.step hm hc hn, hc, hn⟩
theorem get_s (K : CacK CA) (h : PC CA w0 wr p S F) {c k x : Int} {y : Bool} (hc : I64 c) (hk : I64 k) (hb : S.h + S.m < 1000000) (hx : getM S c k = x) (hy : getB S c k = y) (hS : getS S c k = S') :
    Calls Try.prog 12 #[.pointer (some ⟨p, 0, none⟩), .agg #[.int .i64 c, .int .i64 k]] wr fun e w' => ∃ F', e = .returned (.tuple #[.int .i64 x, .bool y]) ∧ PC CA w0 w' p S' F' ∧ Ch F wr w' ∧ Newer F F' wr.heap.size := by
  subst hx; subst hy; subst hS
  refine (K.get c k h.da hc hk hb).mono ?_
  rintro e w' ⟨F', rfl, hm, hc, hn⟩
  exact ⟨F', rfl, h.step hm hc hn, hc, hn⟩
theorem clear_s (K : CacK CA) (h : PC CA w0 wr p S F) (hS : clrS S = S') :
    Calls Try.prog 17 #[.pointer (some ⟨p, 0, none⟩)] wr fun e w' => ∃ F', e = .returned (.tuple #[]) ∧ PC CA w0 w' p S' F' ∧ Ch F wr w' ∧ Newer F F' wr.heap.size := by
  subst hS
  refine (K.clear h.da).mono ?_
  rintro e w' ⟨F', rfl, hm, hc, hn⟩
  exact ⟨F', rfl, h.step hm hc hn, hc, hn⟩
theorem hits_s (K : CacK CA) (h : PC CA w0 wr p S F) {n : Nat} (hn : S.h = n) :
    Calls Try.prog 13 #[.pointer (some ⟨p, 0, none⟩)] wr fun e w' => e = .returned (.int .i64 n) ∧ PC CA w0 w' p S F ∧ Below wr.heap.size wr w' := by
  subst hn
  refine (K.hits h.da).mono ?_
  rintro e w' ⟨rfl, hb⟩
  exact ⟨rfl, h.keep K hb, hb⟩
theorem misses_s (K : CacK CA) (h : PC CA w0 wr p S F) {n : Nat} (hn : S.m = n) :
    Calls Try.prog 14 #[.pointer (some ⟨p, 0, none⟩)] wr fun e w' => e = .returned (.int .i64 n) ∧ PC CA w0 w' p S F ∧ Below wr.heap.size wr w' := by
  subst hn
  refine (K.misses h.da).mono ?_
  rintro e w' ⟨rfl, hb⟩
  exact ⟨rfl, h.keep K hb, hb⟩
theorem len_s (K : CacK CA) (h : PC CA w0 wr p S F) {n : Nat} (hn : cntL S = n) :
    Calls Try.prog 15 #[.pointer (some ⟨p, 0, none⟩)] wr fun e w' => e = .returned (.int .i64 n) ∧ PC CA w0 w' p S F ∧ Below wr.heap.size wr w' := by
  subst hn
  refine (K.len h.da).mono ?_
  rintro e w' ⟨rfl, hb⟩
  exact ⟨rfl, h.keep K hb, hb⟩
theorem new_s (K : CacK CA) (w : World) : Calls Try.prog 10 #[] w fun e w' => ∃ p F, e = .returned (.pointer (some ⟨p, 0, none⟩)) ∧ PC CA w w' p S0 F := by
  refine K.new.mono ?_
  rintro e w' ⟨p, F, rfl, hm, hF, hb⟩
  exact ⟨p, F, rfl, hm, hb, hF⟩
end
end Wd
end Go.Proofs.Ytpilbpofikdkmaa
