/- What the laws ask of a table of identities, whoever keeps it. -/
import Derived.Test.YtekjengdiakaaaaTZero
import Derived.OpenShut
import Derived.Deep.RegionHeld3
namespace Go.Proofs.Ytekjengdiakaaaa
open Go.RowKit
set_option linter.unusedVariables false
namespace Wd
def plOk (p : Pl) : Prop := (-9223372036854775808 ≤ p.1 ∧ p.1 ≤ 9223372036854775807) ∧ (-9223372036854775808 ≤ p.2 ∧ p.2 ≤ 9223372036854775807)
def atP (T : Tst) (i : Int) : Pl := if hasT T i then (T i.toNat).getD (0, 0) else (0, 0)
abbrev TAt := World → Nat → Tst → (Nat → Prop) → Prop
/-- what the laws ask of the package's table: 'TA w p T F': at block p lies a table, its identities' places are T; it lies in the blocks F -/
structure TableK (TA : TAt) : Prop where
  lt : ∀ {w p T F}, TA w p T F → ∀ k, F k → k < w.heap.size
  keep : ∀ {w w' p T F}, TA w p T F → (∀ k, F k → w'.heap[k]? = w.heap[k]?) → TA w' p T F
  take : ∀ {w p T F} (pl : Pl), TA w p T F → plOk pl → Calls Try.prog 9 #[.pointer (some ⟨p, 0, none⟩), plV pl] w fun e w' => ∃ F', e = .returned (.int .i64 (takeI T pl)) ∧ TA w' p (takeT T pl) F' ∧ Ch F w w' ∧ Newer F F' w.heap.size
  give : ∀ {w p T F} (i : Int), TA w p T F → (-9223372036854775808 ≤ i) → (i ≤ 9223372036854775807) → Calls Try.prog 10 #[.pointer (some ⟨p, 0, none⟩), .int .i64 i] w fun e w' => ∃ F', e = .returned (.bool (hasT T i)) ∧ TA w' p (giveT T i) F' ∧ Ch F w w' ∧ Newer F F' w.heap.size
  swap : ∀ {w p T F} (i j : Int), TA w p T F → (-9223372036854775808 ≤ i) → (i ≤ 9223372036854775807) → (-9223372036854775808 ≤ j) → (j ≤ 9223372036854775807) → Calls Try.prog 16 #[.pointer (some ⟨p, 0, none⟩), .int .i64 i, .int .i64 j] w fun e w' => ∃ F', e = .returned (.bool (swapB T i j)) ∧ TA w' p (swapT T i j) F' ∧ Ch F w w' ∧ Newer F F' w.heap.size
  at' : ∀ {w p T F} (i : Int), TA w p T F → (-9223372036854775808 ≤ i) → (i ≤ 9223372036854775807) → Calls Try.prog 14 #[.pointer (some ⟨p, 0, none⟩), .int .i64 i] w fun e w' => e = .returned (.tuple #[plV (atP T i), .bool (hasT T i)]) ∧ Below w.heap.size w w'
  of : ∀ {w p T F} (pl : Pl), TA w p T F → plOk pl → Calls Try.prog 15 #[.pointer (some ⟨p, 0, none⟩), plV pl] w fun e w' => e = .returned (.tuple #[.int .i64 (ofI T pl), .bool (ofR T pl).isSome]) ∧ Below w.heap.size w w'
  ids : ∀ {w p T F}, TA w p T F → Calls Try.prog 13 #[.pointer (some ⟨p, 0, none⟩)] w fun e w' => ∃ u, e = .returned u ∧ SL w' 3 u (idsT T) ∧ Below w.heap.size w w' ∧ (∀ g, u.ownBlock = some g → w.heap.size ≤ g)
  new : ∀ {w}, Calls Try.prog 8 #[] w fun e w' => ∃ p F, e = .returned (.pointer (some ⟨p, 0, none⟩)) ∧ TA w' p noT F ∧ (∀ k, F k → w.heap.size ≤ k) ∧ Below w.heap.size w w'
/-- the state of a play: a table of the package's and one of the document's, both of the call's own -/
structure PSt (TA : TAt) (w0 wr : World) (p b : Nat) (T : Tst) (F : Nat → Prop) : Prop where
  ta : TA wr p T F
  ref : RefT wr b T
  a1 : ¬ F b
  bel : Below w0.heap.size w0 wr
  fF : ∀ k, F k → w0.heap.size ≤ k
  fb : w0.heap.size ≤ b
section
variable {TA : TAt} {w0 wr wA w1 w2 : World} {p b : Nat} {T T' : Tst} {F F' : Nat → Prop}
theorem PSt.keep (K : TableK TA) (h : PSt TA w0 wr p b T F) (g : Below wr.heap.size wr wA) : PSt TA w0 wA p b T F :=
  ⟨K.keep h.ta (fun k hk => g.block k (K.lt h.ta k hk)), h.ref.keep g, h.a1, h.bel.trans (g.mono h.bel.size), h.fF, h.fb⟩
theorem PSt.ref1 (h : PSt TA w0 wr p b T F) (c : Ch F wr w1) : RefT w1 b T := h.ref.same (c.block b h.ref.lt h.a1)
theorem PSt.step (K : TableK TA) (h : PSt TA w0 wr p b T F) (hm : TA w1 p T' F') (c : Ch F wr w1) (hn : Newer F F' wr.heap.size) (href : RefT w2 b T') (hg : Ch (fun k => k = b) w1 w2) : PSt TA w0 w2 p b T' F' := by
  have hb := h.ref.lt
  have nb : ¬ F' b := fun hF => by
    rcases hn b hF with h' | h'
    · exact h.a1 h'
    · omega
  have b1 := below_ch h.bel c h.fF
  have b2 := below_ch b1 hg (fun k hk => by subst hk; exact h.fb)
  refine ⟨K.keep hm (fun k hk => hg.block k (K.lt hm k hk) (fun e => by subst e; exact nb hk)), href, nb, b2, fun k hk => ?_, h.fb⟩
  rcases hn k hk with h' | h'
  · exact h.fF k h'
  · exact Nat.le_trans h.bel.size h'
end
/-- a table of the package's, of the call's own -/
structure PT (TA : TAt) (w0 wr : World) (p : Nat) (T : Tst) (F : Nat → Prop) : Prop where
  ta : TA wr p T F
  bel : Below w0.heap.size w0 wr
  fF : ∀ k, F k → w0.heap.size ≤ k
section
variable {TA : TAt} {w0 wr wA w1 : World} {p : Nat} {T T' : Tst} {F F' : Nat → Prop}
theorem PT.keep (K : TableK TA) (h : PT TA w0 wr p T F) (g : Below wr.heap.size wr wA) : PT TA w0 wA p T F :=
  ⟨K.keep h.ta (fun k hk => g.block k (K.lt h.ta k hk)), h.bel.trans (g.mono h.bel.size), h.fF⟩
theorem PT.step (h : PT TA w0 wr p T F) (hm : TA w1 p T' F') (c : Ch F wr w1) (hn : Newer F F' wr.heap.size) : PT TA w0 w1 p T' F' := by
  refine ⟨hm, below_ch h.bel c h.fF, fun k hk => ?_⟩
  rcases hn k hk with h' | h'
  · exact h.fF k h'
  · exact Nat.le_trans h.bel.size h'
end
theorem idsT_len (T : Tst) : (idsT T).length ≤ 1024 := idsK_len T 1024
end Wd
end Go.Proofs.Ytekjengdiakaaaa
