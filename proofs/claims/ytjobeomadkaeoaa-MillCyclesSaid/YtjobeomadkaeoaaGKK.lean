/- The package's mill keeps what the laws ask of a mill. -/
import Derived.Test.YtjobeomadkaeoaaGNew
namespace Go.Proofs.Ytjobeomadkaeoaa
open Go.RowKit
set_option linter.unusedVariables false
namespace Wd
theorem newer_same (F : Nat → Prop) (s : Nat) : Newer F F s := fun _ h => Or.inl h
theorem below_eq {w w' : World} (e : w' = w) : Below w.heap.size w w' := e ▸ Below.refl _ _
theorem KK : MillK MA where
  lt := fun h => h.lt
  keep := fun h hk => h.keep hk
  alloc := fun h => (galloc_k h).mono (by rintro e w' ⟨rfl, d1, d2⟩; exact ⟨_, rfl, d1, d2, newer_same _ _⟩)
  scan := fun h => (gscan_k h).mono (by rintro e w' ⟨rfl, d1, d2⟩; exact ⟨_, rfl, d1, d2, newer_same _ _⟩)
  shade := fun i h _ _ => (gshade_k i h).mono (by rintro e w' ⟨rfl, d1, d2⟩; exact ⟨_, rfl, d1, d2, newer_same _ _⟩)
  flip := fun h => (gflip_k h).mono (by
    rintro e w' ⟨u, rfl, d1, d2, d3, d4⟩
    exact ⟨u, _, rfl, d1, d2, newer_same _ _, d3, fun g hg => ⟨d4 g hg, fun hF => by have := h.lt g hF; have := d4 g hg; omega⟩⟩)
  color := fun i h _ _ => (gcolor_k i h).mono (by rintro e w' ⟨rfl, h⟩; exact ⟨rfl, below_eq h⟩)
  count := fun c h _ _ => (gcount_k c h).mono (by rintro e w' ⟨rfl, h⟩; exact ⟨rfl, below_eq h⟩)
  list := fun c h _ _ => (glist_k c h).mono (by rintro e w' ⟨u, rfl, d1, d2, d3⟩; exact ⟨u, rfl, d1, d2, d3⟩)
  new := fun n h1 h2 => gnew_k n h1 h2
  none := fun n _ _ h => (gnew_none n h).mono (by rintro e w' ⟨rfl, h⟩; exact ⟨rfl, below_eq h⟩)
end Wd
end Go.Proofs.Ytjobeomadkaeoaa
