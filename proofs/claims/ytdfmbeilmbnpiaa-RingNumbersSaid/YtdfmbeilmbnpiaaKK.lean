/- The ring of the package keeps what the laws ask of a ring. -/
import Derived.Test.YtdfmbeilmbnpiaaKOut
import Derived.Test.YtdfmbeilmbnpiaaKIn
import Derived.Test.YtdfmbeilmbnpiaaKNew
import Derived.Test.YtdfmbeilmbnpiaaKFrom
namespace Go.Proofs.Ytdfmbeilmbnpiaa
open Go.RowKit
namespace Wd
theorem KK : RingK RA where
  lt := by
    rintro w p n L F ⟨g1, g2, f, h, rfl, hB, hL⟩
    exact hB.lt (by have := hL.n1; omega)
  keep := by
    rintro w w' p n L F ⟨g1, g2, f, h, rfl, hB, hL⟩ hk
    exact ⟨g1, g2, f, h, rfl, hB.same hk, hL⟩
  next := fun i hR _ _ => (next_k i hR).mono (by rintro e w' ⟨rfl, rfl⟩; exact ⟨rfl, 0, rfl⟩)
  prev := fun i hR _ _ => (prev_k i hR).mono (by rintro e w' ⟨rfl, rfl⟩; exact ⟨rfl, 0, rfl⟩)
  from' := fun i hR _ _ => from_k i hR
  len := fun hR => (len_k hR).mono (by rintro e w' ⟨rfl, rfl⟩; exact ⟨rfl, 0, rfl⟩)
  out := fun i hR _ _ => out_k i hR
  put := fun i a hR _ _ _ _ => in_k i a hR
  new := fun n h1 h2 => new_k n h1 h2
  none := fun n _ _ h => new_none n h
end Wd
end Go.Proofs.Ytdfmbeilmbnpiaa
