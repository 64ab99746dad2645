/- The landed package code is what the laws ask. -/
import Derived.Test.YthlijmdohejheaaCB
import Derived.Test.YthlijmdohejheaaCF
import Derived.Test.YthlijmdohejheaaCG
namespace Go.Proofs.Ythlijmdohejheaa
open Go.RowKit
set_option linter.unusedVariables false
namespace Wd
theorem KK : CodeK where
  fetch := fun h pc hp => kfetch_c h pc hp
  right := fun h hu => kright_c h hu
  takes := fun p hp w => ktakes_c p hp w
  name := fun p hp w => kname_c p hp w
  bytes := fun h hl => kbytes_c h hl
end Wd
end Go.Proofs.Ythlijmdohejheaa
