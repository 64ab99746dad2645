/- Texts joined: ULW. -/
import Derived.Test.YtgfdgdbkifkehaaGreatJ11
import Derived.Test.YtgfdgdbkifkehaaGreatJ17
/- The walks, their arguments in the laws' order. -/
namespace Go.Proofs.YtgfdgdbkifkehaaGreat
open Go.RowKit
set_option linter.unusedVariables false
namespace Wd
section
variable {w : World} {v : Value} {ad : Option Addr} {n cap : Nat} {R : UnitA}
theorem tells_s (K : UnitK) (HA : NumA w ad n) (hn : n ≤ 4611686018427387904) (a : Int) (ha : In64 a) (b : Int) (hb : In64 b) (c : Int) (hc : In64 c) (hR : UnK w v R) (hz : SzR R) (d : Int) (hd : In64 d) (e : Int) (he : In64 e) : Calls Tryz.prog 4 #[.slice ad n cap, .int .i64 a, .int .i64 b, .int .i64 c, v, .int .i64 d, .int .i64 e] w fun e w' => e = .returned (.bool true) ∧ Below w.heap.size w w' := utells_any K HA hn a b c ha hb hc hR hz d e hd he
end
end Wd
end Go.Proofs.YtgfdgdbkifkehaaGreat
