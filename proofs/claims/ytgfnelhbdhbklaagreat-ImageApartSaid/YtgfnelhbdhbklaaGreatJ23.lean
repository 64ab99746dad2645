/- Texts joined: ILW. -/
import Derived.Test.YtgfnelhbdhbklaaGreatJ22
/- The laws' walks, what comes in in the laws' order. -/
namespace Go.Proofs.YtgfnelhbdhbklaaGreat
open Go.RowKit
namespace Wd
theorem back_s {w : World} {ad : Option Addr} {n cap : Nat} (HA : NumA w ad n) (hn : n ≤ 4611686018427387904) (ik : Int) (hk : In64 ik) (im : Int) (m1 : 0 ≤ im) (m2 : im ≤ 255) :
    Calls Tryz.prog 5 #[.slice ad n cap, .int .i64 ik, .int .u8 im] w fun e w' => e = .returned (.bool true) ∧ Below w.heap.size w w' := iback_any HA hn hk.1 hk.2 m1 m2
end Wd
end Go.Proofs.YtgfnelhbdhbklaaGreat
