/- The laws' walks, their arguments in the laws' order. -/
import Derived.Test.YtdpckckfkpefnaaJShell
import Derived.Test.YtdpckckfkpefnaaJOrder
import Derived.Test.YtdpckckfkpefnaaJTells
import Derived.Test.YtdpckckfkpefnaaJBnd
namespace Go.Proofs.Ytdpckckfkpefnaa
open Go.RowKit
set_option linter.unusedVariables false
namespace Wd
section
variable {DA : DAt} {w : World} {ad : Option Addr} {n cap : Nat} {v : Value} {L : List (Int × Int)}
theorem tells_s (K : DicK DA) (HA : AskV w ad n) (hn : n * 24 ≤ 140737488351232) (HP : PrV w v L) : Calls Try.prog 4 #[.slice ad n cap, v] w fun e w' => e = .returned (.bool true) ∧ Below w.heap.size w w' := tells_any K HA hn HP
theorem bounded_s (K : DicK DA) (HA : NumA w ad n) (hn : n ≤ 4611686018427387904) (x : Int) (hx : I64 x) : Calls Try.prog 5 #[.slice ad n cap, .int .i64 x] w fun e w' => e = .returned (.bool true) ∧ Below w.heap.size w w' := bounded_any K x hx HA hn
theorem order_s (K : DicK DA) (x : Int) (hx : I64 x) (y : Int) (hy : I64 y) (w : World) : Calls Try.prog 6 #[.int .i64 x, .int .i64 y] w fun e w' => e = .returned (.bool true) ∧ Below w.heap.size w w' := order_any K x y hx hy w
end
end Wd
end Go.Proofs.Ytdpckckfkpefnaa
