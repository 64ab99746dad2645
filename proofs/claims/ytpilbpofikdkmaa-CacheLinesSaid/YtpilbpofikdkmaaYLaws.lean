/- The laws' walks, their arguments in the laws' order. -/
import Derived.Test.YtpilbpofikdkmaaYShell
import Derived.Test.YtpilbpofikdkmaaYPlays
import Derived.Test.YtpilbpofikdkmaaYLines
import Derived.Test.YtpilbpofikdkmaaYTrue
namespace Go.Proofs.Ytpilbpofikdkmaa
open Go.RowKit
set_option linter.unusedVariables false
namespace Wd
section
variable {CA : CAt} {w : World} {ad : Option Addr} {n cap : Nat}
theorem plays_s (K : CacK CA) (HA : AskV w ad n) (hn : n * 32 ≤ 140737488351232) : Calls Try.prog 4 #[.slice ad n cap] w fun e w' => e = .returned (.bool true) ∧ Below w.heap.size w w' := plays_any K HA hn
theorem true_s (K : CacK CA) (HA : AskV w ad n) (hn : n * 32 ≤ 140737488351232) : Calls Try.prog 5 #[.slice ad n cap] w fun e w' => e = .returned (.bool true) ∧ Below w.heap.size w w' := true_any K HA (by omega)
theorem lines_s (K : CacK CA) (a : Int) (_ : I64 a) (b : Int) (_ : I64 b) (c : Int) (_ : I64 c) (d : Int) (_ : I64 d) (w : World) : Calls Try.prog 6 #[.int .i64 a, .int .i64 b, .int .i64 c, .int .i64 d] w fun e w' => e = .returned (.bool true) ∧ Below w.heap.size w w' := lines_any K w a b c d
end
end Wd
end Go.Proofs.Ytpilbpofikdkmaa
