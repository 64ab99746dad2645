/- The laws' walks, their arguments in the laws' order. -/
import Derived.Test.YtbefmkkmkjogcaaIShell
import Derived.Test.YtbefmkkmkjogcaaIKeys
import Derived.Test.YtbefmkkmkjogcaaIArgs
import Derived.Test.YtbefmkkmkjogcaaITells
namespace Go.Proofs.Ytbefmkkmkjogcaa
open Go.RowKit
set_option linter.unusedVariables false
namespace Wd
section
variable {NA : NAt} {w : World} {ad rd : Option Addr} {n cap rn rc : Nat} {S : Nat → ByteArray} {L : List UInt8}
theorem tells_s (K : NameK NA) (a b : ByteArray) (HR : BytV w rd rn L) (HA : StrV w ad n S) (hn : n ≤ 9223372036854775807) : Calls Try.prog 4 #[.string a, .string b, .slice rd rn rc, .slice ad n cap] w fun e w' => e = .returned (.bool true) ∧ Below w.heap.size w w' := tells_any K.nam K.tex K.tab a b HR HA hn
theorem keys_s (K : NameK NA) (HA : StrV w ad n S) (hn : n ≤ 9223372036854775807) : Calls Try.prog 5 #[.slice ad n cap] w fun e w' => e = .returned (.bool true) ∧ Below w.heap.size w w' := keys_any K.nam K.tex K.tab HA hn
theorem args_s (K : NameK NA) (s : ByteArray) (x : Int) (hx : -9223372036854775808 ≤ x ∧ x ≤ 9223372036854775807) : Calls Try.prog 6 #[.string s, .int .i64 x] w fun e w' => e = .returned (.bool true) ∧ Below w.heap.size w w' := args_any K.nam K.tex K.tab s x hx.1 hx.2 w
end
end Wd
end Go.Proofs.Ytbefmkkmkjogcaa
