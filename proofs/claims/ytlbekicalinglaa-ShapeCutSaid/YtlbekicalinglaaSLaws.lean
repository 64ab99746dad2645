/- The laws' walks, their arguments in the laws' order. -/
import Derived.Test.YtlbekicalinglaaSShell
import Derived.Test.YtlbekicalinglaaSChains
import Derived.Test.YtlbekicalinglaaSCut
import Derived.Test.YtlbekicalinglaaSFields
import Derived.Test.YtlbekicalinglaaSTells
namespace Go.Proofs.Ytlbekicalinglaa
open Go.RowKit
set_option linter.unusedVariables false
namespace Wd
section
variable {w : World} {ad : Option Addr} {n cap : Nat}
theorem cut_s (K : ShapeK) (HA : NumA w ad n) (hn : n ≤ 4611686018427387904) (x : Int) (hx : In64 x) : Calls Try.prog 7 #[.slice ad n cap, .int .i64 x] w fun e w' => e = .returned (.bool true) ∧ Below w.heap.size w w' := cut_any K x hx HA hn
theorem chains_s (K : ShapeK) (HA : NumA w ad n) (hn : n ≤ 4611686018427387904) (x : Int) (hx : In64 x) : Calls Try.prog 5 #[.slice ad n cap, .int .i64 x] w fun e w' => e = .returned (.bool true) ∧ Below w.heap.size w w' := chains_any K x hx HA hn
theorem fields_s (K : ShapeK) (HA : NumA w ad n) (hn : n ≤ 4611686018427387904) (x : Int) (hx : In64 x) : Calls Try.prog 6 #[.slice ad n cap, .int .i64 x] w fun e w' => e = .returned (.bool true) ∧ Below w.heap.size w w' := fields_any K x hx HA hn
theorem tells_s (K : ShapeK) (HA : NumA w ad n) (hn : n ≤ 4611686018427387904) (what : Int) (hw : In64 what) (at_ : Int) (ha : In64 at_) (x : Int) (hx : In64 x) {raw : Value} {L0 : List ClassA} (hr : ClV w raw L0) (names : Int) (hna : In64 names) (methods : Int) (hme : In64 methods) :
    Calls Try.prog 4 #[.slice ad n cap, .int .i64 what, .int .i64 at_, .int .i64 x, raw, .int .i64 names, .int .i64 methods] w fun e w' => e = .returned (.bool true) ∧ Below w.heap.size w w' := tells_any K HA hn what at_ x hw ha hx hr names methods hna hme
end
end Wd
end Go.Proofs.Ytlbekicalinglaa
