/- The walks, their arguments in the laws' order. -/
import Derived.Test.YthlijmdohejheaaOShell
import Derived.Test.YthlijmdohejheaaOTells
import Derived.Test.YthlijmdohejheaaOBytes
import Derived.Test.YthlijmdohejheaaOEnds
import Derived.Test.YthlijmdohejheaaOLits
namespace Go.Proofs.Ythlijmdohejheaa
open Go.RowKit
set_option linter.unusedVariables false
namespace Wd
section
variable {w : World} {v : Value} {ad : Option Addr} {n cap : Nat} {m : MethA} {L : List (Int × Int)}
theorem tells_s (K : CodeK) (HA : NumA w ad n) (hn : n ≤ 4611686018427387904) (a : Int) (ha : In64 a) (b : Int) (hb : In64 b) (c : Int) (hc : In64 c) (d : Int) (hd : In64 d) (hM : MeV w v m) : Calls Try.prog 4 #[.slice ad n cap, .int .i64 a, .int .i64 b, .int .i64 c, .int .i64 d, v] w fun e w' => e = .returned (.bool true) ∧ Below w.heap.size w w' := tells_any K HA hn a b c d ha hb hc hd hM
theorem bytes_s (K : CodeK) (HP : PrV w v L) (x : Int) (hx : In64 x) : Calls Try.prog 5 #[v, .int .i64 x] w fun e w' => e = .returned (.bool true) ∧ Below w.heap.size w w' := bytes_any K HP x hx
theorem ends_s (K : CodeK) (a : Int) (ha : In64 a) (b : Int) (hb : In64 b) (c : Int) (hc : In64 c) (w : World) : Calls Try.prog 6 #[.int .i64 a, .int .i64 b, .int .i64 c] w fun e w' => e = .returned (.bool true) ∧ Below w.heap.size w w' := ends_any K a b c ha hb hc w
theorem lits_s (K : CodeK) (a : Int) (ha : In64 a) (b : Int) (hb : In64 b) (c : Int) (hc : In64 c) (w : World) : Calls Try.prog 7 #[.int .i64 a, .int .i64 b, .int .i64 c] w fun e w' => e = .returned (.bool true) ∧ Below w.heap.size w w' := lits_any K a b c ha hb hc w
end
end Wd
end Go.Proofs.Ythlijmdohejheaa
