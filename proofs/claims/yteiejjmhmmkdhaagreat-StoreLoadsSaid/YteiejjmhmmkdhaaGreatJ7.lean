/- Texts joined: KU. -/
import Derived.Test.YteiejjmhmmkdhaaGreatJ4
import Derived.Test.YteiejjmhmmkdhaaGreatJ5
import Derived.Test.YteiejjmhmmkdhaaGreatJ6
/- A tape's program, of all its parts. -/
namespace Go.Proofs.YteiejjmhmmkdhaaGreat
open Go.RowKit
set_option linter.unusedVariables false
namespace Wd
theorem unit_c {w:World} {p n:Nat} {ad:Option Addr} (h:Tp w p ad n) :
  Calls Tryz.prog 9 #[.pointer (some ⟨p,0,none⟩)] w fun e w'=>∃ nv cv mv ov,e=.returned (.agg #[nv,cv,mv,ov,.int .i64 6])∧∃ U,UnV w' nv cv mv ov U∧TapeU U∧Tp w' p ad n∧Cg (fun k=>k=p) w w'∧UnF (w.heap.size+1) w' nv cv mv ov U:=unit_k (methodC pieceC) h
end Wd
end Go.Proofs.YteiejjmhmmkdhaaGreat
