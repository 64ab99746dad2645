/- Texts joined: UTM, UTR, YO, YI, YP. -/
import Derived.Test.YteiejjmhmmkdhaaGreatJ3
import Derived.Test.YteiejjmhmmkdhaaGreatJ8
import Derived.Test.YteiejjmhmmkdhaaGreatJ10
import Derived.Test.YteiejjmhmmkdhaaGreatJ11
import Derived.Test.YteiejjmhmmkdhaaGreatJ13
import Derived.Test.YteiejjmhmmkdhaaGreatJ14
import Derived.Test.YteiejjmhmmkdhaaGreatJ20
/- A tape's methods are right. -/
namespace Go.Proofs.YteiejjmhmmkdhaaGreat
open Go.RowKit
set_option linter.unusedVariables false
set_option maxRecDepth 20000
namespace Wd
theorem wr8_id {x:Int} (h0:0≤x) (h1:x≤255):wr8 x=x:=by
 have e:wr8 x=x % 256:=by
  unfold wr8 IntKind.wrap
  rfl
 rw [e];omega
def insW (j n:Nat) (y:Int × Int):Prop :=
 ((y.1=0∨y.1=10)∧y.2 < 2)∨((y.1=1∨y.1=11)∧y.2 < 62)∨(y.1=2∧0≤y.2∧y.2 < 4)∨((y.1=12∨y.1=13)∧4≤y.2∧y.2 < 10)∨(y.1=20∧10≤y.2∧y.2 < 12)∨(y.1=18∧12≤y.2∧y.2 < 14)∨(y.1=17∧(j:Int)+1+y.2≤n)∨(y.1=21∧y.2≤23)∨((3≤y.1∧y.1≤9)∨y.1=14∨y.1=19)
theorem w_mk {j n:Nat} {a b:Int} (h:((a=0∨a=10)∧b < 2)∨((a=1∨a=11)∧b < 62)∨(a=2∧0≤b∧b < 4)∨((a=12∨a=13)∧4≤b∧b < 10)∨(a=20∧10≤b∧b < 12)∨(a=18∧12≤b∧b < 14)∨(a=17∧(j:Int)+1+b≤n)∨(a=21∧b≤23)∨((3≤a∧a≤9)∨a=14∨a=19)):insW j n (a,b):=h
theorem w_A {l:List (Int × Int)} (h:pkA l) {j:Nat} {z9:Int × Int} (hj:l[j]?=some z9):insW j l.length z9:=by
 obtain⟨a,ha,rfl⟩:=h
 rcases (show j=0∨j=1∨j=2 by have:=(List.getElem?_eq_some_iff.1 hj).1;simp at this;omega) with rfl | rfl | rfl
 ·obtain rfl:(wr8 7,wr8 a)=z9:=by simpa using hj
  have b9:=wr8_bd a
  rw [wr8_id (x:=7) (by omega) (by omega)]
  refine w_mk (n:=3) ?_
  omega
 ·obtain rfl:(wr8 21,wr8 10)=z9:=by simpa using hj
  have b9:=wr8_bd 10
  rw [wr8_id (x:=21) (by omega) (by omega)]
  rw [wr8_id (x:=10) (by omega) (by omega)]
  refine w_mk (n:=3) ?_
  omega
 ·obtain rfl:(wr8 8,wr8 0)=z9:=by simpa using hj
  have b9:=wr8_bd 0
  rw [wr8_id (x:=8) (by omega) (by omega)]
  refine w_mk (n:=3) ?_
  omega
theorem w_B {l:List (Int × Int)} (h:pkB l) {j:Nat} {z9:Int × Int} (hj:l[j]?=some z9):insW j l.length z9:=by
 obtain⟨s,hs,rfl⟩:=h
 rcases (show j=0∨j=1∨j=2 by have:=(List.getElem?_eq_some_iff.1 hj).1;simp at this;omega) with rfl | rfl | rfl
 ·obtain rfl:(wr8 3,wr8 0)=z9:=by simpa using hj
  have b9:=wr8_bd 0
  rw [wr8_id (x:=3) (by omega) (by omega)]
  refine w_mk (n:=3) ?_
  omega
 ·obtain rfl:(wr8 12,wr8 s)=z9:=by simpa using hj
  have b9:=wr8_bd s
  rw [wr8_id (x:=12) (by omega) (by omega)]
  rw [wr8_id (x:=s) (by omega) (by omega)]
  refine w_mk (n:=3) ?_
  omega
 ·obtain rfl:(wr8 8,wr8 0)=z9:=by simpa using hj
  have b9:=wr8_bd 0
  rw [wr8_id (x:=8) (by omega) (by omega)]
  refine w_mk (n:=3) ?_
  omega
theorem w_C {l:List (Int × Int)} (h:pkC l) {j:Nat} {z9:Int × Int} (hj:l[j]?=some z9):insW j l.length z9:=by
 obtain⟨a,x,ha,hx,rfl⟩:=h
 rcases (show j=0∨j=1∨j=2∨j=3∨j=4 by have:=(List.getElem?_eq_some_iff.1 hj).1;simp at this;omega) with rfl | rfl | rfl | rfl | rfl
 ·obtain rfl:(wr8 3,wr8 0)=z9:=by simpa using hj
  have b9:=wr8_bd 0
  rw [wr8_id (x:=3) (by omega) (by omega)]
  refine w_mk (n:=5) ?_
  omega
 ·obtain rfl:(wr8 7,wr8 a)=z9:=by simpa using hj
  have b9:=wr8_bd a
  rw [wr8_id (x:=7) (by omega) (by omega)]
  refine w_mk (n:=5) ?_
  omega
 ·obtain rfl:(wr8 12,wr8 (5+x))=z9:=by simpa using hj
  have b9:=wr8_bd (5+x)
  rw [wr8_id (x:=12) (by omega) (by omega)]
  rw [wr8_id (x:=(5+x)) (by omega) (by omega)]
  refine w_mk (n:=5) ?_
  omega
 ·obtain rfl:(wr8 21,wr8 10)=z9:=by simpa using hj
  have b9:=wr8_bd 10
  rw [wr8_id (x:=21) (by omega) (by omega)]
  rw [wr8_id (x:=10) (by omega) (by omega)]
  refine w_mk (n:=5) ?_
  omega
 ·obtain rfl:(wr8 8,wr8 0)=z9:=by simpa using hj
  have b9:=wr8_bd 0
  rw [wr8_id (x:=8) (by omega) (by omega)]
  refine w_mk (n:=5) ?_
  omega
theorem w_D {l:List (Int × Int)} (h:pkD l) {j:Nat} {z9:Int × Int} (hj:l[j]?=some z9):insW j l.length z9:=by
 obtain⟨i,a,q,hi,ha,hq,rfl⟩:=h
 rcases (show j=0∨j=1∨j=2∨j=3∨j=4 by have:=(List.getElem?_eq_some_iff.1 hj).1;simp at this;omega) with rfl | rfl | rfl | rfl | rfl
 ·obtain rfl:(wr8 2,wr8 i)=z9:=by simpa using hj
  have b9:=wr8_bd i
  rw [wr8_id (x:=2) (by omega) (by omega)]
  rw [wr8_id (x:=i) (by omega) (by omega)]
  refine w_mk (n:=5) ?_
  omega
 ·obtain rfl:(wr8 7,wr8 (a - 9))=z9:=by simpa using hj
  have b9:=wr8_bd (a - 9)
  rw [wr8_id (x:=7) (by omega) (by omega)]
  refine w_mk (n:=5) ?_
  omega
 ·obtain rfl:(wr8 21,wr8 q)=z9:=by simpa using hj
  have b9:=wr8_bd q
  rw [wr8_id (x:=21) (by omega) (by omega)]
  rw [wr8_id (x:=q) (by omega) (by omega)]
  refine w_mk (n:=5) ?_
  omega
 ·obtain rfl:(wr8 21,wr8 10)=z9:=by simpa using hj
  have b9:=wr8_bd 10
  rw [wr8_id (x:=21) (by omega) (by omega)]
  rw [wr8_id (x:=10) (by omega) (by omega)]
  refine w_mk (n:=5) ?_
  omega
 ·obtain rfl:(wr8 8,wr8 0)=z9:=by simpa using hj
  have b9:=wr8_bd 0
  rw [wr8_id (x:=8) (by omega) (by omega)]
  refine w_mk (n:=5) ?_
  omega
theorem w_E {l:List (Int × Int)} (h:pkE l) {j:Nat} {z9:Int × Int} (hj:l[j]?=some z9):insW j l.length z9:=by
 obtain⟨x,y,hx,hy,rfl⟩:=h
 rcases (show j=0∨j=1∨j=2 by have:=(List.getElem?_eq_some_iff.1 hj).1;simp at this;omega) with rfl | rfl | rfl
 ·obtain rfl:(wr8 20,wr8 (10+x))=z9:=by simpa using hj
  have b9:=wr8_bd (10+x)
  rw [wr8_id (x:=20) (by omega) (by omega)]
  rw [wr8_id (x:=(10+x)) (by omega) (by omega)]
  refine w_mk (n:=3) ?_
  omega
 ·obtain rfl:(wr8 10,wr8 y)=z9:=by simpa using hj
  have b9:=wr8_bd y
  rw [wr8_id (x:=10) (by omega) (by omega)]
  rw [wr8_id (x:=y) (by omega) (by omega)]
  refine w_mk (n:=3) ?_
  omega
 ·obtain rfl:(wr8 8,wr8 0)=z9:=by simpa using hj
  have b9:=wr8_bd 0
  rw [wr8_id (x:=8) (by omega) (by omega)]
  refine w_mk (n:=3) ?_
  omega
theorem w_F {l:List (Int × Int)} (h:pkF l) {j:Nat} {z9:Int × Int} (hj:l[j]?=some z9):insW j l.length z9:=by
 obtain⟨a,y,ha,hy,rfl⟩:=h
 rcases (show j=0∨j=1∨j=2∨j=3 by have:=(List.getElem?_eq_some_iff.1 hj).1;simp at this;omega) with rfl | rfl | rfl | rfl
 ·obtain rfl:(wr8 7,wr8 a)=z9:=by simpa using hj
  have b9:=wr8_bd a
  rw [wr8_id (x:=7) (by omega) (by omega)]
  refine w_mk (n:=4) ?_
  omega
 ·obtain rfl:(wr8 21,wr8 18)=z9:=by simpa using hj
  have b9:=wr8_bd 18
  rw [wr8_id (x:=21) (by omega) (by omega)]
  rw [wr8_id (x:=18) (by omega) (by omega)]
  refine w_mk (n:=4) ?_
  omega
 ·obtain rfl:(wr8 10,wr8 y)=z9:=by simpa using hj
  have b9:=wr8_bd y
  rw [wr8_id (x:=10) (by omega) (by omega)]
  rw [wr8_id (x:=y) (by omega) (by omega)]
  refine w_mk (n:=4) ?_
  omega
 ·obtain rfl:(wr8 8,wr8 0)=z9:=by simpa using hj
  have b9:=wr8_bd 0
  rw [wr8_id (x:=8) (by omega) (by omega)]
  refine w_mk (n:=4) ?_
  omega
theorem w_G {l:List (Int × Int)} (h:pkG l) {j:Nat} {z9:Int × Int} (hj:l[j]?=some z9):insW j l.length z9:=by
 obtain⟨x,k,s,z,hx,hk,hs,hz,rfl⟩:=h
 rcases (show j=0∨j=1∨j=2∨j=3∨j=4 by have:=(List.getElem?_eq_some_iff.1 hj).1;simp at this;omega) with rfl | rfl | rfl | rfl | rfl
 ·obtain rfl:(wr8 0,wr8 x)=z9:=by simpa using hj
  have b9:=wr8_bd x
  rw [wr8_id (x:=0) (by omega) (by omega)]
  rw [wr8_id (x:=x) (by omega) (by omega)]
  refine w_mk (n:=5) ?_
  omega
 ·obtain rfl:(wr8 7,wr8 k)=z9:=by simpa using hj
  have b9:=wr8_bd k
  rw [wr8_id (x:=7) (by omega) (by omega)]
  refine w_mk (n:=5) ?_
  omega
 ·obtain rfl:(wr8 s,wr8 z)=z9:=by simpa using hj
  have b9:=wr8_bd z
  rw [wr8_id (x:=s) (by omega) (by omega)]
  rw [wr8_id (x:=z) (by omega) (by omega)]
  refine w_mk (n:=5) ?_
  omega
 ·obtain rfl:(wr8 21,wr8 9)=z9:=by simpa using hj
  have b9:=wr8_bd 9
  rw [wr8_id (x:=21) (by omega) (by omega)]
  rw [wr8_id (x:=9) (by omega) (by omega)]
  refine w_mk (n:=5) ?_
  omega
 ·obtain rfl:(wr8 8,wr8 0)=z9:=by simpa using hj
  have b9:=wr8_bd 0
  rw [wr8_id (x:=8) (by omega) (by omega)]
  refine w_mk (n:=5) ?_
  omega
theorem w_H {l:List (Int × Int)} (h:pkH l) {j:Nat} {z9:Int × Int} (hj:l[j]?=some z9):insW j l.length z9:=by
 obtain⟨x,k,hx,hk,rfl⟩:=h
 rcases (show j=0∨j=1∨j=2∨j=3 by have:=(List.getElem?_eq_some_iff.1 hj).1;simp at this;omega) with rfl | rfl | rfl | rfl
 ·obtain rfl:(wr8 0,wr8 x)=z9:=by simpa using hj
  have b9:=wr8_bd x
  rw [wr8_id (x:=0) (by omega) (by omega)]
  rw [wr8_id (x:=x) (by omega) (by omega)]
  refine w_mk (n:=4) ?_
  omega
 ·obtain rfl:(wr8 7,wr8 k)=z9:=by simpa using hj
  have b9:=wr8_bd k
  rw [wr8_id (x:=7) (by omega) (by omega)]
  refine w_mk (n:=4) ?_
  omega
 ·obtain rfl:(wr8 21,wr8 8)=z9:=by simpa using hj
  have b9:=wr8_bd 8
  rw [wr8_id (x:=21) (by omega) (by omega)]
  rw [wr8_id (x:=8) (by omega) (by omega)]
  refine w_mk (n:=4) ?_
  omega
 ·obtain rfl:(wr8 21,wr8 10)=z9:=by simpa using hj
  have b9:=wr8_bd 10
  rw [wr8_id (x:=21) (by omega) (by omega)]
  rw [wr8_id (x:=10) (by omega) (by omega)]
  refine w_mk (n:=4) ?_
  omega
theorem w_I {l:List (Int × Int)} (h:pkI l) {j:Nat} {z9:Int × Int} (hj:l[j]?=some z9):insW j l.length z9:=by
 unfold pkI at h
 subst h
 rcases (show j=0∨j=1∨j=2 by have:=(List.getElem?_eq_some_iff.1 hj).1;simp at this;omega) with rfl | rfl | rfl
 ·obtain rfl:(wr8 18,wr8 12)=z9:=by simpa using hj
  have b9:=wr8_bd 12
  rw [wr8_id (x:=18) (by omega) (by omega)]
  rw [wr8_id (x:=12) (by omega) (by omega)]
  refine w_mk (n:=3) ?_
  omega
 ·obtain rfl:(wr8 21,wr8 11)=z9:=by simpa using hj
  have b9:=wr8_bd 11
  rw [wr8_id (x:=21) (by omega) (by omega)]
  rw [wr8_id (x:=11) (by omega) (by omega)]
  refine w_mk (n:=3) ?_
  omega
 ·obtain rfl:(wr8 8,wr8 0)=z9:=by simpa using hj
  have b9:=wr8_bd 0
  rw [wr8_id (x:=8) (by omega) (by omega)]
  refine w_mk (n:=3) ?_
  omega
theorem w_J {l:List (Int × Int)} (h:pkJ l) {j:Nat} {z9:Int × Int} (hj:l[j]?=some z9):insW j l.length z9:=by
 obtain⟨a,ha,rfl⟩:=h
 rcases (show j=0∨j=1∨j=2∨j=3 by have:=(List.getElem?_eq_some_iff.1 hj).1;simp at this;omega) with rfl | rfl | rfl | rfl
 ·obtain rfl:(wr8 18,wr8 13)=z9:=by simpa using hj
  have b9:=wr8_bd 13
  rw [wr8_id (x:=18) (by omega) (by omega)]
  rw [wr8_id (x:=13) (by omega) (by omega)]
  refine w_mk (n:=4) ?_
  omega
 ·obtain rfl:(wr8 7,wr8 a)=z9:=by simpa using hj
  have b9:=wr8_bd a
  rw [wr8_id (x:=7) (by omega) (by omega)]
  refine w_mk (n:=4) ?_
  omega
 ·obtain rfl:(wr8 21,wr8 12)=z9:=by simpa using hj
  have b9:=wr8_bd 12
  rw [wr8_id (x:=21) (by omega) (by omega)]
  rw [wr8_id (x:=12) (by omega) (by omega)]
  refine w_mk (n:=4) ?_
  omega
 ·obtain rfl:(wr8 8,wr8 0)=z9:=by simpa using hj
  have b9:=wr8_bd 0
  rw [wr8_id (x:=8) (by omega) (by omega)]
  refine w_mk (n:=4) ?_
  omega
theorem w_K {l:List (Int × Int)} (h:pkK l) {j:Nat} {z9:Int × Int} (hj:l[j]?=some z9):insW j l.length z9:=by
 obtain⟨k,hk,rfl⟩:=h
 rcases (show j=0∨j=1∨j=2∨j=3 by have:=(List.getElem?_eq_some_iff.1 hj).1;simp at this;omega) with rfl | rfl | rfl | rfl
 ·obtain rfl:(wr8 18,wr8 12)=z9:=by simpa using hj
  have b9:=wr8_bd 12
  rw [wr8_id (x:=18) (by omega) (by omega)]
  rw [wr8_id (x:=12) (by omega) (by omega)]
  refine w_mk (n:=4) ?_
  omega
 ·obtain rfl:(wr8 7,wr8 k)=z9:=by simpa using hj
  have b9:=wr8_bd k
  rw [wr8_id (x:=7) (by omega) (by omega)]
  refine w_mk (n:=4) ?_
  omega
 ·obtain rfl:(wr8 21,wr8 13)=z9:=by simpa using hj
  have b9:=wr8_bd 13
  rw [wr8_id (x:=21) (by omega) (by omega)]
  rw [wr8_id (x:=13) (by omega) (by omega)]
  refine w_mk (n:=4) ?_
  omega
 ·obtain rfl:(wr8 8,wr8 0)=z9:=by simpa using hj
  have b9:=wr8_bd 0
  rw [wr8_id (x:=8) (by omega) (by omega)]
  refine w_mk (n:=4) ?_
  omega
theorem w_L {l:List (Int × Int)} (h:pkL l) {j:Nat} {z9:Int × Int} (hj:l[j]?=some z9):insW j l.length z9:=by
 obtain⟨k,x,hk,hx,rfl⟩:=h
 rcases (show j=0∨j=1∨j=2 by have:=(List.getElem?_eq_some_iff.1 hj).1;simp at this;omega) with rfl | rfl | rfl
 ·obtain rfl:(wr8 7,wr8 k)=z9:=by simpa using hj
  have b9:=wr8_bd k
  rw [wr8_id (x:=7) (by omega) (by omega)]
  refine w_mk (n:=3) ?_
  omega
 ·obtain rfl:(wr8 21,wr8 (15+x))=z9:=by simpa using hj
  have b9:=wr8_bd (15+x)
  rw [wr8_id (x:=21) (by omega) (by omega)]
  rw [wr8_id (x:=(15+x)) (by omega) (by omega)]
  refine w_mk (n:=3) ?_
  omega
 ·obtain rfl:(wr8 8,wr8 0)=z9:=by simpa using hj
  have b9:=wr8_bd 0
  rw [wr8_id (x:=8) (by omega) (by omega)]
  refine w_mk (n:=3) ?_
  omega
theorem w_M {l:List (Int × Int)} (h:pkM l) {j:Nat} {z9:Int × Int} (hj:l[j]?=some z9):insW j l.length z9:=by
 obtain⟨s,hs,rfl⟩:=h
 rcases (show j=0∨j=1 by have:=(List.getElem?_eq_some_iff.1 hj).1;simp at this;omega) with rfl | rfl
 ·obtain rfl:(wr8 21,wr8 s)=z9:=by simpa using hj
  have b9:=wr8_bd s
  rw [wr8_id (x:=21) (by omega) (by omega)]
  rw [wr8_id (x:=s) (by omega) (by omega)]
  refine w_mk (n:=2) ?_
  omega
 ·obtain rfl:(wr8 8,wr8 0)=z9:=by simpa using hj
  have b9:=wr8_bd 0
  rw [wr8_id (x:=8) (by omega) (by omega)]
  refine w_mk (n:=2) ?_
  omega
theorem w_N {l:List (Int × Int)} (h:pkN l) {j:Nat} {z9:Int × Int} (hj:l[j]?=some z9):insW j l.length z9:=by
 obtain⟨x,a,hx,ha,rfl⟩:=h
 rcases (show j=0∨j=1∨j=2∨j=3 by have:=(List.getElem?_eq_some_iff.1 hj).1;simp at this;omega) with rfl | rfl | rfl | rfl
 ·obtain rfl:(wr8 (5+x),wr8 0)=z9:=by simpa using hj
  have b9:=wr8_bd 0
  rw [wr8_id (x:=(5+x)) (by omega) (by omega)]
  refine w_mk (n:=4) ?_
  omega
 ·obtain rfl:(wr8 17,wr8 1)=z9:=by simpa using hj
  have b9:=wr8_bd 1
  rw [wr8_id (x:=17) (by omega) (by omega)]
  rw [wr8_id (x:=1) (by omega) (by omega)]
  refine w_mk (n:=4) ?_
  omega
 ·obtain rfl:(wr8 7,wr8 a)=z9:=by simpa using hj
  have b9:=wr8_bd a
  rw [wr8_id (x:=7) (by omega) (by omega)]
  refine w_mk (n:=4) ?_
  omega
 ·obtain rfl:(wr8 8,wr8 0)=z9:=by simpa using hj
  have b9:=wr8_bd 0
  rw [wr8_id (x:=8) (by omega) (by omega)]
  refine w_mk (n:=4) ?_
  omega
theorem w_O {l:List (Int × Int)} (h:pkO l) {j:Nat} {z9:Int × Int} (hj:l[j]?=some z9):insW j l.length z9:=by
 obtain⟨k,hk,rfl⟩:=h
 rcases (show j=0∨j=1∨j=2∨j=3∨j=4 by have:=(List.getElem?_eq_some_iff.1 hj).1;simp at this;omega) with rfl | rfl | rfl | rfl | rfl
 ·obtain rfl:(wr8 0,wr8 0)=z9:=by simpa using hj
  have b9:=wr8_bd 0
  rw [wr8_id (x:=0) (by omega) (by omega)]
  refine w_mk (n:=5) ?_
  omega
 ·obtain rfl:(wr8 0,wr8 1)=z9:=by simpa using hj
  have b9:=wr8_bd 1
  rw [wr8_id (x:=0) (by omega) (by omega)]
  rw [wr8_id (x:=1) (by omega) (by omega)]
  refine w_mk (n:=5) ?_
  omega
 ·obtain rfl:(wr8 7,wr8 k)=z9:=by simpa using hj
  have b9:=wr8_bd k
  rw [wr8_id (x:=7) (by omega) (by omega)]
  refine w_mk (n:=5) ?_
  omega
 ·obtain rfl:(wr8 21,wr8 19)=z9:=by simpa using hj
  have b9:=wr8_bd 19
  rw [wr8_id (x:=21) (by omega) (by omega)]
  rw [wr8_id (x:=19) (by omega) (by omega)]
  refine w_mk (n:=5) ?_
  omega
 ·obtain rfl:(wr8 8,wr8 0)=z9:=by simpa using hj
  have b9:=wr8_bd 0
  rw [wr8_id (x:=8) (by omega) (by omega)]
  refine w_mk (n:=5) ?_
  omega
theorem w_P {l:List (Int × Int)} (h:pkP l) {j:Nat} {z9:Int × Int} (hj:l[j]?=some z9):insW j l.length z9:=by
 obtain⟨s,hs,rfl⟩:=h
 rcases (show j=0∨j=1∨j=2∨j=3 by have:=(List.getElem?_eq_some_iff.1 hj).1;simp at this;omega) with rfl | rfl | rfl | rfl
 ·obtain rfl:(wr8 0,wr8 0)=z9:=by simpa using hj
  have b9:=wr8_bd 0
  rw [wr8_id (x:=0) (by omega) (by omega)]
  refine w_mk (n:=4) ?_
  omega
 ·obtain rfl:(wr8 0,wr8 1)=z9:=by simpa using hj
  have b9:=wr8_bd 1
  rw [wr8_id (x:=0) (by omega) (by omega)]
  rw [wr8_id (x:=1) (by omega) (by omega)]
  refine w_mk (n:=4) ?_
  omega
 ·obtain rfl:(wr8 21,wr8 s)=z9:=by simpa using hj
  have b9:=wr8_bd s
  rw [wr8_id (x:=21) (by omega) (by omega)]
  rw [wr8_id (x:=s) (by omega) (by omega)]
  refine w_mk (n:=4) ?_
  omega
 ·obtain rfl:(wr8 8,wr8 0)=z9:=by simpa using hj
  have b9:=wr8_bd 0
  rw [wr8_id (x:=8) (by omega) (by omega)]
  refine w_mk (n:=4) ?_
  omega
theorem w_Q {l:List (Int × Int)} (h:pkQ l) {j:Nat} {z9:Int × Int} (hj:l[j]?=some z9):insW j l.length z9:=by
 obtain⟨x,y,hx,hy,rfl⟩:=h
 rcases (show j=0∨j=1∨j=2 by have:=(List.getElem?_eq_some_iff.1 hj).1;simp at this;omega) with rfl | rfl | rfl
 ·obtain rfl:(wr8 1,wr8 x)=z9:=by simpa using hj
  have b9:=wr8_bd x
  rw [wr8_id (x:=1) (by omega) (by omega)]
  rw [wr8_id (x:=x) (by omega) (by omega)]
  refine w_mk (n:=3) ?_
  omega
 ·obtain rfl:(wr8 11,wr8 y)=z9:=by simpa using hj
  have b9:=wr8_bd y
  rw [wr8_id (x:=11) (by omega) (by omega)]
  rw [wr8_id (x:=y) (by omega) (by omega)]
  refine w_mk (n:=3) ?_
  omega
 ·obtain rfl:(wr8 8,wr8 0)=z9:=by simpa using hj
  have b9:=wr8_bd 0
  rw [wr8_id (x:=8) (by omega) (by omega)]
  refine w_mk (n:=3) ?_
  omega
theorem w_R {l:List (Int × Int)} (h:pkR l) {j:Nat} {z9:Int × Int} (hj:l[j]?=some z9):insW j l.length z9:=by
 obtain⟨x,y,hx,hy,rfl⟩:=h
 rcases (show j=0∨j=1 by have:=(List.getElem?_eq_some_iff.1 hj).1;simp at this;omega) with rfl | rfl
 ·obtain rfl:(wr8 0,wr8 x)=z9:=by simpa using hj
  have b9:=wr8_bd x
  rw [wr8_id (x:=0) (by omega) (by omega)]
  rw [wr8_id (x:=x) (by omega) (by omega)]
  refine w_mk (n:=2) ?_
  omega
 ·obtain rfl:(wr8 11,wr8 y)=z9:=by simpa using hj
  have b9:=wr8_bd y
  rw [wr8_id (x:=11) (by omega) (by omega)]
  rw [wr8_id (x:=y) (by omega) (by omega)]
  refine w_mk (n:=2) ?_
  omega
theorem piece_w {l:List (Int × Int)} (h:pieceOk l) {j:Nat} {y:Int × Int} (hj:l[j]?=some y):insW j l.length y:=by
 rcases h with h | h | h | h | h | h | h | h | h | h | h | h | h | h | h | h | h | h
 ·exact w_A h hj
 ·exact w_B h hj
 ·exact w_C h hj
 ·exact w_D h hj
 ·exact w_E h hj
 ·exact w_F h hj
 ·exact w_G h hj
 ·exact w_H h hj
 ·exact w_I h hj
 ·exact w_J h hj
 ·exact w_K h hj
 ·exact w_L h hj
 ·exact w_M h hj
 ·exact w_N h hj
 ·exact w_O h hj
 ·exact w_P h hj
 ·exact w_Q h hj
 ·exact w_R h hj
theorem insW.in {j n o N:Nat} {y:Int × Int} (h:insW j n y) (hN:o+n < N):insW (o+j) N y∧(y.1=17→((o+j:Nat):Int)+1+y.2 < N):=by
 rcases h with h | h | h | h | h | h | ⟨h,h2⟩ | h | h
 ·exact⟨Or.inl h,fun e=>by clear hN;omega⟩
 ·exact⟨Or.inr (Or.inl h),fun e=>by clear hN;omega⟩
 ·exact⟨Or.inr (Or.inr (Or.inl h)),fun e=>by clear hN;omega⟩
 ·exact⟨Or.inr (Or.inr (Or.inr (Or.inl h))),fun e=>by clear hN;omega⟩
 ·exact⟨Or.inr (Or.inr (Or.inr (Or.inr (Or.inl h)))),fun e=>by clear hN;omega⟩
 ·exact⟨Or.inr (Or.inr (Or.inr (Or.inr (Or.inr (Or.inl h))))),fun e=>by clear hN;omega⟩
 ·exact⟨Or.inr (Or.inr (Or.inr (Or.inr (Or.inr (Or.inr (Or.inl ⟨h,by omega⟩)))))),fun e=>by omega⟩
 ·exact⟨Or.inr (Or.inr (Or.inr (Or.inr (Or.inr (Or.inr (Or.inr (Or.inl h))))))),fun e=>by clear hN;omega⟩
 ·exact⟨Or.inr (Or.inr (Or.inr (Or.inr (Or.inr (Or.inr (Or.inr (Or.inr h))))))),fun e=>by clear hN;omega⟩
theorem w_n {j n:Nat} {a b:Int} (h:(3≤a∧a≤9)∨a=14∨a=19):insW j n (a,b):=Or.inr (Or.inr (Or.inr (Or.inr (Or.inr (Or.inr (Or.inr (Or.inr h)))))))
theorem w_t {j n:Nat} {a b:Int} (h:a=0∨a=10) (h2:b < 2):insW j n (a,b):=Or.inl ⟨h,h2⟩
theorem w_s {j n:Nat} {a b:Int} (h:a=12∨a=13) (h2:4≤b) (h3:b < 10):insW j n (a,b):=Or.inr (Or.inr (Or.inr (Or.inl ⟨h,h2,h3⟩)))
def insG (N k:Nat) (y:Int × Int):Prop:=insW k N y∧(y.1=17→(k:Int)+1+y.2 < N)
theorem flatten_g:∀ (P:List (List (Int × Int))) (o N:Nat),(∀ x∈P,pieceOk x)→o+P.flatten.length < N→∀ k y,P.flatten[k]?=some y→insG N (o+k) y
 | [],_,_,_,_,k,y,hy=>by simp at hy
 | l :: P,o,N,hP,hN,k,y,hy=>by
  rw [List.flatten_cons] at hy hN
  rw [List.length_append] at hN
  by_cases hk:k < l.length
  ·rw [List.getElem?_append_left hk] at hy
   exact (piece_w (hP l (by simp)) hy).in (by omega)
  ·rw [List.getElem?_append_right (by omega)] at hy
   have:=flatten_g P (o+l.length) N (fun x hx=>hP x (by simp [hx])) (by omega) (k - l.length) y hy
   rw [show o+k=o+l.length+(k - l.length) by omega]
   exact this
theorem code_g {b:Bool} {I:List (Int × Int)} (h:codeOk b I):∀ k y,I[k]?=some y→insG I.length k y:=by
 obtain⟨P,S,q,r,l,hI,h1,h5,hP,hS,hq,hr,hl⟩:=h
 intro k y hy
 have hlen:I.length=P.flatten.length+S.length+2:=by rw [hI];simp;omega
 generalize I.length=N at *
 rw [hI,List.append_assoc] at hy
 clear hI
 by_cases hk:k < P.flatten.length
 ·rw [List.getElem?_append_left hk] at hy
  have:=flatten_g P 0 N hP (by omega) k y hy
  rwa [Nat.zero_add] at this
 rw [List.getElem?_append_right (by omega)] at hy
 generalize k - P.flatten.length=k2 at *
 clear hP h1 h5 hk
 by_cases hk2:k2 < S.length
 ·rw [List.getElem?_append_left hk2] at hy
  rcases hS with rfl | rfl
  ·simp at hk2
  ·simp only [List.length_cons,List.length_nil] at hk2
   rcases (show k2=0∨k2=1 by omega) with e | e
   ·rw [e] at hy
    obtain rfl:(wr8 3,wr8 0)=y:=by simpa using hy
    rw [wr8_id (x:=3) (by omega) (by omega)]
    exact⟨w_n (by omega),fun e=>by simp only at e;omega⟩
   ·rw [e] at hy
    obtain rfl:(wr8 13,wr8 4)=y:=by simpa using hy
    rw [wr8_id (x:=13) (by omega) (by omega),wr8_id (x:=4) (by omega) (by omega)]
    exact⟨w_s (by omega) (by omega) (by omega),fun e=>by simp only at e;omega⟩
 rw [List.getElem?_append_right (by omega)] at hy
 have hk3:=(List.getElem?_eq_some_iff.1 hy).1
 simp only [List.length_cons,List.length_nil] at hk3
 generalize k2 - S.length=k3 at *
 clear hS hk2 hlen
 rcases (show k3=0∨k3=1 by omega) with e | e
 ·rw [e] at hy
  obtain rfl:(wr8 q,wr8 r)=y:=by simpa using hy
  rw [wr8_id (x:=q) (by omega) (by omega),wr8_id (x:=r) (by omega) (by omega)]
  by_cases q0:q=0
  ·exact⟨w_t (by omega) (by omega),fun e=>by simp only at e;omega⟩
  ·exact⟨w_n (by omega),fun e=>by simp only at e;omega⟩
 ·rw [e] at hy
  obtain rfl:(wr8 l,wr8 0)=y:=by simpa using hy
  rw [wr8_id (x:=l) (by omega) (by omega),wr8_id (x:=0) (by omega) (by omega)]
  exact⟨w_n (by omega),fun e=>by simp only at e;omega⟩
theorem flat_at:∀ (I:List (Int × Int)) (k:Nat) (y:Int × Int),I[k]?=some y→byAt (flat I) (2*k)=y.1∧byAt (flat I) (2*k+1)=y.2
 | [],k,y,h=>by simp at h
 | x :: I,0,y,h=>by
  obtain rfl:x=y:=by simpa using h
  exact⟨rfl,rfl⟩
 | x :: I,k+1,y,h=>by
  have:=flat_at I k y (by simpa using h)
  rw [show 2*(k+1)=2*k+1+1 by omega,show 2*k+1+1+1=(2*k+1)+2 by omega]
  exact this
theorem lits_k {c:Int} {X:List (Int × Int)} (h:litsOk c X):X.length=14∧(∀ i:Nat,i < 4→(litAt X i).1=3)∧(∀ i:Nat,4≤i→i < 10→(litAt X i).1=5)∧(∀ i:Nat,10≤i→i < 12→(litAt X i).1=6∧1 < (litAt X i).2)∧(∀ i:Nat,12≤i→i < 14→(litAt X i).1=7):=by
 obtain⟨A,B,rfl,hA,hB,h1,h2⟩:=h
 have hS:(sels 6).length=6:=by decide
 match A,hA,B,hB with
 | [a,b,c,d],_,[e,f],_ =>
  refine⟨by simp [hS],fun i hi=>?_,fun i hi hj=>?_,fun i hi hj=>?_,fun i hi hj=>?_⟩
  ·rcases (show i=0∨i=1∨i=2∨i=3 by omega) with rfl | rfl | rfl | rfl
   ·exact (h1 a (by simp)).1
   ·exact (h1 b (by simp)).1
   ·exact (h1 c (by simp)).1
   ·exact (h1 d (by simp)).1
  ·rcases (show i=4∨i=5∨i=6∨i=7∨i=8∨i=9 by omega) with rfl | rfl | rfl | rfl | rfl | rfl <;> rfl
  ·rcases (show i=10∨i=11 by omega) with rfl | rfl
   ·obtain⟨p,q,_⟩:=h2 e (by simp)
    exact⟨p,by have:(litAt ([a,b,c,d]++sels 6++[e,f]++[(7,7),(7,8)]) ((10:Nat):Int))=e:=rfl;rw [this];omega⟩
   ·obtain⟨p,q,_⟩:=h2 f (by simp)
    exact⟨p,by have:(litAt ([a,b,c,d]++sels 6++[e,f]++[(7,7),(7,8)]) ((11:Nat):Int))=f:=rfl;rw [this];omega⟩
  ·rcases (show i=12∨i=13 by omega) with rfl | rfl <;> rfl
theorem has_at {X:List (Int × Int)} {i kind:Int} (h0:0≤i) (h1:i < (X.length:Int)) (h:(litAt X i).1=kind):hasLit X i kind=true:=by
 unfold hasLit
 rw [decide_eq_true h1,decide_eq_true h];rfl
theorem ins_ok {c:Int} {m:MethA} (hl:litsOk c m.lits) (ht:m.temps=2) (ha:0≤m.args) {k N:Nat} (hN:m.code.length=2*N) {y:Int × Int} (hy:0≤y.2) (h:insG N k y):insR m ((2*k:Nat):Int) y.1 y.2=true:=by
 obtain⟨n14,l3,l5,l6,l7⟩:=lits_k hl
 obtain⟨h,hj⟩:=h
 obtain⟨op,arg⟩:=y
 unfold insW at h
 simp only at h hj hy ⊢
 obtain⟨i,rfl⟩:∃ i:Nat,arg=i:=⟨arg.toNat,by omega⟩
 have hh3:i < 4→hasLit m.lits (i:Int) 3=true:=fun g=>has_at (by omega) (by omega) (l3 i g)
 have hh5:4≤i→i < 10→hasLit m.lits (i:Int) 5=true:=fun g g2=>has_at (by omega) (by omega) (l5 i g g2)
 have hh6:10≤i→i < 12→hasLit m.lits (i:Int) 6=true∧1 < (litAt m.lits (i:Int)).2:=fun g g2=>⟨has_at (by omega) (by omega) (l6 i g g2).1,(l6 i g g2).2⟩
 have hh7:12≤i→i < 14→hasLit m.lits (i:Int) 7=true:=fun g g2=>has_at (by omega) (by omega) (l7 i g g2)
 unfold insR
 by_cases e0:op=0∨op=10
 ·rw [if_pos e0];exact decide_eq_true (by omega)
 rw [if_neg e0]
 by_cases e1:op=1∨op=11
 ·rw [if_pos e1];exact decide_eq_true (by omega)
 rw [if_neg e1]
 by_cases e2:op=2
 ·rw [if_pos e2];exact hh3 (by omega)
 rw [if_neg e2]
 by_cases e3:op=12∨op=13
 ·rw [if_pos e3];exact hh5 (by omega) (by omega)
 rw [if_neg e3]
 by_cases e4:op=20
 ·rw [if_pos e4,(hh6 (by omega) (by omega)).1];exact decide_eq_true (hh6 (by omega) (by omega)).2
 rw [if_neg e4]
 by_cases e5:op=18
 ·rw [if_pos e5];exact hh7 (by omega) (by omega)
 rw [if_neg e5]
 by_cases e6:op=15∨op=17
 ·rw [if_pos e6,hN];exact decide_eq_true (by have:=hj (by omega);omega)
 rw [if_neg e6]
 by_cases e7:op=16
 ·omega
 rw [if_neg e7]
 by_cases e8:op=21
 ·rw [if_pos e8];exact decide_eq_true (by omega)
 rw [if_neg e8]
 exact decide_eq_true (by omega)
theorem insF_ok {m:MethA} {N:Nat}:∀ (f k:Nat),f+k=N→(∀ j,k≤j→j < N→insR m ((2*j:Nat):Int) (byAt m.code (2*j)) (byAt m.code (2*j+1))=true)→insF m f (2*k)=true
 | 0,k,_,_=>rfl
 | f+1,k,e,h=>by
  rw [insF,h k (Nat.le_refl _) (by omega),Bool.true_and,show 2*k+2=2*(k+1) by omega]
  exact insF_ok f (k+1) (by omega) (fun j hj hj2=>h j (by omega) hj2)
theorem meth_ok {c:Int} {j:Nat} {m:MethA} (h:methOk c j m) (hj:j < 9) {nn nc nm:Nat} (hn:nn=6) (hc:c=(nc:Int)) (hm:nm=9):metR m nn nc nm=0:=by
 obtain⟨I,hI,eI⟩:=h.code
 have hfl:m.code.length=2*I.length:=by rw [eI,flat_len]
 obtain⟨n14,l3,l5,l6,l7⟩:=lits_k h.lits
 have ht:=h.temps
 have ha:0≤m.args∧m.args≤2:=by
  rw [h.args]
  split
  ·exact argOf_le j
  ·split <;> omega
 have hex:=hI
 obtain⟨P,S,q,r,l,eP,h1,h5,hP,hS,hq,hr,hl⟩:=hex
 have hPl:=flatten_len P hP
 have hSl:S.length≤2:=by rcases hS with rfl | rfl <;> simp
 have hIl:I.length=P.flatten.length+S.length+2:=by rw [eP];simp;omega
 have hlast:I[I.length - 1]?=some (wr8 l,wr8 0):=by
  rw [show I.length - 1=P.flatten.length+S.length+1 by omega,eP,List.getElem?_append_right (by rw [List.length_append];omega),List.length_append,show P.flatten.length+S.length+1 - (P.flatten.length+S.length)=1 by omega]
  rfl
 have hby:=flat_at I _ _ hlast
 rw [← eI,show 2*(I.length - 1)=m.code.length - 2 by omega,show wr8 l=l from wr8_id (by omega) (by omega)] at hby
 unfold metR
 rw [if_neg (by omega),if_neg (by omega),if_neg (by rw [hby.1];omega)]
 have hall:m.lits.all (fun x=>litR x nn nc nm)=true:=by
  rw [List.all_eq_true]
  intro x hx
  obtain⟨A,B,e,hA,hB,g1,g2⟩:=h.lits
  rw [e] at hx
  simp only [List.mem_append] at hx
  rcases hx with ((hx | hx) | hx) | hx
  ·obtain⟨p,p2⟩:=g1 x hx
   obtain⟨a,b⟩:=x
   simp only at p p2
   subst p
   show num30 b=true
   unfold num30
   rcases p2 with rfl | rfl | rfl | rfl | rfl <;> decide
  ·unfold sels at hx
   obtain⟨i,hi,rfl⟩:=List.mem_map.1 hx
   have:=List.mem_range.1 hi
   refine (lit_sel _ _ _ _).trans ?_
   unfold inN
   rw [decide_eq_true (by omega),decide_eq_true (by omega)];rfl
  ·obtain⟨p,p2,p3⟩:=g2 x hx
   obtain⟨a,b⟩:=x
   simp only at p p2 p3
   subst p
   refine (lit_cls _ _ _ _).trans ?_
   unfold inN
   rw [decide_eq_true (by omega),decide_eq_true (by omega)];rfl
  ·simp only [List.mem_cons,List.not_mem_nil,or_false] at hx
   subst hm
   rcases hx with rfl | rfl <;> rfl
 rw [hall,if_neg (by decide)]
 have hins:insF m (m.code.length / 2) 0=true:=by
  rw [show m.code.length / 2=I.length by omega]
  refine insF_ok (N:=I.length) I.length 0 (by omega) (fun k _ hk=>?_)
  obtain⟨y,hy⟩:∃ y,I[k]?=some y:=⟨I[k],by simp⟩
  obtain⟨e1,e2⟩:=flat_at I k y hy
  rw [← eI] at e1 e2
  rw [e1,e2]
  exact ins_ok h.lits ht ha.1 hfl ((codeOk_by hI y (List.mem_of_getElem? hy)).2.1) (code_g hI k y hy)
 rw [hins,if_neg (by decide)]
end Wd
end Go.Proofs.YteiejjmhmmkdhaaGreat

/- A tape's program is right, whatever objects that are right it has; with another main it is as good as that. -/
namespace Go.Proofs.YteiejjmhmmkdhaaGreat
open Go.RowKit
set_option linter.unusedVariables false
set_option maxRecDepth 20000
namespace Wd
theorem first_skip:∀ (A B:List Int),(∀ x∈A,x=0)→firstE (A++B)=firstE B
 | [],B,_=>rfl
 | x :: A,B,h=>by
  rw [List.cons_append,firstE,if_pos (h x (by simp))]
  exact first_skip A B (fun y hy=>h y (by simp [hy]))
theorem first_one (x:Int):firstE [x]=x:=by
 unfold firstE
 split
 ·next e=>rw [e];rfl
 ·rfl
def ups:Nat→Nat→List (List Nat)
 | 0,_=>[[]]
 | f+1,k=>ups f (k+1)++(ups f (k+1)).map (k :: ·)
theorem ups_mem:∀ (f k:Nat) (S:List Nat),S.Pairwise (· < ·)→(∀ s∈S,k≤s∧s < k+f)→S∈ups f k
 | 0,k,[],_,_=>by simp [ups]
 | 0,k,s :: S,_,h=>by have:=h s (by simp);omega
 | f+1,k,[],_,_=>by
  unfold ups
  exact List.mem_append_left _ (ups_mem f (k+1) [] List.Pairwise.nil (by simp))
 | f+1,k,s :: S,hp,h=>by
  unfold ups
  have hs:=h s (by simp)
  have hS:=List.pairwise_cons.1 hp
  by_cases e:s=k
  ·subst e
   exact List.mem_append_right _ (List.mem_map_of_mem (ups_mem f (s+1) S hS.2 (fun x hx=>by have:=hS.1 x hx;have:=h x (by simp [hx]);omega)))
  ·refine List.mem_append_left _ (ups_mem f (k+1) (s :: S) hp (fun x hx=>?_))
   have h2:=h x hx
   rcases List.mem_cons.1 hx with e1 | e1
   ·subst e1;omega
   ·have:=hS.1 x e1;omega
theorem ups_fit:∀ S∈ups 6 0,eBinds (S.map (fun (s:Nat)=>((s:Int),(s:Int))))=0:=by decide +kernel
theorem bnd_fit {B:List (Int × Int)} (h:bndSub 6 B):eBinds B=0:=by
 obtain⟨S,h1,h2,rfl⟩:=h
 exact ups_fit S (ups_mem 6 0 S h1 (fun s hs=>by have:=h2 s hs;omega))
theorem name_args:∀ s:Nat,s < 6→argsR (nmAt nameL (s:Int))=argOf s:=by decide +kernel
theorem name_ok:namesB nameL=true:=by decide +kernel
theorem eArgs_zero {U:UnitA}:∀ (C:List ClassA),(∀ c∈C,∀ b∈c.binds,eArg U b=0)→∀ x∈eArgs U C,x=0
 | [],_,x,hx=>by simp [eArgs] at hx
 | c :: C,h,x,hx=>by
  unfold eArgs at hx
  rcases List.mem_append.1 hx with hx | hx
  ·obtain⟨b,hb,rfl⟩:=List.mem_map.1 hx
   exact h c (by simp) b hb
  ·exact eArgs_zero C (fun c hc=>h c (by simp [hc])) x hx
structure TapeM (T U:UnitA):Prop where
 ta:TapeU T
 n:U.names=T.names
 c:U.classes=T.classes
 m:U.methods=T.methods
 o1:1≤U.objects.length
 o2:U.objects.length≤40
 ob:∀ x∈U.objects,objB x U.classes U.objects.length=true
theorem TapeM.unit {T U:UnitA} (h:TapeM T U):unitR U=mainE U:=by
 have hn:U.names=nameL:=h.n.trans h.ta.names
 have hml:U.methods.length=9:=by rw [h.m];exact h.ta.ml
 have hlong:longB U=false:=by
  unfold longB
  rw [hn,hml]
  rw [decide_eq_false (show ¬ 48 < nameL.length by decide),decide_eq_false (show ¬ 9 < 1 by decide),decide_eq_false (show ¬ 32 < 9 by decide),decide_eq_false (show ¬ U.objects.length < 1 by have:=h.o1;omega),decide_eq_false (show ¬ 40 < U.objects.length by have:=h.o2;omega)]
  rfl
 have hsh:shapeR U.classes U.names.length U.methods.length=0:=by
  rw [hn,hml,h.c]
  exact tape_right h.ta.tl (by have:=h.ta.cl0;omega)
 unfold unitR
 rw [firstE,if_pos (by rw [hlong];rfl),firstE,if_pos (by rw [hn,name_ok];rfl),firstE,if_pos hsh]
 unfold restC
 rw [List.drop_zero,first_skip _ _ (fun x hx=>?_)]
 ·unfold restM
  rw [List.drop_zero,first_skip _ _ (fun x hx=>?_)]
  ·unfold restA
   rw [List.drop_zero,first_skip _ _ (eArgs_zero _ (fun c hc b hb=>?_))]
   ·unfold restO
    rw [List.drop_zero,first_skip _ _ (fun x hx=>?_),first_one]
    obtain⟨y,hy,rfl⟩:=List.mem_map.1 hx
    rw [if_pos (h.ob y hy)]
   ·rw [h.c] at hc
    obtain⟨k,hk⟩:=List.getElem?_of_mem hc
    obtain⟨_,_,S,_,h2,e⟩:=h.ta.cls k c hk
    rw [e] at hb
    obtain⟨s,hs,rfl⟩:=List.mem_map.1 hb
    have hs6:=h2 s hs
    unfold eArg
    rw [if_pos]
    simp only
    rw [hn,name_args s hs6]
    obtain⟨x,hx⟩:∃ x,T.methods[s]?=some x:=⟨T.methods[s]'(by rw [h.ta.ml];omega),by simp⟩
    unfold agAt
    rw [h.m,Int.toNat_natCast,hx]
    simp only
    rw [(h.ta.mts s x hx).args,if_pos hs6]
  ·obtain⟨y,hy,rfl⟩:=List.mem_map.1 hx
   rw [h.m] at hy
   obtain⟨k,hk⟩:=List.getElem?_of_mem hy
   have hk9:=(List.getElem?_eq_some_iff.1 hk).1
   rw [h.ta.ml] at hk9
   exact meth_ok (h.ta.mts k y hk) hk9 (by rw [hn];decide) (by rw [h.c]) hml
 ·obtain⟨y,hy,rfl⟩:=List.mem_map.1 hx
  rw [h.c] at hy
  obtain⟨k,hk⟩:=List.getElem?_of_mem hy
  exact bnd_fit (h.ta.cls k y hk).2.2
theorem val_ok {N:Nat} {v:Int × Int} (h:valOk N v):fldOk v N=true:=by
 obtain⟨a,b⟩:=v
 rcases h with h | h | h | ⟨h,h1,h2⟩ | ⟨h,h1,h2⟩
 ·cases h;rfl
 ·cases h;rfl
 ·cases h;rfl
 ·simp only at h h1 h2
  subst h
  rw [fld_3];unfold num30
  rw [decide_eq_true (by omega),decide_eq_true (by omega)];rfl
 ·simp only at h h1 h2
  subst h
  rw [fld_4];unfold inN
  rw [decide_eq_true (by omega),decide_eq_true (by omega)];rfl
theorem obj_len {T:UnitA} (h:TapeU T) {k:Nat} {x:ObjA} (hx:T.objects[k]?=some x):x.flds.length≤8∧1≤x.cls∧x.cls < (T.classes.length:Int)∧(1 < x.cls→(x.flds.length:Int)=clsF T.classes x.cls):=by
 have hc0:=h.cl0
 have hc1:=h.cl1
 rcases (h.obs k x hx).cls with ⟨h2,d,hd,e⟩ | ⟨_,e,h8⟩
 ·obtain⟨j,hj⟩:∃ j:Nat,x.cls=j:=⟨x.cls.toNat,by omega⟩
  rw [hj,Int.toNat_natCast] at hd
  have hjl:=(List.getElem?_eq_some_iff.1 hd).1
  have hf:=((h.cls j d hd).1.fld (by omega))
  refine⟨by omega,by omega,by omega,fun _=>?_⟩
  rw [hj,clsF_at hd]
  exact e
 ·exact⟨h8,by omega,by omega,fun g=>by omega⟩
theorem obj_ok {T:UnitA} (h:TapeU T) {x:ObjA} (hx:x∈T.objects):objB x T.classes T.objects.length=true:=by
 obtain⟨k,hk⟩:=List.getElem?_of_mem hx
 obtain⟨h8,g1,g2,g3⟩:=obj_len h hk
 rw [objB_yes (head_ok (by omega) (fun g=>g.2 (g3 g.1)) (by omega)),List.all_eq_true]
 exact fun v hv=>val_ok ((h.obs k x hk).flds v hv)
theorem TapeU.m {T:UnitA} (h:TapeU T):TapeM T T:=⟨h,rfl,rfl,rfl,h.ob0,by have:=h.ob1;omega,fun x hx=>obj_ok h hx⟩
theorem main_six {T U:UnitA} (h:TapeU T) (hm:U.methods=T.methods) (h6:U.main=6):mainE U=0:=by
 obtain⟨x,hx⟩:∃ x,T.methods[6]?=some x:=⟨T.methods[6]'(by rw [h.ml];omega),by simp⟩
 unfold mainE
 rw [if_pos]
 rw [hm,h6,h.ml]
 refine⟨by decide,by decide,?_⟩
 unfold agAt
 rw [show (6:Int).toNat=6 from rfl,hx]
 simp only
 rw [(h.mts 6 x hx).args];rfl
theorem TapeU.right {T:UnitA} (h:TapeU T):unitR T=0:=h.m.unit.trans (main_six h rfl h.main)
theorem meth_size {c:Int} {j:Nat} {x:MethA} (h:methOk c j x):x.code.length≤300∧x.lits.length≤20:=by
 refine⟨?_,?_⟩
 ·obtain⟨I,⟨⟨P,S,q,r,l,hI,h1,h5,hP,hS,_⟩⟩,e⟩:=h.code
  have hfl:=flatten_len P hP
  rw [e,flat_len,hI]
  have hSl:S.length≤2:=by
   rcases hS with rfl | rfl <;> simp
  simp only [List.length_append,List.length_cons,List.length_nil]
  omega
 ·have:=(lits_k h.lits).1
  omega
theorem TapeU.zb {T:UnitA} (h:TapeU T):Zb 300 T:=by
 have hc0:=h.cl0
 have hc1:=h.cl1
 have ho0:=h.ob0
 have ho1:=h.ob1
 have hm:=h.ml
 refine⟨by rw [h.names];decide,by omega,by omega,by omega,by omega,by omega,by omega,fun x hx=>?_,fun x hx=>?_,fun x hx=>?_,by rw [h.names];decide,fun x hx=>?_⟩
 ·obtain⟨k,hk⟩:=List.getElem?_of_mem hx
  have:=(h.cls k x hk).2.2.len
  omega
 ·obtain⟨k,hk⟩:=List.getElem?_of_mem hx
  have:=meth_size (h.mts k x hk)
  omega
 ·obtain⟨k,hk⟩:=List.getElem?_of_mem hx
  have:=(obj_len h hk).1
  omega
 ·obtain⟨k,hk⟩:=List.getElem?_of_mem hx
  have hk5:k < 5:=by have:=(List.getElem?_eq_some_iff.1 hk).1;omega
  have hc:=(h.cls k x hk).1
  rcases (show k=0∨k=1∨2≤k by omega) with rfl | rfl | h2
  ·rw [(hc.z rfl).1];decide
  ·rw [(hc.o rfl).1];decide
  ·rw [hc.nm h2]
   rcases (show k=2∨k=3∨k=4 by omega) with rfl | rfl | rfl <;> decide
end Wd
end Go.Proofs.YteiejjmhmmkdhaaGreat

/- The walk: StoreLoads. -/
namespace Go.Proofs.YteiejjmhmmkdhaaGreat
open Go.RowKit
set_option linter.unusedVariables false
set_option maxRecDepth 20000
namespace Wd
theorem loads_t {w:World} {u:Value} {U:UnitA} (hu:UnK w u U) (ht:TapeU U):Calls Tryz.prog 7 #[u] w fun e w'=>e=.returned (.bool true)∧Below w.heap.size w w' :=
 loads_c hu ht.right (tape_obs ht).1 (tape_obs ht).2 (by have:=ht.ob1;omega)
set_option maxHeartbeats 16000000 in
theorem storeloads_s {w:World} {ad:Option Addr} {n cap:Nat} (HA:NumA w ad n) (hn:n≤4611686018427387904) :
  Calls Tryz.prog 5 #[.slice ad n cap] w fun e w'=>e=.returned (.bool true)∧Below w.heap.size w w':=by
 have PU:=Lib.hid (unit_t (tape_tp (cap:=cap) HA hn))
 have hb0:=builtTp8
 clear HA hn
 go_enter Tryz.func5,Tryz.ntmps5
 go_wp2_with (first
  | (go_at_call 9;refine (PU.out).mono ?_;rintro e w1 ⟨v,U,g0,c0,M,rfl,hU,hc⟩;have hb1:=Lib.hid (unit_bel hc);have hu:=Lib.hid hU.k;have ht:=Lib.hid hU.ta;clear hc PU hU)
  | (go_at_call 7;refine (loads_t hu.out ht.out).mono ?_;rintro e w2 ⟨rfl,h2⟩;have hb2:=Lib.hid (hb1.out.trans (h2.mono hb1.out.size));clear h2)
  | (go_at_call 10;refine (known8_c _).mono ?_;rintro e w3 ⟨rfl,h3⟩;have hb3:=Lib.hid (hb2.out.trans (h3.mono hb2.out.size));clear h3))
 go_ret
 exact⟨rfl,hb3.out⟩
end Wd
end Go.Proofs.YteiejjmhmmkdhaaGreat

/- The walk: StorePlays. -/
namespace Go.Proofs.YteiejjmhmmkdhaaGreat
open Go.RowKit
set_option linter.unusedVariables false
set_option maxRecDepth 20000
namespace Wd
abbrev Ak8:=Int × Int × Int × Int
def quad8:List Ak8→List Value
 | []=>[]
 | t :: T=>.int .i64 t.1 :: .int .i64 t.2.1 :: .int .i64 t.2.2.1 :: .int .i64 t.2.2.2 :: quad8 T
theorem quad8_app:∀ (A B:List Ak8),quad8 (A++B)=quad8 A++quad8 B
 | [],_=>rfl
 | t :: A,B=>by simp [quad8,quad8_app A B]
theorem quad8_get:∀ (T:List Ak8) (k:Nat) (t:Ak8),T[k]?=some t→(quad8 T)[k*4]?=some (.int .i64 t.1)∧(quad8 T)[k*4+1]?=some (.int .i64 t.2.1)∧(quad8 T)[k*4+2]?=some (.int .i64 t.2.2.1)∧(quad8 T)[k*4+3]?=some (.int .i64 t.2.2.2)
 | [],k,t,h=>by simp at h
 | s :: T,0,t,h=>by simp at h;subst h;simp [quad8]
 | s :: T,k+1,t,h=>by
  have:=quad8_get T k t (by simpa using h)
  rw [show (k+1)*4=k*4+4 by omega]
  simpa [quad8] using this
def akB8 (t:Ak8):Prop:=b64 t.1∧b64 t.2.1∧b64 t.2.2.1∧b64 t.2.2.2
theorem asks_own8 {w:World} {k:Nat} {v:Value} {T:List Ak8} (h:w.ownsRow 0 24 4 v k (quad8 T)) (hk:T.length=k) (hb:∀ t,t∈T→akB8 t) :
  ∃ ad cap,v=.slice ad k cap∧AskV8 w ad k:=by
 rcases h.2 with ⟨rfl,h0⟩ | ⟨g,cap,cur,rfl,h1,h2,h3⟩
 ·exact⟨_,_,by rw [h0],fun q hq=>by omega⟩
 ·refine⟨_,_,rfl,fun q hq=>?_⟩
  obtain⟨t,ht⟩:∃ t,T[q]?=some t:=⟨T[q]'(by omega),by simp⟩
  obtain⟨c0,c1,c2,c3⟩:=quad8_get T q t ht
  obtain⟨b0,b1,b2,b3⟩:=hb t (List.mem_of_getElem? ht)
  refine⟨g,0,t.1,t.2.1,t.2.2.1,t.2.2.2,rfl,b0,b1,b2,b3,?_,?_,?_,?_⟩
  ·rw [Nat.zero_add];exact (h.cellAt (q*4) (by omega)).trans c0
  ·rw [Nat.zero_add];exact (h.cellAt (q*4+1) (by omega)).trans c1
  ·rw [Nat.zero_add];exact (h.cellAt (q*4+2) (by omega)).trans c2
  ·rw [Nat.zero_add];exact (h.cellAt (q*4+3) (by omega)).trans c3
theorem infoA8:(Tryz.prog.info? 24).map (fun i=>(i.zero,i.size,i.bytes))=some (some (.agg #[.int .i64 0,.int .i64 0,.int .i64 0,.int .i64 0]),4,32):=by kernel_rfl
theorem rd_four (w:World) (u1 u2 u3 u4:Value) (T:TypeId):Rd (w.alloc (.cells #[u1,u2,u3,u4] T)) (.slice (some ⟨w.heap.size,0,none⟩) 1 1) 1 [u1,u2,u3,u4]:=by
 refine Or.inr ⟨_,_,rfl,fun j x hx=>?_⟩
 match j,hx with
 | 0,hx=>simp at hx;subst hx;rw [Addr.add_lit];simp
 | 1,hx=>simp at hx;subst hx;rw [Addr.add_lit];simp
 | 2,hx=>simp at hx;subst hx;rw [Addr.add_lit];simp
 | 3,hx=>simp at hx;subst hx;rw [Addr.add_lit];simp
structure Sm8 (w wr:World) (v:Value) (T:List Ak8):Prop where
 bel:Below w.heap.size w wr
 own:wr.ownsRow 0 24 4 v T.length (quad8 T)
 vb:∀ k,v.ownBlock=some k→w.heap.size≤k
 bd:∀ t,t∈T→akB8 t
section
variable {w wr w1 w2:World} {v v':Value} {T:List Ak8}
theorem Sm8.up (h:Sm8 w wr v T) (g:Below wr.heap.size wr w1):Sm8 w w1 v T :=
 ⟨h.bel.trans (g.mono h.bel.size),own_same h.own (fun k hk=>g.block k (own_lt h.own k hk)) g.size,h.vb,h.bd⟩
theorem Sm8.next (h:Sm8 w wr v T) {t:Ak8} (ht:akB8 t) {o:Obj} (ho:w2.ownsRow 0 24 4 v' (T.length+1) (quad8 T++quad8 [t])) (hg:(wr.alloc o).grownBy w2 v.ownBlock) (hv:v'.ownBlock=v.ownBlock∨v'.ownBlock=some (wr.alloc o).heap.size):Sm8 w w2 v' (T++[t]):=by
 have hs:(wr.alloc o).heap.size=wr.heap.size+1:=by simp
 have hz:=hg.size
 have hb:=h.bel.size
 refine⟨⟨hg.os.trans h.bel.os,hg.tape.trans h.bel.tape,hg.output.trans h.bel.output,by omega,fun k hk=>?_⟩,?_,fun k hk=>?_,fun x hx=>?_⟩
 ·rw [hg.block k (by omega) (fun e=>by have:=h.vb k e.symm;omega),Below.heap_alloc _ _ _ (by omega)]
  exact h.bel.block k hk
 ·rw [List.length_append,List.length_singleton,quad8_app];exact ho
 ·rcases hv with e | e
  ·exact h.vb k (by rw [← e];exact hk)
  ·rw [e] at hk;have:=Option.some.inj hk;omega
 ·rcases List.mem_append.1 hx with e | e
  ·exact h.bd x e
  ·rw [List.mem_singleton] at e;subst e;exact ht
end
end Wd
end Go.Proofs.YteiejjmhmmkdhaaGreat

/- A tape of the law's own; the walk: StoreNumbers. -/
namespace Go.Proofs.YteiejjmhmmkdhaaGreat
open Go.RowKit
set_option linter.unusedVariables false
set_option maxRecDepth 20000
namespace Wd
structure Tn8 (w wr:World) (v:Value) (L:List Int):Prop where
 bel:Below w.heap.size w wr
 own:wr.ownsRow 0 3 1 v L.length (ints L)
 vb:∀ k,v.ownBlock=some k→w.heap.size≤k
 bd:∀ x∈L,b64 x
section
variable {w wr w1 w2:World} {v v':Value} {L:List Int}
theorem Tn8.next (h:Tn8 w wr v L) {x:Int} (hx:b64 x) {o:Obj} (ho:w2.ownsRow 0 3 1 v' (L.length+1) (ints L++[.int .i64 x])) (hg:(wr.alloc o).grownBy w2 v.ownBlock) (hv:v'.ownBlock=v.ownBlock∨v'.ownBlock=some (wr.alloc o).heap.size):Tn8 w w2 v' (L++[x]):=by
 have hs:(wr.alloc o).heap.size=wr.heap.size+1:=by simp
 have hz:=hg.size
 have hb:=h.bel.size
 refine⟨⟨hg.os.trans h.bel.os,hg.tape.trans h.bel.tape,hg.output.trans h.bel.output,by omega,fun k hk=>?_⟩,?_,fun k hk=>?_,fun y hy=>?_⟩
 ·rw [hg.block k (by omega) (fun e=>by have:=h.vb k e.symm;omega),Below.heap_alloc _ _ _ (by omega)]
  exact h.bel.block k hk
 ·have e:ints (L++[x])=ints L++[.int .i64 x]:=by simp [ints]
  rw [List.length_append,List.length_singleton,e];exact ho
 ·rcases hv with e | e
  ·exact h.vb k (by rw [← e];exact hk)
  ·rw [e] at hk;have:=Option.some.inj hk;omega
 ·rcases List.mem_append.1 hy with e | e
  ·exact h.bd y e
  ·rw [List.mem_singleton] at e;subst e;exact hx
theorem Tn8.num {a:Option Addr} {c:Nat} (h:Tn8 w wr (.slice a L.length c) L):NumA wr a L.length:=fun k hk=>by
 rcases h.own.2 with ⟨_,h0⟩ | ⟨g,cap,cur,e,_⟩
 ·omega
 ·cases e
  exact⟨g,0,L[k],rfl,h.bd _ (List.getElem_mem hk),by rw [Nat.zero_add];exact own_cell h.own (by simp [ints,hk])⟩
end
set_option maxHeartbeats 16000000 in
theorem ltape8_c {w:World} (k:Nat) (hk:k < 40) :
  Calls Tryz.prog 8 #[.int .i64 k] w fun e w'=>∃ a c,e=.returned (.slice a 900 c)∧NumA w' a 900∧Below w.heap.size w w':=by
 obtain⟨i0,hi0,hz0,hz1,hz2⟩:=infoP8 infoI8
 have S0:Tn8 w w (.slice none 0 0) []:=⟨Below.refl _ _,⟨by simp [ints],Or.inl ⟨rfl,rfl⟩⟩,fun k e=>by simp [Value.ownBlock] at e,fun x hx=>(by cases hx)⟩
 replace S0:=Lib.hid S0
 go_enter Tryz.func8,Tryz.ntmps8
 go_wp2
 go_loopw [3,4] (fun v3 v4 wr=>∃ (v:Value) (L:List Int),L.length≤900∧v3=v∧v4=.int .i64 L.length∧Hid (Tn8 w wr v L)) (fun _ v4 _=>900 - (intOf v4).toNat)
 case atStart=>exact⟨_,[],by simp,rfl,rfl,S0⟩
 case round =>
  clear S0
  obtain⟨v,L,hi,rfl,rfl,hR⟩:=hrel
  obtain⟨a,c,e,_⟩:=own_form hR.out.own
  subst e
  have hlen:∃ i,i=L.length:=⟨_,rfl⟩
  obtain⟨i,hi0'⟩:=hlen
  rw [← hi0'] at hi ⊢
  replace hi0':=Lib.hid hi0'
  by_cases hlt:i < 900
  ·as_aux_lemma =>
   have d1:decide ((i:Int) < 900)=true:=by simp;omega
   have hwi:IntKind.i64.wrap ((i:Int)+1)=((i+1:Nat):Int):=by rw [IntKind.wrap_i64];omega
   obtain⟨q,hq⟩:∃ q:Nat,q=i*i:=⟨_,rfl⟩
   obtain⟨s,hs⟩:∃ s:Nat,s=i*k:=⟨_,rfl⟩
   have hq1:q≤810000:=by rw [hq];exact Nat.mul_le_mul (by omega:i≤900) (by omega:i≤900)
   have hs1:s≤36000:=by rw [hs];exact Nat.mul_le_mul (by omega:i≤900) (by omega:k≤40)
   have m1:IntKind.i64.wrap ((i:Int)*(i:Int))=(q:Int):=by rw [← Int.natCast_mul,← hq,IntKind.wrap_i64];omega
   have m2:IntKind.i64.wrap ((q:Int)*7)=(q:Int)*7:=by rw [IntKind.wrap_i64];omega
   have m3:IntKind.i64.wrap ((k:Int)*53)=(k:Int)*53:=by rw [IntKind.wrap_i64];omega
   have m4:IntKind.i64.wrap ((q:Int)*7+(k:Int)*53)=(q:Int)*7+(k:Int)*53:=by rw [IntKind.wrap_i64];omega
   have m5:IntKind.i64.wrap ((i:Int)*(k:Int))=(s:Int):=by rw [← Int.natCast_mul,← hs,IntKind.wrap_i64];omega
   have m6:IntKind.i64.wrap ((q:Int)*7+(k:Int)*53+(s:Int))=(q:Int)*7+(k:Int)*53+(s:Int):=by rw [IntKind.wrap_i64];omega
   have m7:IntKind.i64.wrap (((q:Int)*7+(k:Int)*53+(s:Int)).tmod 211)=((q:Int)*7+(k:Int)*53+(s:Int)).tmod 211:=by
    rw [IntKind.wrap_i64]
    have h1:=Int.tmod_lt_of_pos ((q:Int)*7+(k:Int)*53+(s:Int)) (show (0:Int) < 211 by omega)
    have h2:=Int.tmod_nonneg 211 (show 0≤(q:Int)*7+(k:Int)*53+(s:Int) by omega)
    omega
   have hzb:b64 (((q:Int)*7+(k:Int)*53+(s:Int)).tmod 211):=by
    have h1:=Int.tmod_lt_of_pos ((q:Int)*7+(k:Int)*53+(s:Int)) (show (0:Int) < 211 by omega)
    have h2:=Int.tmod_nonneg 211 (show 0≤(q:Int)*7+(k:Int)*53+(s:Int) by omega)
    exact⟨by omega,by omega⟩
   clear hq hs
   have hmx:Hid (i+1≤maxLen):=Lib.hid (by simp only [maxLen];omega)
   have hbx:Hid ((i+1)*8≤140737488355328):=Lib.hid (by omega)
   generalize hz:((q:Int)*7+(k:Int)*53+(s:Int)).tmod 211=z at *
   have hown:=Lib.hid (own_same hR.out.own (w':=wr.alloc (.cells #[.int .i64 z] 3)) (fun k hk=>Below.heap_alloc _ _ _ (own_lt hR.out.own k hk)) (by simp))
   rw [← hi0'.out] at hown
   go_wp2_with (at_builtin;refine wpList_app_any rfl (.tmp 9) (.tmp 22) 34 rfl 0 3 i0 (.int .i64 0) 1 8 Tryz.underlying34 hi0 hz0 hz1 hz2 rfl (by decide) (.slice a i c) (.slice (some ⟨wr.heap.size,0,none⟩) 1 1) i 1 (ints L) [.int .i64 z] (by simp [Act.eval]) (by simp [Act.eval]) hown.out (rd_one _ _ _) rfl (by simp [Value.oneCell']) hmx.out hbx.out (Nat.zero_le _) ?_;intro v9 w9 hown9 hg9 hat9;have hN:=Lib.hid (hR.out.next hzb (by rw [← hi0'.out];exact hown9) (by rw [← hi0'.out];exact hg9) (by rw [← hi0'.out];exact hat9));clear hown9 hg9 hat9)
   go_roundw
   case rel=>exact⟨_,L++[z],by have:=hi0'.out;rw [List.length_append,List.length_singleton];omega,rfl,by rw [List.length_append,List.length_singleton,← hi0'.out];go_num,hN⟩
   case measure=>simp [intOf];omega
  ·as_aux_lemma =>
   have e9:i=900:=by omega
   replace hi0':=hi0'.out
   rw [e9] at hi0' ⊢
   have d1:decide (((900:Nat):Int) < 900)=false:=by decide
   have hn:=Lib.hid hR.out.num
   have hb:=Lib.hid hR.out.bel
   rw [← hi0'] at hn
   clear hR hi0' e9
   go_wp2
   go_ret
   exact⟨a,c,rfl,hn.out,hb.out⟩
theorem tm_nat (a b:Nat) (hb:0 < b):Int.tmod (a:Int) (b:Int)=((a % b:Nat):Int):=(Int.ofNat_tmod a b).symm
theorem four8 (w:World):AskV8 (w.alloc (.cells #[.int .i64 0,.int .i64 1,.int .i64 62,.int .i64 0,.int .i64 0,.int .i64 4095,.int .i64 0,.int .i64 0,.int .i64 3,.int .i64 (-9223372036854775808),.int .i64 9223372036854775807,.int .i64 2,.int .i64 5,.int .i64 4,.int .i64 9223372036854775807,.int .i64 0] 24)) (some ⟨w.heap.size,0,none⟩) 4:=fun k hk=>by
 rcases (show k=0∨k=1∨k=2∨k=3 by omega) with rfl | rfl | rfl | rfl
 ·exact⟨_,_,0,1,62,0,rfl,by decide,by decide,by decide,by decide,World.cell?_alloc_new _ _ _ 0,World.cell?_alloc_new _ _ _ 1,World.cell?_alloc_new _ _ _ 2,World.cell?_alloc_new _ _ _ 3⟩
 ·exact⟨_,_,0,4095,0,0,rfl,by decide,by decide,by decide,by decide,World.cell?_alloc_new _ _ _ 4,World.cell?_alloc_new _ _ _ 5,World.cell?_alloc_new _ _ _ 6,World.cell?_alloc_new _ _ _ 7⟩
 ·exact⟨_,_,3,-9223372036854775808,9223372036854775807,2,rfl,by decide,by decide,by decide,by decide,World.cell?_alloc_new _ _ _ 8,World.cell?_alloc_new _ _ _ 9,World.cell?_alloc_new _ _ _ 10,World.cell?_alloc_new _ _ _ 11⟩
 ·exact⟨_,_,5,4,9223372036854775807,0,rfl,by decide,by decide,by decide,by decide,World.cell?_alloc_new _ _ _ 12,World.cell?_alloc_new _ _ _ 13,World.cell?_alloc_new _ _ _ 14,World.cell?_alloc_new _ _ _ 15⟩
theorem wl_build {P:Program} {ops:Array Oper} {rest:List Oper} {o:Oper} {a:Act} {w:World} {Q:Exit→Act→World→Prop} (hg:o.guard=none) (t:TypeId) (parts:Array (Nat × Operand)) (ho:o.op=.build t parts) {l:List (Nat × Value)} {vs:Array Value} (he:(parts.map fun (i,x)=>(i,a.eval x)).toList=l) (hb:P.built t l=some vs)
  (h:wpList P ops Q rest (a.put o.dst (.agg vs)) w):wpList P ops Q (o :: rest) a w :=
 wpList_build hg t parts ho (by rw [he,hb];rfl) (by rw [he,hb];exact h)
theorem builtA1:Tryz.prog.built 24 [(1,.int .i64 1),(2,.int .i64 62)]=some #[.int .i64 0,.int .i64 1,.int .i64 62,.int .i64 0]:=by kernel_rfl
theorem builtA2:Tryz.prog.built 24 [(1,.int .i64 4095)]=some #[.int .i64 0,.int .i64 4095,.int .i64 0,.int .i64 0]:=by kernel_rfl
theorem builtA3:Tryz.prog.built 24 [(0,.int .i64 3),(1,.int .i64 (-9223372036854775808)),(2,.int .i64 9223372036854775807),(3,.int .i64 2)]=some #[.int .i64 3,.int .i64 (-9223372036854775808),.int .i64 9223372036854775807,.int .i64 2]:=by kernel_rfl
theorem builtA4:Tryz.prog.built 24 [(0,.int .i64 5),(1,.int .i64 4),(2,.int .i64 9223372036854775807)]=some #[.int .i64 5,.int .i64 4,.int .i64 9223372036854775807,.int .i64 0]:=by kernel_rfl
theorem wl_run {P:Program} {ops:Array Oper} {rest:List Oper} {o:Oper} {a:Act} {w w':World} {Q:Exit→Act→World→Prop} (hg:o.guard=none) {v:Value} (hr:(execOp a.eval o).run P w=.ok (.value v) w')
  (h:wpList P ops Q rest (a.put o.dst v) w'):wpList P ops Q (o :: rest) a w :=
 wpList_plain hg fun K hK=>by unfold Oper.wp;rw [hr];exact hK _ _ h
set_option maxHeartbeats 400000 in
theorem four_slice (w:World) (f:Operand→Value) (h0:f (.tmp 48)=.agg #[.int .i64 0,.int .i64 1,.int .i64 62,.int .i64 0]) (h1:f (.tmp 49)=.agg #[.int .i64 0,.int .i64 4095,.int .i64 0,.int .i64 0]) (h2:f (.tmp 50)=.agg #[.int .i64 3,.int .i64 (-9223372036854775808),.int .i64 9223372036854775807,.int .i64 2]) (h3:f (.tmp 51)=.agg #[.int .i64 5,.int .i64 4,.int .i64 9223372036854775807,.int .i64 0]):(execOp f ⟨some 52,.buildSlice 22 4 #[(0,.tmp 48),(1,.tmp 49),(2,.tmp 50),(3,.tmp 51)],22,"law.go:132",#[⟨0,.data⟩,⟨1,.data⟩,⟨2,.data⟩,⟨3,.data⟩],none⟩).run Tryz.prog w=.ok (.value (.slice (some ⟨w.heap.size,0,none⟩) 4 4)) (w.alloc (.cells #[.int .i64 0,.int .i64 1,.int .i64 62,.int .i64 0,.int .i64 0,.int .i64 4095,.int .i64 0,.int .i64 0,.int .i64 3,.int .i64 (-9223372036854775808),.int .i64 9223372036854775807,.int .i64 2,.int .i64 5,.int .i64 4,.int .i64 9223372036854775807,.int .i64 0] 24)):=by
 go_simp
set_option maxHeartbeats 64000000 in
theorem storenumbers_s {w:World}:Calls Tryz.prog 3 #[] w fun e w'=>e=.returned (.bool true)∧Below w.heap.size w w':=by
 obtain⟨i1,hi1,hy0,hy1,hy2⟩:=infoP8 infoA8
 have S0:=Lib.hid (Below.refl w.heap.size w)
 have hbt:=builtTp8
 go_enter Tryz.func3,Tryz.ntmps3
 go_wp2
 go_loopw [1] (fun v wr=>∃ k:Nat,k≤40∧v=.int .i64 k∧Hid (Below w.heap.size w wr)) (fun v _=>40 - (intOf v).toNat)
 case atStart=>exact⟨0,by omega,rfl,S0⟩
 case round =>
  clear S0
  obtain⟨k,hk,rfl,hB⟩:=hrel
  by_cases hlt:k < 40
  ·as_aux_lemma =>
   have d1:decide ((k:Int) < 40)=true:=by simp;omega
   have hwk:IntKind.i64.wrap ((k:Int)+1)=((k+1:Nat):Int):=by rw [IntKind.wrap_i64];omega
   have LT:=Lib.hid (fun (y:World)=>ltape8_c (w:=y) k (by omega))
   have hst:=Lib.hid (show Sm8 wr wr (.slice none 0 0) [] from ⟨Below.refl _ _,⟨by simp [quad8],Or.inl ⟨rfl,rfl⟩⟩,fun k e=>by simp [Value.ownBlock] at e,fun t ht=>by cases ht⟩)
   obtain⟨W0,hW0⟩:∃ W0,W0=wr:=⟨wr,rfl⟩
   rw [← hW0] at hB hst
   go_wp2
   go_loopw [2,3] (fun v2 x3 wr=>∃ (v:Value) (T:List Ak8),T.length≤70∧v2=v∧x3=.int .i64 T.length∧Hid (Sm8 W0 wr v T)) (fun _ x3 _=>70 - (intOf x3).toNat)
   case atStart=>exact⟨_,[],by simp,rfl,rfl,by rw [← hW0];exact hst⟩
   case round =>
    clear hst
    obtain⟨v,T,hT,rfl,rfl,hS⟩:=hrel
    obtain⟨va,vc,e,_⟩:=own_form hS.out.own
    subst e
    obtain⟨i,hi⟩:∃ i,i=T.length:=⟨_,rfl⟩
    rw [← hi] at hT ⊢
    replace hi:=Lib.hid hi
    by_cases hl2:i < 70
    ·as_aux_lemma =>
     have d2:decide ((i:Int) < 70)=true:=by simp;omega
     have hwi:IntKind.i64.wrap ((i:Int)+1)=((i+1:Nat):Int):=by rw [IntKind.wrap_i64];omega
     obtain⟨q,hq⟩:∃ q:Nat,q=i*i:=⟨_,rfl⟩
     obtain⟨s,hs⟩:∃ s:Nat,s=i*k:=⟨_,rfl⟩
     have hq1:q≤4900:=by rw [hq];exact Nat.mul_le_mul (by omega:i≤70) (by omega:i≤70)
     have hs1:s≤2800:=by rw [hs];exact Nat.mul_le_mul (by omega:i≤70) (by omega:k≤40)
     have m1:IntKind.i64.wrap ((i:Int)*(i:Int))=(q:Int):=by rw [← Int.natCast_mul,← hq,IntKind.wrap_i64];omega
     have m2:IntKind.i64.wrap ((q:Int)+(k:Int))=((q+k:Nat):Int):=by rw [IntKind.wrap_i64];omega
     have t1:Int.tmod ((q+k:Nat):Int) 6=(((q+k) % 6:Nat):Int):=tm_nat _ 6 (by omega)
     have m3:IntKind.i64.wrap (((q+k) % 6:Nat):Int)=(((q+k) % 6:Nat):Int):=by rw [IntKind.wrap_i64];omega
     have m4:IntKind.i64.wrap ((i:Int)+(k:Int))=((i+k:Nat):Int):=by rw [IntKind.wrap_i64];omega
     have t2:Int.tmod ((i+k:Nat):Int) 14=(((i+k) % 14:Nat):Int):=tm_nat _ 14 (by omega)
     have m5:IntKind.i64.wrap (((i+k) % 14:Nat):Int)=(((i+k) % 14:Nat):Int):=by rw [IntKind.wrap_i64];omega
     have m6:IntKind.i64.wrap ((((i+k) % 14:Nat):Int)+2)=(((i+k) % 14:Nat):Int)+2:=by rw [IntKind.wrap_i64];omega
     obtain⟨r,hr⟩:∃ r:Nat,r=i*3:=⟨_,rfl⟩
     have m7:IntKind.i64.wrap ((i:Int)*3)=(r:Int):=by rw [IntKind.wrap_i64];omega
     have m8:IntKind.i64.wrap ((r:Int)+(k:Int))=((r+k:Nat):Int):=by rw [IntKind.wrap_i64];omega
     have t3:Int.tmod ((r+k:Nat):Int) 7=(((r+k) % 7:Nat):Int):=tm_nat _ 7 (by omega)
     have m9:IntKind.i64.wrap (((r+k) % 7:Nat):Int)=(((r+k) % 7:Nat):Int):=by rw [IntKind.wrap_i64];omega
     have m10:IntKind.i64.wrap ((((r+k) % 7:Nat):Int) - 1)=(((r+k) % 7:Nat):Int) - 1:=by rw [IntKind.wrap_i64];omega
     have m11:IntKind.i64.wrap ((i:Int)*(k:Int))=(s:Int):=by rw [← Int.natCast_mul,← hs,IntKind.wrap_i64];omega
     have ht:akB8 ((((q+k) % 6:Nat):Int),(((i+k) % 14:Nat):Int)+2,(((r+k) % 7:Nat):Int) - 1,(s:Int)):=⟨⟨by show _≤(((q+k) % 6:Nat):Int);omega,by show (((q+k) % 6:Nat):Int)≤_;omega⟩,⟨by show _≤(((i+k) % 14:Nat):Int)+2;omega,by show (((i+k) % 14:Nat):Int)+2≤_;omega⟩,⟨by show _≤(((r+k) % 7:Nat):Int) - 1;omega,by show (((r+k) % 7:Nat):Int) - 1≤_;omega⟩,⟨by show _≤(s:Int);omega,by show (s:Int)≤_;omega⟩⟩
     replace ht:=Lib.hid ht
     clear hq hs hr
     generalize (q+k:Nat)=n1 at *
     generalize (r+k:Nat)=n3 at *
     generalize (i+k:Nat)=n2 at *
     generalize hx1:((n1 % 6:Nat):Int)=x1 at *
     generalize hx2:((n2 % 14:Nat):Int)=x2 at *
     generalize hx3:((n3 % 7:Nat):Int)=x3 at *
     clear hx1 hx2 hx3
     have hmx:Hid (i+1≤maxLen):=Lib.hid (by simp only [maxLen];omega)
     have hbx:Hid ((i+1)*32≤140737488355328):=Lib.hid (by omega)
     have hown:=(hS.out.up ((Below.refl _ _).alloc (Nat.le_refl _) (.cells #[.int .i64 x1,.int .i64 (x2+2),.int .i64 (x3 - 1),.int .i64 (s:Int)] 24))).own
     rw [← hi.out] at hown
     replace hown:=Lib.hid hown
     go_wp2_with (at_builtin;refine wpList_app_any rfl (.tmp 12) (.tmp 34) 22 rfl 0 24 i1 (.agg #[.int .i64 0,.int .i64 0,.int .i64 0,.int .i64 0]) 4 32 Tryz.underlying22 hi1 hy0 hy1 hy2 rfl (by decide) (.slice va i vc) (.slice (some ⟨wr.heap.size,0,none⟩) 1 1) i 1 (quad8 T) (quad8 [(x1,x2+2,x3 - 1,(s:Int))]) (by simp [Act.eval]) (by simp [Act.eval]) hown.out (rd_four _ _ _ _ _ _) rfl (by simp [Value.oneCell',quad8]) hmx.out hbx.out (Nat.zero_le _) ?_;intro v9 w9 hown9 hg9 hat9;have hN:=Lib.hid (hS.out.next ht.out (by rw [← hi.out];exact hown9) (by rw [← hi.out];exact hg9) (by rw [← hi.out];exact hat9));clear hown9 hg9 hat9)
     go_roundw
     case rel=>exact⟨_,T++[(x1,x2+2,x3 - 1,(s:Int))],by have:=hi.out;rw [List.length_append,List.length_singleton];omega,rfl,by rw [List.length_append,List.length_singleton,← hi.out];go_num,hN⟩
     case measure=>simp [intOf];omega
    ·as_aux_lemma =>
     have e7:i=70:=by omega
     replace hi:=hi.out
     rw [e7] at hi ⊢
     have d2:decide (((70:Nat):Int) < 70)=false:=by decide
     obtain⟨va',vc',e',hV⟩:=asks_own8 hS.out.own rfl hS.out.bd
     rw [← hi] at e' hV
     cases e'
     clear hi e7
     have hP:=Lib.hid (play_y (cap:=vc) hV (by decide))
     have hbel:=Lib.hid (hB.out.trans (hS.out.bel.mono hB.out.size))
     clear hV hS hB
     go_wp2_with (first
      | (go_at_call 6;refine hP.out.mono ?_;rintro e w1 ⟨rfl,h1⟩;have hb1:=Lib.hid (hbel.out.trans (h1.mono hbel.out.size));clear h1)
      | (go_at_call 8;refine (LT.out _).mono ?_;rintro e w2 ⟨at1,ct1,rfl,hnA,h2⟩;have hb2:=Lib.hid (hb1.out.trans (h2.mono hb1.out.size));clear h2;have PU:=Lib.hid (unit_t (tape_tp (cap:=ct1) hnA (by decide))))
      | (go_at_call 9;refine (PU.out).mono ?_;rintro e w3 ⟨vU,U,g0,c0,M,rfl,hU,hc⟩;have h3:=unit_bel hc;have hb3:=Lib.hid (hb2.out.trans (h3.mono hb2.out.size));have hu:=Lib.hid hU.k;have hta:=Lib.hid hU.ta;clear h3 hc hU)
      | (go_at_call 7;refine (loads_t hu.out hta.out).mono ?_;rintro e w4 ⟨rfl,h4⟩;have hb4:=Lib.hid (hb3.out.trans (h4.mono hb3.out.size));clear h4))
     go_roundw
     case rel=>exact⟨k+1,by omega,by go_num,hb4⟩
     case measure=>simp [intOf];omega
  ·as_aux_lemma =>
   have d1:decide ((k:Int) < 40)=false:=by simp;omega
   have hP:=Lib.hid (play_y (cap:=4) (four8 wr) (by decide))
   have hbel:=Lib.hid (hB.out.trans (((Below.refl wr.heap.size wr).alloc (Nat.le_refl _) (.cells #[.int .i64 0,.int .i64 1,.int .i64 62,.int .i64 0,.int .i64 0,.int .i64 4095,.int .i64 0,.int .i64 0,.int .i64 3,.int .i64 (-9223372036854775808),.int .i64 9223372036854775807,.int .i64 2,.int .i64 5,.int .i64 4,.int .i64 9223372036854775807,.int .i64 0] 24)).mono hB.out.size))
   go_upto_region 11 with fail
   refine wp_region_list ?_
   refine wl_build rfl _ _ rfl (l:=[(1,.int .i64 1),(2,.int .i64 62)]) (by simp [Act.eval]) builtA1 ?_
   refine wl_build rfl _ _ rfl (l:=[(1,.int .i64 4095)]) (by simp [Act.eval]) builtA2 ?_
   refine wl_build rfl _ _ rfl (l:=[(0,.int .i64 3),(1,.int .i64 (-9223372036854775808)),(2,.int .i64 9223372036854775807),(3,.int .i64 2)]) (by simp [Act.eval]) builtA3 ?_
   refine wl_build rfl _ _ rfl (l:=[(0,.int .i64 5),(1,.int .i64 4),(2,.int .i64 9223372036854775807)]) (by simp [Act.eval]) builtA4 ?_
   try simp only [Act.put,nA]
   refine wl_run rfl (four_slice wr _ rfl rfl rfl rfl) ?_
   try simp only [Act.put,nA]
   go_wp2_with (first
    | (go_at_call 6;refine hP.out.mono ?_;rintro e w1 ⟨rfl,h1⟩;have hb1:=Lib.hid (hbel.out.trans (h1.mono hbel.out.size));clear h1)
    | (go_at_call 10;refine (known8_c _).mono ?_;rintro e w2 ⟨rfl,h2⟩;have hb2:=Lib.hid (hb1.out.trans (h2.mono hb1.out.size));clear h2))
   go_ret
   exact⟨rfl,hb2.out⟩
end Wd
end Go.Proofs.YteiejjmhmmkdhaaGreat
