/- Texts joined: UNO, UNF, FPure, UNL, UNS, UNT, UNU, USA0, OInst. -/
import Derived.Test.YtgfnelhbdhbklaaGreatJT1
import Derived.Test.YtgfnelhbdhbklaaGreatJT3
import Derived.Deep.RegionHeld3
import Derived.Deep.RegionWith
import Derived.Deep.DeepCutAuto
import Derived.Laws.BitsAllLaws
import Derived.Laws.BitsLemmas
import Derived.RowKit
import Derived.LoopN
import Derived.StillTailTactics
import Derived.Laws.IdiomStrings
import Derived.BigRegion
namespace Go.Proofs.YtgfnelhbdhbklaaGreat
open Go.RowKit
set_option linter.unusedVariables false
set_option maxRecDepth 20000
namespace Wd
structure ObK (w:World) (v:Value) (x:ObjA):Prop where
 mk ::
 c64:In64 x.cls
 ex:∃ fa fc,v=.agg #[.int .i64 x.cls,.slice fa x.flds.length fc]∧PrV w (.slice fa x.flds.length fc) x.flds
theorem ObK.up {w w1:World} {v:Value} {x:ObjA} (h:ObK w v x) (b:Below w.heap.size w w1):ObK w1 v x:=by
 obtain⟨fa,fc,e,p⟩:=h.ex;exact⟨h.c64,fa,fc,e,p.up b⟩
def fldOk (v:Int × Int) (no:Nat):Bool:=if v.1=0∨v.1=1∨v.1=2 then v.2 == 0 else if v.1=3 then num30 v.2 else if v.1=4 then inN v.2 no else false
def clsF (C:List ClassA) (c:Int):Int:=match C[c.toNat]? with
 | some x=>x.fields
 | none=>0
def objHead (o:ObjA) (C:List ClassA):Bool:=if o.cls < 1∨(C.length:Int)≤o.cls then false else if 1 < o.cls∧(o.flds.length:Int)≠clsF C o.cls then false else decide (o.flds.length≤62)
def objB (o:ObjA) (C:List ClassA) (no:Nat):Bool:=objHead o C && o.flds.all (fldOk · no)
theorem clsF_at {C:List ClassA} {k:Nat} {x:ClassA} (h:C[k]?=some x):clsF C (k:Int)=x.fields:=by
 unfold clsF;rw[Int.toNat_natCast,h]
theorem head_low {o:ObjA} {C:List ClassA} (h:o.cls < 1):objHead o C=false:=by
 unfold objHead;rw[if_pos (Or.inl h)]
theorem head_high {o:ObjA} {C:List ClassA} (h:(C.length:Int)≤o.cls):objHead o C=false:=by
 unfold objHead;rw[if_pos (Or.inr h)]
theorem head_many {o:ObjA} {C:List ClassA} (h0:¬ (o.cls < 1∨(C.length:Int)≤o.cls)) (h1:1 < o.cls) (h2:(o.flds.length:Int)≠clsF C o.cls):objHead o C=false:=by
 unfold objHead;rw[if_neg h0,if_pos ⟨h1,h2⟩]
theorem head_long {o:ObjA} {C:List ClassA} (h:62 < o.flds.length):objHead o C=false:=by
 unfold objHead;rw[decide_eq_false (by omega:¬ o.flds.length≤62)]
 split
 ·rfl
 ·split <;> rfl
theorem head_ok {o:ObjA} {C:List ClassA} (h0:¬ (o.cls < 1∨(C.length:Int)≤o.cls)) (h1:¬ (1 < o.cls∧(o.flds.length:Int)≠clsF C o.cls)) (h2:o.flds.length≤62):objHead o C=true:=by
 unfold objHead;rw[if_neg h0,if_neg h1,decide_eq_true h2]
theorem objB_no {o:ObjA} {C:List ClassA} (h:objHead o C=false) (no:Nat):objB o C no=false:=by unfold objB;rw[h];rfl
theorem objB_yes {o:ObjA} {C:List ClassA} (h:objHead o C=true) (no:Nat):objB o C no=o.flds.all (fldOk · no):=by unfold objB;rw[h];rfl
structure FdR (L:List (Int × Int)) (no k:Nat):Prop where
 mk ::
 all:∀ x∈L.take k,fldOk x no=true
theorem FdR.start (L:List (Int × Int)) (no:Nat):FdR L no 0:=⟨by simp⟩
theorem FdR.step {L:List (Int × Int)} {no k:Nat} {x:Int × Int} (h:FdR L no k) (hx:L[k]?=some x) (e:fldOk x no=true):FdR L no (k+1):=by
 refine⟨fun y hy=>?_⟩;rw[take_next hx] at hy;rcases List.mem_append.1 hy with hy | hy
 ·exact h.all y hy
 ·rw[List.mem_singleton.1 hy];exact e
theorem FdR.last {L:List (Int × Int)} {no:Nat} (h:FdR L no L.length):L.all (fldOk · no)=true:=by
 rw[List.all_eq_true];intro x hx;exact h.all x (by rw[List.take_length];exact hx)
theorem fd_bad {L:List (Int × Int)} {no k:Nat} {x:Int × Int} (hx:L[k]?=some x) (e:fldOk x no=false):L.all (fldOk · no)=false:=by
 rw[List.all_eq_false];exact⟨x,List.mem_of_getElem? hx,by simp[e]⟩
theorem fld_012 {k x:Int} (no:Nat) (h:k=0∨k=1∨k=2):fldOk (k,x) no=(x == 0):=if_pos h
theorem fld_3 (x:Int) (no:Nat):fldOk (3,x) no=num30 x:=rfl
theorem fld_4 (x:Int) (no:Nat):fldOk (4,x) no=inN x no:=rfl
theorem fld_no {k x:Int} (no:Nat) (h:¬ (k=0∨k=1∨k=2)) (h3:k≠3) (h4:k≠4):fldOk (k,x) no=false:=by
 unfold fldOk;rw[if_neg h,if_neg h3,if_neg h4]
set_option maxHeartbeats 8000000 in
theorem robject_c {w:World} {v u:Value} {o:ObjA} {U:UnitA} (h:ObK w v o) (hu:UnK w u U) :
  Calls Tryz.prog 52 #[v,u] w fun e w'=>e=.returned (.bool (objB o U.classes U.objects.length))∧Below w.heap.size w w':=by
 obtain⟨fa,fc,rfl,hf⟩:=h.ex;obtain⟨na,nc,ca,cc,ma,mc,oa,oc,rfl,hU⟩:=hu.ex;have hC:=hU.c;clear hU hu;generalize U.names.length=nn at *;generalize U.classes=C at *;generalize U.methods.length=nm at *;generalize U.objects.length=no at *;generalize U.main=um at *;obtain⟨c0,c1⟩:=h.c64;have hw1:=(Below.refl w.heap.size w).alloc (Nat.le_refl _) (.cells #[.int .i64 o.cls,.slice fa o.flds.length fc] 55);have hW:=HD (hw1.alloc (by simp only[World.size_alloc];omega) (.cells #[.slice na nn nc,.slice ca C.length cc,.slice ma nm mc,.slice oa no oc,.int .i64 um] 27));have i1:(w.alloc (.cells #[.int .i64 o.cls,.slice fa o.flds.length fc] 55)).heap.size=w.heap.size+1:=by simp
 have a0:Hid (((w.alloc (.cells #[.int .i64 o.cls,.slice fa o.flds.length fc] 55)).alloc (.cells #[.slice na nn nc,.slice ca C.length cc,.slice ma nm mc,.slice oa no oc,.int .i64 um] 27)).cell? ⟨w.heap.size,0,none⟩=some (.int .i64 o.cls)):=HD ((World.cell?_alloc_old _ _ _ (by simp)).trans (by simp));have a1:Hid (((w.alloc (.cells #[.int .i64 o.cls,.slice fa o.flds.length fc] 55)).alloc (.cells #[.slice na nn nc,.slice ca C.length cc,.slice ma nm mc,.slice oa no oc,.int .i64 um] 27)).cell? ⟨w.heap.size,1,none⟩=some (.slice fa o.flds.length fc)):=HD ((World.cell?_alloc_old _ _ _ (by simp)).trans (by simp));have b1:Hid (((w.alloc (.cells #[.int .i64 o.cls,.slice fa o.flds.length fc] 55)).alloc (.cells #[.slice na nn nc,.slice ca C.length cc,.slice ma nm mc,.slice oa no oc,.int .i64 um] 27)).cell? ⟨w.heap.size+1,1,none⟩=some (.slice ca C.length cc)):=HD (by rw[← i1];simp);have b3:Hid (((w.alloc (.cells #[.int .i64 o.cls,.slice fa o.flds.length fc] 55)).alloc (.cells #[.slice na nn nc,.slice ca C.length cc,.slice ma nm mc,.slice oa no oc,.int .i64 um] 27)).cell? ⟨w.heap.size+1,3,none⟩=some (.slice oa no oc)):=HD (by rw[← i1];simp);have hf':=HD (hf.up hW.out);have hC':=HD (hC.up hW.out);have hle:(o.flds.length:Int)≤9223372036854775807:=by obtain⟨_,_,_,p,q⟩:=hf.form;exact len_le (Nat.le_trans p q)
 have E1:=HD (fun h=>head_low (o:=o) (C:=C) h);have E2:=HD (fun h=>head_high (o:=o) (C:=C) h);have E3:=HD (fun (h0:¬ (o.cls < 1∨(C.length:Int)≤o.cls)) h1 h2=>head_many h0 h1 h2);have E4:=HD (fun h=>head_long (o:=o) (C:=C) h);have E5:=HD (fun (h0:¬ (o.cls < 1∨(C.length:Int)≤o.cls)) h1 h2=>head_ok h0 h1 h2);clear hw1 i1 h hf hC;go_enter Tryz.func52,Tryz.ntmps52
 go_upto_region 1 with fail
 generalize (w.alloc (.cells #[.int .i64 o.cls,.slice fa o.flds.length fc] 55)).alloc (.cells #[.slice na nn nc,.slice ca C.length cc,.slice ma nm mc,.slice oa no oc,.int .i64 um] 27)=W at *;have hd:=(Below.refl W.heap.size W).drew;have hW':=HD (hW.out.trans (hd.mono hW.out.size));replace hf':=HD (hf'.out.up hd);replace hC':=HD (hC'.out.up hd);replace a0:=cell_up hd a0.out;replace a1:=cell_up hd a1.out;replace b1:=cell_up hd b1.out;replace b3:=cell_up hd b3.out;clear hd hW;obtain⟨r,hr⟩:∃ r,objHead o C=r:=⟨_,rfl⟩
 replace hr:=HD hr;have e0:=HD (fun h=>(objB_no (hr.out.trans h) no));have e1:=HD (fun h=>(objB_yes (hr.out.trans h) no))
 go_cut [41] (fun v41 wx=>v41=.bool (!r)∧wx=W.drew)
 case rest =>
  obtain⟨rfl,rfl⟩:=hcut;clear hr E1 E2 E3 E4 E5 c0 c1 hC' b1;cases r
  ·have e:=HD (e0.out rfl);clear e0 e1
   go_wp2
   go_ret;exact⟨congrArg (fun b=>Ending.returned (Value.bool b)) e.out.symm,hW'.out⟩
  have e:=HD (e1.out rfl);clear e0 e1
  go_wp2
  generalize W.drew=V at *;have hst:=HD (FdR.start o.flds no);obtain⟨n,hn⟩:∃ n,n=o.flds.length:=⟨_,rfl⟩
  have hn':=HD hn;rw[← hn] at hf' hle a1 ⊢;clear hn
  go_loopw [45] (fun i45 wr=>∃ (j:Nat),j≤n∧i45=.int .i64 j∧Hid (FdR o.flds no j)∧Hid (Below V.heap.size V wr)) (fun i45 _=>n - (intOf i45).toNat)
  case atStart=>exact⟨0,by omega,rfl,hst,HD (Below.refl _ _)⟩
  case round =>
   obtain⟨j,hj,rfl,hR,hB⟩:=hrel;by_cases hlt:j < n
   ·have hlt':decide ((j:Int) < (n:Int))=true:=by simp;omega
    have p0:(0:Int)≤(j:Int):=by omega
    have p1:(j:Int) < (n:Int):=by omega
    obtain⟨⟨kx,x⟩,hx⟩:∃ x,o.flds[j]?=some x:=⟨o.flds[j]'(by have:=hn'.out;omega),by simp⟩
    obtain⟨_,⟨x0,x1⟩,g,off,rfl,c0,c1⟩:=PrV.at (hf'.out.up hB.out) hx;simp only at x0 x1 c0 c1;have hx':=HD hx;have d3:=cell_up hB.out b3;have hs0:=hB.out.size;have hBr:=HD ((hW'.out.trans (hB.out.mono hW'.out.size)).alloc (by have:=hW'.out.size;omega) (.cells #[.int .i64 kx,.int .i64 x] 68));have hB2:=HD (hB.out.alloc hs0 (.cells #[.int .i64 kx,.int .i64 x] 68));have d3':(wr.alloc (.cells #[.int .i64 kx,.int .i64 x] 68)).cell? ⟨w.heap.size+1,3,none⟩=some (.slice oa no oc):=(World.cell?_alloc_old _ _ _ (Nat.ne_of_lt (World.block_lt_of_cell? _ _ d3))).trans d3;clear hx d3 hs0 hst a0 a1 b3 hlt;by_cases k012:kx=0∨kx=1∨kx=2
    ·have ef:=HD (fld_012 (x:=x) no k012);by_cases z:x=0
     ·have z':(x != 0)=false:=by simpa using z
      have hR':=HD (hR.out.step hx'.out (by rw[ef.out];simpa using z));clear z;rcases k012 with rfl | rfl | rfl <;> (
       go_wp2
       go_roundw
       case rel=>exact⟨j+1,by omega,by go_num,hR',hB2⟩
       case measure=>simp[intOf];omega)
     ·have z':(x != 0)=true:=by simpa using z
      have e':=HD (e.out.trans (fd_bad hx'.out (by rw[ef.out];simpa using z)));clear z;rcases k012 with rfl | rfl | rfl <;> (
       go_wp2
       go_ret;exact⟨congrArg (fun b=>Ending.returned (Value.bool b)) e'.out.symm,hBr.out⟩)
    by_cases k3:kx=3
    ·subst k3;clear k012;have PN:=HD (fun w=>rnumber_c x w);have ef:=HD (fld_3 x no);unfold num30 at ef;by_cases z:(decide (-1073741824≤x) && decide (x≤1073741823))=true
     ·rw[z] at PN ef;have hR':=HD (hR.out.step hx'.out ef.out);clear z
      go_wp2_with (first | (go_at_call 87;((with_reducible refine (PN.out _).mono ?_);rintro e1 w2 ⟨rfl,hw2⟩;subst w2)))
      go_roundw
      case rel=>(repeat apply Exists.intro (α:=Value));exact⟨⟨j+1,by omega,by go_num,hR',hB2⟩,rfl⟩
      case measure=>simp[intOf];omega
     ·have z2:(decide (-1073741824≤x) && decide (x≤1073741823))=false:=by simpa using z
      rw[z2] at PN ef;have e':=HD (e.out.trans (fd_bad hx'.out ef.out));clear z z2
      go_wp2_with (first | (go_at_call 87;((with_reducible refine (PN.out _).mono ?_);rintro e1 w2 ⟨rfl,hw2⟩;subst w2)))
      go_ret;exact⟨congrArg (fun b=>Ending.returned (Value.bool b)) e'.out.symm,hBr.out⟩
    by_cases k4:kx=4
    ·subst k4;clear k012 k3;have ef:=HD (fld_4 x no);by_cases z0:x < 0
     ·have z0':decide (x < 0)=true:=by simpa using z0
      have e':=HD (e.out.trans (fd_bad hx'.out (ef.out.trans (inN_n (by omega)))));clear z0
      go_wp2
      go_ret;exact⟨congrArg (fun b=>Ending.returned (Value.bool b)) e'.out.symm,hBr.out⟩
     have z0':decide (x < 0)=false:=by simpa using z0
     by_cases z1:(no:Int)≤x
     ·have z1':decide (x ≥ (no:Int))=true:=by simpa using z1
      have e':=HD (e.out.trans (fd_bad hx'.out (ef.out.trans ((inN_y (by omega)).trans (decide_eq_false (by omega))))));clear z0 z1
      go_wp2
      go_ret;exact⟨congrArg (fun b=>Ending.returned (Value.bool b)) e'.out.symm,hBr.out⟩
     ·have z1':decide (x ≥ (no:Int))=false:=by simp;omega
      have hR':=HD (hR.out.step hx'.out (ef.out.trans ((inN_y (by omega)).trans (decide_eq_true (by omega)))));clear z0 z1
      go_wp2
      go_roundw
      case rel=>exact⟨j+1,by omega,by go_num,hR',hB2⟩
      case measure=>simp[intOf];omega
    have e':=HD (e.out.trans (fd_bad hx'.out (fld_no no k012 k3 k4)));have f0:(kx == 0)=false:=by rw[beq_eq_false_iff_ne];exact fun h=>k012 (Or.inl h)
    have f1:(kx == 1)=false:=by rw[beq_eq_false_iff_ne];exact fun h=>k012 (Or.inr (Or.inl h))
    have f2:(kx == 2)=false:=by rw[beq_eq_false_iff_ne];exact fun h=>k012 (Or.inr (Or.inr h))
    have f3:(kx == 3)=false:=by simpa using k3
    have f4:(kx == 4)=false:=by simpa using k4
    clear k012 k3 k4
    go_wp2
    go_ret;exact⟨congrArg (fun b=>Ending.returned (Value.bool b)) e'.out.symm,hBr.out⟩
   ·have e':Hid (objB o C no=true):=HD (e.out.trans (FdR.last (by have:=hR.out;rw[show j=o.flds.length by have:=hn'.out;omega] at this;exact this)));have hlt':decide ((j:Int) < (n:Int))=false:=by simp;omega
    have hBr:=HD (hW'.out.trans (hB.out.mono hW'.out.size))
    go_wp2
    go_ret;exact⟨congrArg (fun b=>Ending.returned (Value.bool b)) e'.out.symm,hBr.out⟩
 clear e0 e1;generalize hcl:o.cls=cl at *;by_cases g1:cl < 1
 ·have dg1:decide (cl < 1)=true:=by simpa using g1
  have e:=HD (E1.out g1);clear g1 hC' hf' E1 E2 E3 E4 E5;refine wp_region_held_drew (S:=(fun wr'=>wr'.cell? ⟨w.heap.size,0,none⟩=some (.int .i64 cl)∧wr'.cell? ⟨w.heap.size,1,none⟩=some (.slice fa o.flds.length fc)∧wr'.cell? ⟨w.heap.size+1,1,none⟩=some (.slice ca C.length cc)∧wr'.cell? ⟨w.heap.size+1,3,none⟩=some (.slice oa no oc))) (by kernel_rfl) ?_ (fun hHeld=>?_)
  ·(try dsimp only);exact⟨a0,a1,b1,b3⟩
  try simp only[nA]
  refine tk (i:=0) (oi:=⟨some 7,.fieldAddr 55 (.tmp 2) 0,0,"ref.go:115",#[],none⟩) ?_
  try simp only[nA]
  refine tk (i:=1) (oi:=⟨some 8,.load 3 (.tmp 7),3,"ref.go:115",#[⟨0,.data⟩],none⟩) ?_
  try simp only[nA]
  refine tk (i:=2) (oi:=⟨some 9,.binOp .lss 3 (.tmp 8) (.const (.int .i64 1)) 3,4,"ref.go:115",#[⟨1,.data⟩],none⟩) ?_
  try simp only[nA]
  refine tk (i:=3) (oi:=⟨some 10,.move (.tmp 9),4,"ref.go:115",#[⟨2,.data⟩],none⟩) ?_
  try simp only[nA]
  refine tu (i:=4) (oi:=⟨some 11,.fieldAddr 55 (.tmp 2) 0,0,"ref.go:115",#[⟨3,.guard⟩],some (3,false)⟩) ?_
  try simp only[nA]
  refine tu (i:=5) (oi:=⟨some 12,.load 3 (.tmp 11),3,"ref.go:115",#[⟨4,.data⟩,⟨3,.guard⟩],some (3,false)⟩) ?_
  try simp only[nA]
  refine tu (i:=6) (oi:=⟨some 13,.fieldAddr 27 (.tmp 3) 1,0,"ref.go:115",#[⟨3,.guard⟩],some (3,false)⟩) ?_
  try simp only[nA]
  refine tu (i:=7) (oi:=⟨some 14,.load 23 (.tmp 13),23,"ref.go:115",#[⟨6,.data⟩,⟨3,.guard⟩],some (3,false)⟩) ?_
  try simp only[nA]
  refine tu (i:=8) (oi:=⟨some 15,.call { callee:=.builtin .len,args:=#[.tmp 14],argTypes:=#[23] },3,"ref.go:115",#[⟨7,.data⟩,⟨3,.guard⟩],some (3,false)⟩) ?_
  try simp only[nA]
  refine tu (i:=9) (oi:=⟨some 16,.binOp .geq 3 (.tmp 12) (.tmp 15) 3,4,"ref.go:115",#[⟨5,.data⟩,⟨8,.data⟩,⟨3,.guard⟩],some (3,false)⟩) ?_
  try simp only[nA]
  refine tk (i:=10) (oi:=⟨some 17,.pick (.tmp 10) (.const (.bool true)) (.tmp 16),4,"ref.go:115",#[⟨3,.data⟩,⟨9,.data⟩],none⟩) ?_
  try simp only[nA]
  refine tk (i:=11) (oi:=⟨some 18,.move (.tmp 17),4,"ref.go:115",#[⟨10,.data⟩,⟨3,.chain⟩],none⟩) ?_
  try simp only[nA]
  refine tu (i:=12) (oi:=⟨some 19,.fieldAddr 55 (.tmp 2) 0,0,"ref.go:115",#[⟨11,.guard⟩],some (11,false)⟩) ?_
  try simp only[nA]
  refine tu (i:=13) (oi:=⟨some 20,.load 3 (.tmp 19),3,"ref.go:115",#[⟨12,.data⟩,⟨11,.guard⟩],some (11,false)⟩) ?_
  try simp only[nA]
  refine tu (i:=14) (oi:=⟨some 21,.binOp .gtr 3 (.tmp 20) (.const (.int .i64 1)) 3,4,"ref.go:115",#[⟨13,.data⟩,⟨11,.guard⟩],some (11,false)⟩) ?_
  try simp only[nA]
  refine tu (i:=15) (oi:=⟨some 22,.move (.tmp 21),4,"ref.go:115",#[⟨14,.data⟩,⟨11,.chain⟩,⟨11,.guard⟩],some (11,false)⟩) ?_
  try simp only[nA]
  refine tu (i:=16) (oi:=⟨some 23,.fieldAddr 55 (.tmp 2) 1,0,"ref.go:115",#[⟨15,.guard⟩],some (15,true)⟩) ?_
  try simp only[nA]
  refine tu (i:=17) (oi:=⟨some 24,.load 53 (.tmp 23),53,"ref.go:115",#[⟨16,.data⟩,⟨15,.guard⟩],some (15,true)⟩) ?_
  try simp only[nA]
  refine tu (i:=18) (oi:=⟨some 25,.call { callee:=.builtin .len,args:=#[.tmp 24],argTypes:=#[53] },3,"ref.go:115",#[⟨17,.data⟩,⟨15,.guard⟩],some (15,true)⟩) ?_
  try simp only[nA]
  refine tu (i:=19) (oi:=⟨some 26,.fieldAddr 27 (.tmp 3) 1,0,"ref.go:115",#[⟨15,.guard⟩],some (15,true)⟩) ?_
  try simp only[nA]
  refine tu (i:=20) (oi:=⟨some 27,.load 23 (.tmp 26),23,"ref.go:115",#[⟨19,.data⟩,⟨15,.guard⟩],some (15,true)⟩) ?_
  try simp only[nA]
  refine tu (i:=21) (oi:=⟨some 28,.fieldAddr 55 (.tmp 2) 0,0,"ref.go:115",#[⟨15,.guard⟩],some (15,true)⟩) ?_
  try simp only[nA]
  refine tu (i:=22) (oi:=⟨some 29,.load 3 (.tmp 28),3,"ref.go:115",#[⟨21,.data⟩,⟨15,.guard⟩],some (15,true)⟩) ?_
  try simp only[nA]
  refine tu (i:=23) (oi:=⟨some 30,.indexAddr 23 (.tmp 27) (.tmp 29),0,"ref.go:115",#[⟨20,.data⟩,⟨22,.data⟩,⟨15,.guard⟩],some (15,true)⟩) ?_
  try simp only[nA]
  refine tu (i:=24) (oi:=⟨some 31,.fieldAddr 60 (.tmp 30) 2,0,"ref.go:115",#[⟨23,.data⟩,⟨15,.guard⟩],some (15,true)⟩) ?_
  try simp only[nA]
  refine tu (i:=25) (oi:=⟨some 32,.load 3 (.tmp 31),3,"ref.go:115",#[⟨24,.data⟩,⟨15,.guard⟩],some (15,true)⟩) ?_
  try simp only[nA]
  refine tu (i:=26) (oi:=⟨some 33,.binOp .neq 3 (.tmp 25) (.tmp 32) 3,4,"ref.go:115",#[⟨18,.data⟩,⟨25,.data⟩,⟨15,.guard⟩],some (15,true)⟩) ?_
  try simp only[nA]
  refine tu (i:=27) (oi:=⟨some 34,.pick (.tmp 22) (.tmp 33) (.const (.bool false)),4,"ref.go:115",#[⟨15,.data⟩,⟨26,.data⟩,⟨11,.guard⟩],some (11,false)⟩) ?_
  try simp only[nA]
  refine tk (i:=28) (oi:=⟨some 35,.pick (.tmp 18) (.const (.bool true)) (.tmp 34),4,"ref.go:115",#[⟨11,.data⟩,⟨27,.data⟩],none⟩) ?_
  try simp only[nA]
  refine tk (i:=29) (oi:=⟨some 36,.move (.tmp 35),4,"ref.go:115",#[⟨28,.data⟩,⟨15,.chain⟩],none⟩) ?_
  try simp only[nA]
  refine tu (i:=30) (oi:=⟨some 37,.fieldAddr 55 (.tmp 2) 1,0,"ref.go:115",#[⟨29,.guard⟩],some (29,false)⟩) ?_
  try simp only[nA]
  refine tu (i:=31) (oi:=⟨some 38,.load 53 (.tmp 37),53,"ref.go:115",#[⟨30,.data⟩,⟨29,.guard⟩],some (29,false)⟩) ?_
  try simp only[nA]
  refine tu (i:=32) (oi:=⟨some 39,.call { callee:=.builtin .len,args:=#[.tmp 38],argTypes:=#[53] },3,"ref.go:115",#[⟨31,.data⟩,⟨29,.guard⟩],some (29,false)⟩) ?_
  try simp only[nA]
  refine tu (i:=33) (oi:=⟨some 40,.binOp .gtr 3 (.tmp 39) (.const (.int .i64 62)) 3,4,"ref.go:115",#[⟨32,.data⟩,⟨29,.guard⟩],some (29,false)⟩) ?_
  try simp only[nA]
  refine tk (i:=34) (oi:=⟨some 41,.pick (.tmp 36) (.const (.bool true)) (.tmp 40),4,"ref.go:115",#[⟨29,.data⟩,⟨33,.data⟩],none⟩) ?_
  try simp only[nA]
  refine wpAnyH_done (by kernel_rfl) ?_ _
  go_wp2_with fail
  go_meet
  exact⟨by rw[hr.out.symm.trans e.out];rfl,rfl⟩
 have dg1:decide (cl < 1)=false:=by simpa using g1
 by_cases g2:(C.length:Int)≤cl
 ·have dg2:decide (cl ≥ (C.length:Int))=true:=by simpa using g2
  have e:=HD (E2.out g2);clear g1 g2 hC' hf' E1 E2 E3 E4 E5;refine wp_region_held_drew (S:=(fun wr'=>wr'.cell? ⟨w.heap.size,0,none⟩=some (.int .i64 cl)∧wr'.cell? ⟨w.heap.size,1,none⟩=some (.slice fa o.flds.length fc)∧wr'.cell? ⟨w.heap.size+1,1,none⟩=some (.slice ca C.length cc)∧wr'.cell? ⟨w.heap.size+1,3,none⟩=some (.slice oa no oc))) (by kernel_rfl) ?_ (fun hHeld=>?_)
  ·(try dsimp only);exact⟨a0,a1,b1,b3⟩
  try simp only[nA]
  refine tk (i:=0) (oi:=⟨some 7,.fieldAddr 55 (.tmp 2) 0,0,"ref.go:115",#[],none⟩) ?_
  try simp only[nA]
  refine tk (i:=1) (oi:=⟨some 8,.load 3 (.tmp 7),3,"ref.go:115",#[⟨0,.data⟩],none⟩) ?_
  try simp only[nA]
  refine tk (i:=2) (oi:=⟨some 9,.binOp .lss 3 (.tmp 8) (.const (.int .i64 1)) 3,4,"ref.go:115",#[⟨1,.data⟩],none⟩) ?_
  try simp only[nA]
  refine tk (i:=3) (oi:=⟨some 10,.move (.tmp 9),4,"ref.go:115",#[⟨2,.data⟩],none⟩) ?_
  try simp only[nA]
  refine tk (i:=4) (oi:=⟨some 11,.fieldAddr 55 (.tmp 2) 0,0,"ref.go:115",#[⟨3,.guard⟩],some (3,false)⟩) ?_
  try simp only[nA]
  refine tk (i:=5) (oi:=⟨some 12,.load 3 (.tmp 11),3,"ref.go:115",#[⟨4,.data⟩,⟨3,.guard⟩],some (3,false)⟩) ?_
  try simp only[nA]
  refine tk (i:=6) (oi:=⟨some 13,.fieldAddr 27 (.tmp 3) 1,0,"ref.go:115",#[⟨3,.guard⟩],some (3,false)⟩) ?_
  try simp only[nA]
  refine tk (i:=7) (oi:=⟨some 14,.load 23 (.tmp 13),23,"ref.go:115",#[⟨6,.data⟩,⟨3,.guard⟩],some (3,false)⟩) ?_
  try simp only[nA]
  refine tk (i:=8) (oi:=⟨some 15,.call { callee:=.builtin .len,args:=#[.tmp 14],argTypes:=#[23] },3,"ref.go:115",#[⟨7,.data⟩,⟨3,.guard⟩],some (3,false)⟩) ?_
  try simp only[nA]
  refine tk (i:=9) (oi:=⟨some 16,.binOp .geq 3 (.tmp 12) (.tmp 15) 3,4,"ref.go:115",#[⟨5,.data⟩,⟨8,.data⟩,⟨3,.guard⟩],some (3,false)⟩) ?_
  try simp only[nA]
  refine tk (i:=10) (oi:=⟨some 17,.pick (.tmp 10) (.const (.bool true)) (.tmp 16),4,"ref.go:115",#[⟨3,.data⟩,⟨9,.data⟩],none⟩) ?_
  try simp only[nA]
  refine tk (i:=11) (oi:=⟨some 18,.move (.tmp 17),4,"ref.go:115",#[⟨10,.data⟩,⟨3,.chain⟩],none⟩) ?_
  try simp only[nA]
  refine tu (i:=12) (oi:=⟨some 19,.fieldAddr 55 (.tmp 2) 0,0,"ref.go:115",#[⟨11,.guard⟩],some (11,false)⟩) ?_
  try simp only[nA]
  refine tu (i:=13) (oi:=⟨some 20,.load 3 (.tmp 19),3,"ref.go:115",#[⟨12,.data⟩,⟨11,.guard⟩],some (11,false)⟩) ?_
  try simp only[nA]
  refine tu (i:=14) (oi:=⟨some 21,.binOp .gtr 3 (.tmp 20) (.const (.int .i64 1)) 3,4,"ref.go:115",#[⟨13,.data⟩,⟨11,.guard⟩],some (11,false)⟩) ?_
  try simp only[nA]
  refine tu (i:=15) (oi:=⟨some 22,.move (.tmp 21),4,"ref.go:115",#[⟨14,.data⟩,⟨11,.chain⟩,⟨11,.guard⟩],some (11,false)⟩) ?_
  try simp only[nA]
  refine tu (i:=16) (oi:=⟨some 23,.fieldAddr 55 (.tmp 2) 1,0,"ref.go:115",#[⟨15,.guard⟩],some (15,true)⟩) ?_
  try simp only[nA]
  refine tu (i:=17) (oi:=⟨some 24,.load 53 (.tmp 23),53,"ref.go:115",#[⟨16,.data⟩,⟨15,.guard⟩],some (15,true)⟩) ?_
  try simp only[nA]
  refine tu (i:=18) (oi:=⟨some 25,.call { callee:=.builtin .len,args:=#[.tmp 24],argTypes:=#[53] },3,"ref.go:115",#[⟨17,.data⟩,⟨15,.guard⟩],some (15,true)⟩) ?_
  try simp only[nA]
  refine tu (i:=19) (oi:=⟨some 26,.fieldAddr 27 (.tmp 3) 1,0,"ref.go:115",#[⟨15,.guard⟩],some (15,true)⟩) ?_
  try simp only[nA]
  refine tu (i:=20) (oi:=⟨some 27,.load 23 (.tmp 26),23,"ref.go:115",#[⟨19,.data⟩,⟨15,.guard⟩],some (15,true)⟩) ?_
  try simp only[nA]
  refine tu (i:=21) (oi:=⟨some 28,.fieldAddr 55 (.tmp 2) 0,0,"ref.go:115",#[⟨15,.guard⟩],some (15,true)⟩) ?_
  try simp only[nA]
  refine tu (i:=22) (oi:=⟨some 29,.load 3 (.tmp 28),3,"ref.go:115",#[⟨21,.data⟩,⟨15,.guard⟩],some (15,true)⟩) ?_
  try simp only[nA]
  refine tu (i:=23) (oi:=⟨some 30,.indexAddr 23 (.tmp 27) (.tmp 29),0,"ref.go:115",#[⟨20,.data⟩,⟨22,.data⟩,⟨15,.guard⟩],some (15,true)⟩) ?_
  try simp only[nA]
  refine tu (i:=24) (oi:=⟨some 31,.fieldAddr 60 (.tmp 30) 2,0,"ref.go:115",#[⟨23,.data⟩,⟨15,.guard⟩],some (15,true)⟩) ?_
  try simp only[nA]
  refine tu (i:=25) (oi:=⟨some 32,.load 3 (.tmp 31),3,"ref.go:115",#[⟨24,.data⟩,⟨15,.guard⟩],some (15,true)⟩) ?_
  try simp only[nA]
  refine tu (i:=26) (oi:=⟨some 33,.binOp .neq 3 (.tmp 25) (.tmp 32) 3,4,"ref.go:115",#[⟨18,.data⟩,⟨25,.data⟩,⟨15,.guard⟩],some (15,true)⟩) ?_
  try simp only[nA]
  refine tu (i:=27) (oi:=⟨some 34,.pick (.tmp 22) (.tmp 33) (.const (.bool false)),4,"ref.go:115",#[⟨15,.data⟩,⟨26,.data⟩,⟨11,.guard⟩],some (11,false)⟩) ?_
  try simp only[nA]
  refine tk (i:=28) (oi:=⟨some 35,.pick (.tmp 18) (.const (.bool true)) (.tmp 34),4,"ref.go:115",#[⟨11,.data⟩,⟨27,.data⟩],none⟩) ?_
  try simp only[nA]
  refine tk (i:=29) (oi:=⟨some 36,.move (.tmp 35),4,"ref.go:115",#[⟨28,.data⟩,⟨15,.chain⟩],none⟩) ?_
  try simp only[nA]
  refine tu (i:=30) (oi:=⟨some 37,.fieldAddr 55 (.tmp 2) 1,0,"ref.go:115",#[⟨29,.guard⟩],some (29,false)⟩) ?_
  try simp only[nA]
  refine tu (i:=31) (oi:=⟨some 38,.load 53 (.tmp 37),53,"ref.go:115",#[⟨30,.data⟩,⟨29,.guard⟩],some (29,false)⟩) ?_
  try simp only[nA]
  refine tu (i:=32) (oi:=⟨some 39,.call { callee:=.builtin .len,args:=#[.tmp 38],argTypes:=#[53] },3,"ref.go:115",#[⟨31,.data⟩,⟨29,.guard⟩],some (29,false)⟩) ?_
  try simp only[nA]
  refine tu (i:=33) (oi:=⟨some 40,.binOp .gtr 3 (.tmp 39) (.const (.int .i64 62)) 3,4,"ref.go:115",#[⟨32,.data⟩,⟨29,.guard⟩],some (29,false)⟩) ?_
  try simp only[nA]
  refine tk (i:=34) (oi:=⟨some 41,.pick (.tmp 36) (.const (.bool true)) (.tmp 40),4,"ref.go:115",#[⟨29,.data⟩,⟨33,.data⟩],none⟩) ?_
  try simp only[nA]
  refine wpAnyH_done (by kernel_rfl) ?_ _
  go_wp2_with fail
  go_meet
  exact⟨by rw[hr.out.symm.trans e.out];rfl,rfl⟩
 have dg2:decide (cl ≥ (C.length:Int))=false:=by simp;omega
 obtain⟨k,rfl⟩:∃ k:Nat,cl=k:=⟨cl.toNat,by omega⟩
 have hkC:k < C.length:=by omega
 obtain⟨x,hx⟩:∃ x,C[k]?=some x:=⟨C[k],by simp⟩
 have ek:=HD (clsF_at hx);obtain⟨_,⟨f0,f1⟩,g,off,bv,rfl,_,_,d2,_,_⟩:=ClV.at hC'.out hx;have k0:(0:Int)≤(k:Int):=by omega
 have k1:(k:Int) < (C.length:Int):=by omega
 have dg2n:decide (C.length≤k)=false:=by simp;omega
 have hh:=HD (show ¬ ((k:Int) < 1∨(C.length:Int)≤(k:Int)) by omega);generalize x.fields=xf at *;clear hx E1 E2;by_cases g3:1 < k
 ·have dg3:decide ((k:Int) > 1)=true:=by simp;omega
  have dg3n:decide (1 < k)=true:=by simpa using g3
  by_cases g4:(o.flds.length:Int)=xf
  ·have dg4:((o.flds.length:Int) != xf)=false:=by simpa using g4
   by_cases g5:62 < o.flds.length
   ·have dg5:decide ((o.flds.length:Int) > 62)=true:=by simp;omega
    have dg5n:decide (62 < o.flds.length)=true:=by simpa using g5
    have e:=HD (E4.out g5);clear g1 g2 g4 g5 E3 E4 E5;refine wp_region_held_drew (S:=(fun wr'=>wr'.cell? ⟨w.heap.size,0,none⟩=some (.int .i64 (k:Int))∧wr'.cell? ⟨w.heap.size,1,none⟩=some (.slice fa o.flds.length fc)∧wr'.cell? ⟨w.heap.size+1,1,none⟩=some (.slice (some ⟨g,off,none⟩) C.length cc)∧wr'.cell? ⟨w.heap.size+1,3,none⟩=some (.slice oa no oc)∧wr'.cell? ⟨g,off+k*4+2,none⟩=some (.int .i64 xf))) (by kernel_rfl) ?_ (fun hHeld=>?_)
    ·(try dsimp only);exact⟨a0,a1,b1,b3,d2⟩
    try simp only[nA]
    refine tk (i:=0) (oi:=⟨some 7,.fieldAddr 55 (.tmp 2) 0,0,"ref.go:115",#[],none⟩) ?_
    try simp only[nA]
    refine tk (i:=1) (oi:=⟨some 8,.load 3 (.tmp 7),3,"ref.go:115",#[⟨0,.data⟩],none⟩) ?_
    try simp only[nA]
    refine tk (i:=2) (oi:=⟨some 9,.binOp .lss 3 (.tmp 8) (.const (.int .i64 1)) 3,4,"ref.go:115",#[⟨1,.data⟩],none⟩) ?_
    try simp only[nA]
    refine tk (i:=3) (oi:=⟨some 10,.move (.tmp 9),4,"ref.go:115",#[⟨2,.data⟩],none⟩) ?_
    try simp only[nA]
    refine tk (i:=4) (oi:=⟨some 11,.fieldAddr 55 (.tmp 2) 0,0,"ref.go:115",#[⟨3,.guard⟩],some (3,false)⟩) ?_
    try simp only[nA]
    refine tk (i:=5) (oi:=⟨some 12,.load 3 (.tmp 11),3,"ref.go:115",#[⟨4,.data⟩,⟨3,.guard⟩],some (3,false)⟩) ?_
    try simp only[nA]
    refine tk (i:=6) (oi:=⟨some 13,.fieldAddr 27 (.tmp 3) 1,0,"ref.go:115",#[⟨3,.guard⟩],some (3,false)⟩) ?_
    try simp only[nA]
    refine tk (i:=7) (oi:=⟨some 14,.load 23 (.tmp 13),23,"ref.go:115",#[⟨6,.data⟩,⟨3,.guard⟩],some (3,false)⟩) ?_
    try simp only[nA]
    refine tk (i:=8) (oi:=⟨some 15,.call { callee:=.builtin .len,args:=#[.tmp 14],argTypes:=#[23] },3,"ref.go:115",#[⟨7,.data⟩,⟨3,.guard⟩],some (3,false)⟩) ?_
    try simp only[nA]
    refine tk (i:=9) (oi:=⟨some 16,.binOp .geq 3 (.tmp 12) (.tmp 15) 3,4,"ref.go:115",#[⟨5,.data⟩,⟨8,.data⟩,⟨3,.guard⟩],some (3,false)⟩) ?_
    try simp only[nA]
    refine tk (i:=10) (oi:=⟨some 17,.pick (.tmp 10) (.const (.bool true)) (.tmp 16),4,"ref.go:115",#[⟨3,.data⟩,⟨9,.data⟩],none⟩) ?_
    try simp only[nA]
    refine tk (i:=11) (oi:=⟨some 18,.move (.tmp 17),4,"ref.go:115",#[⟨10,.data⟩,⟨3,.chain⟩],none⟩) ?_
    try simp only[nA]
    refine tk (i:=12) (oi:=⟨some 19,.fieldAddr 55 (.tmp 2) 0,0,"ref.go:115",#[⟨11,.guard⟩],some (11,false)⟩) ?_
    try simp only[nA]
    refine tk (i:=13) (oi:=⟨some 20,.load 3 (.tmp 19),3,"ref.go:115",#[⟨12,.data⟩,⟨11,.guard⟩],some (11,false)⟩) ?_
    try simp only[nA]
    refine tk (i:=14) (oi:=⟨some 21,.binOp .gtr 3 (.tmp 20) (.const (.int .i64 1)) 3,4,"ref.go:115",#[⟨13,.data⟩,⟨11,.guard⟩],some (11,false)⟩) ?_
    try simp only[nA]
    refine tk (i:=15) (oi:=⟨some 22,.move (.tmp 21),4,"ref.go:115",#[⟨14,.data⟩,⟨11,.chain⟩,⟨11,.guard⟩],some (11,false)⟩) ?_
    try simp only[nA]
    refine tk (i:=16) (oi:=⟨some 23,.fieldAddr 55 (.tmp 2) 1,0,"ref.go:115",#[⟨15,.guard⟩],some (15,true)⟩) ?_
    try simp only[nA]
    refine tk (i:=17) (oi:=⟨some 24,.load 53 (.tmp 23),53,"ref.go:115",#[⟨16,.data⟩,⟨15,.guard⟩],some (15,true)⟩) ?_
    try simp only[nA]
    refine tk (i:=18) (oi:=⟨some 25,.call { callee:=.builtin .len,args:=#[.tmp 24],argTypes:=#[53] },3,"ref.go:115",#[⟨17,.data⟩,⟨15,.guard⟩],some (15,true)⟩) ?_
    try simp only[nA]
    refine tk (i:=19) (oi:=⟨some 26,.fieldAddr 27 (.tmp 3) 1,0,"ref.go:115",#[⟨15,.guard⟩],some (15,true)⟩) ?_
    try simp only[nA]
    refine tk (i:=20) (oi:=⟨some 27,.load 23 (.tmp 26),23,"ref.go:115",#[⟨19,.data⟩,⟨15,.guard⟩],some (15,true)⟩) ?_
    try simp only[nA]
    refine tk (i:=21) (oi:=⟨some 28,.fieldAddr 55 (.tmp 2) 0,0,"ref.go:115",#[⟨15,.guard⟩],some (15,true)⟩) ?_
    try simp only[nA]
    refine tk (i:=22) (oi:=⟨some 29,.load 3 (.tmp 28),3,"ref.go:115",#[⟨21,.data⟩,⟨15,.guard⟩],some (15,true)⟩) ?_
    try simp only[nA]
    refine tk (i:=23) (oi:=⟨some 30,.indexAddr 23 (.tmp 27) (.tmp 29),0,"ref.go:115",#[⟨20,.data⟩,⟨22,.data⟩,⟨15,.guard⟩],some (15,true)⟩) ?_
    try simp only[nA]
    refine tk (i:=24) (oi:=⟨some 31,.fieldAddr 60 (.tmp 30) 2,0,"ref.go:115",#[⟨23,.data⟩,⟨15,.guard⟩],some (15,true)⟩) ?_
    try simp only[nA]
    refine tk (i:=25) (oi:=⟨some 32,.load 3 (.tmp 31),3,"ref.go:115",#[⟨24,.data⟩,⟨15,.guard⟩],some (15,true)⟩) ?_
    try simp only[nA]
    refine tk (i:=26) (oi:=⟨some 33,.binOp .neq 3 (.tmp 25) (.tmp 32) 3,4,"ref.go:115",#[⟨18,.data⟩,⟨25,.data⟩,⟨15,.guard⟩],some (15,true)⟩) ?_
    try simp only[nA]
    refine tk (i:=27) (oi:=⟨some 34,.pick (.tmp 22) (.tmp 33) (.const (.bool false)),4,"ref.go:115",#[⟨15,.data⟩,⟨26,.data⟩,⟨11,.guard⟩],some (11,false)⟩) ?_
    try simp only[nA]
    refine tk (i:=28) (oi:=⟨some 35,.pick (.tmp 18) (.const (.bool true)) (.tmp 34),4,"ref.go:115",#[⟨11,.data⟩,⟨27,.data⟩],none⟩) ?_
    try simp only[nA]
    refine tk (i:=29) (oi:=⟨some 36,.move (.tmp 35),4,"ref.go:115",#[⟨28,.data⟩,⟨15,.chain⟩],none⟩) ?_
    try simp only[nA]
    refine tk (i:=30) (oi:=⟨some 37,.fieldAddr 55 (.tmp 2) 1,0,"ref.go:115",#[⟨29,.guard⟩],some (29,false)⟩) ?_
    try simp only[nA]
    refine tk (i:=31) (oi:=⟨some 38,.load 53 (.tmp 37),53,"ref.go:115",#[⟨30,.data⟩,⟨29,.guard⟩],some (29,false)⟩) ?_
    try simp only[nA]
    refine tk (i:=32) (oi:=⟨some 39,.call { callee:=.builtin .len,args:=#[.tmp 38],argTypes:=#[53] },3,"ref.go:115",#[⟨31,.data⟩,⟨29,.guard⟩],some (29,false)⟩) ?_
    try simp only[nA]
    refine tk (i:=33) (oi:=⟨some 40,.binOp .gtr 3 (.tmp 39) (.const (.int .i64 62)) 3,4,"ref.go:115",#[⟨32,.data⟩,⟨29,.guard⟩],some (29,false)⟩) ?_
    try simp only[nA]
    refine tk (i:=34) (oi:=⟨some 41,.pick (.tmp 36) (.const (.bool true)) (.tmp 40),4,"ref.go:115",#[⟨29,.data⟩,⟨33,.data⟩],none⟩) ?_
    try simp only[nA]
    refine wpAnyH_done (by kernel_rfl) ?_ _
    go_wp2_with fail
    go_meet
    exact⟨by rw[hr.out.symm.trans e.out];rfl,rfl⟩
   ·have dg5:decide ((o.flds.length:Int) > 62)=false:=by simp;omega
    have dg5n:decide (62 < o.flds.length)=false:=by simpa using g5
    have e:=HD (E5.out hh.out (fun h=>h.2 (by rw[ek.out];exact g4)) (by omega));clear g1 g2 g4 g5 E3 E4 E5;refine wp_region_held_drew (S:=(fun wr'=>wr'.cell? ⟨w.heap.size,0,none⟩=some (.int .i64 (k:Int))∧wr'.cell? ⟨w.heap.size,1,none⟩=some (.slice fa o.flds.length fc)∧wr'.cell? ⟨w.heap.size+1,1,none⟩=some (.slice (some ⟨g,off,none⟩) C.length cc)∧wr'.cell? ⟨w.heap.size+1,3,none⟩=some (.slice oa no oc)∧wr'.cell? ⟨g,off+k*4+2,none⟩=some (.int .i64 xf))) (by kernel_rfl) ?_ (fun hHeld=>?_)
    ·(try dsimp only);exact⟨a0,a1,b1,b3,d2⟩
    try simp only[nA]
    refine tk (i:=0) (oi:=⟨some 7,.fieldAddr 55 (.tmp 2) 0,0,"ref.go:115",#[],none⟩) ?_
    try simp only[nA]
    refine tk (i:=1) (oi:=⟨some 8,.load 3 (.tmp 7),3,"ref.go:115",#[⟨0,.data⟩],none⟩) ?_
    try simp only[nA]
    refine tk (i:=2) (oi:=⟨some 9,.binOp .lss 3 (.tmp 8) (.const (.int .i64 1)) 3,4,"ref.go:115",#[⟨1,.data⟩],none⟩) ?_
    try simp only[nA]
    refine tk (i:=3) (oi:=⟨some 10,.move (.tmp 9),4,"ref.go:115",#[⟨2,.data⟩],none⟩) ?_
    try simp only[nA]
    refine tk (i:=4) (oi:=⟨some 11,.fieldAddr 55 (.tmp 2) 0,0,"ref.go:115",#[⟨3,.guard⟩],some (3,false)⟩) ?_
    try simp only[nA]
    refine tk (i:=5) (oi:=⟨some 12,.load 3 (.tmp 11),3,"ref.go:115",#[⟨4,.data⟩,⟨3,.guard⟩],some (3,false)⟩) ?_
    try simp only[nA]
    refine tk (i:=6) (oi:=⟨some 13,.fieldAddr 27 (.tmp 3) 1,0,"ref.go:115",#[⟨3,.guard⟩],some (3,false)⟩) ?_
    try simp only[nA]
    refine tk (i:=7) (oi:=⟨some 14,.load 23 (.tmp 13),23,"ref.go:115",#[⟨6,.data⟩,⟨3,.guard⟩],some (3,false)⟩) ?_
    try simp only[nA]
    refine tk (i:=8) (oi:=⟨some 15,.call { callee:=.builtin .len,args:=#[.tmp 14],argTypes:=#[23] },3,"ref.go:115",#[⟨7,.data⟩,⟨3,.guard⟩],some (3,false)⟩) ?_
    try simp only[nA]
    refine tk (i:=9) (oi:=⟨some 16,.binOp .geq 3 (.tmp 12) (.tmp 15) 3,4,"ref.go:115",#[⟨5,.data⟩,⟨8,.data⟩,⟨3,.guard⟩],some (3,false)⟩) ?_
    try simp only[nA]
    refine tk (i:=10) (oi:=⟨some 17,.pick (.tmp 10) (.const (.bool true)) (.tmp 16),4,"ref.go:115",#[⟨3,.data⟩,⟨9,.data⟩],none⟩) ?_
    try simp only[nA]
    refine tk (i:=11) (oi:=⟨some 18,.move (.tmp 17),4,"ref.go:115",#[⟨10,.data⟩,⟨3,.chain⟩],none⟩) ?_
    try simp only[nA]
    refine tk (i:=12) (oi:=⟨some 19,.fieldAddr 55 (.tmp 2) 0,0,"ref.go:115",#[⟨11,.guard⟩],some (11,false)⟩) ?_
    try simp only[nA]
    refine tk (i:=13) (oi:=⟨some 20,.load 3 (.tmp 19),3,"ref.go:115",#[⟨12,.data⟩,⟨11,.guard⟩],some (11,false)⟩) ?_
    try simp only[nA]
    refine tk (i:=14) (oi:=⟨some 21,.binOp .gtr 3 (.tmp 20) (.const (.int .i64 1)) 3,4,"ref.go:115",#[⟨13,.data⟩,⟨11,.guard⟩],some (11,false)⟩) ?_
    try simp only[nA]
    refine tk (i:=15) (oi:=⟨some 22,.move (.tmp 21),4,"ref.go:115",#[⟨14,.data⟩,⟨11,.chain⟩,⟨11,.guard⟩],some (11,false)⟩) ?_
    try simp only[nA]
    refine tk (i:=16) (oi:=⟨some 23,.fieldAddr 55 (.tmp 2) 1,0,"ref.go:115",#[⟨15,.guard⟩],some (15,true)⟩) ?_
    try simp only[nA]
    refine tk (i:=17) (oi:=⟨some 24,.load 53 (.tmp 23),53,"ref.go:115",#[⟨16,.data⟩,⟨15,.guard⟩],some (15,true)⟩) ?_
    try simp only[nA]
    refine tk (i:=18) (oi:=⟨some 25,.call { callee:=.builtin .len,args:=#[.tmp 24],argTypes:=#[53] },3,"ref.go:115",#[⟨17,.data⟩,⟨15,.guard⟩],some (15,true)⟩) ?_
    try simp only[nA]
    refine tk (i:=19) (oi:=⟨some 26,.fieldAddr 27 (.tmp 3) 1,0,"ref.go:115",#[⟨15,.guard⟩],some (15,true)⟩) ?_
    try simp only[nA]
    refine tk (i:=20) (oi:=⟨some 27,.load 23 (.tmp 26),23,"ref.go:115",#[⟨19,.data⟩,⟨15,.guard⟩],some (15,true)⟩) ?_
    try simp only[nA]
    refine tk (i:=21) (oi:=⟨some 28,.fieldAddr 55 (.tmp 2) 0,0,"ref.go:115",#[⟨15,.guard⟩],some (15,true)⟩) ?_
    try simp only[nA]
    refine tk (i:=22) (oi:=⟨some 29,.load 3 (.tmp 28),3,"ref.go:115",#[⟨21,.data⟩,⟨15,.guard⟩],some (15,true)⟩) ?_
    try simp only[nA]
    refine tk (i:=23) (oi:=⟨some 30,.indexAddr 23 (.tmp 27) (.tmp 29),0,"ref.go:115",#[⟨20,.data⟩,⟨22,.data⟩,⟨15,.guard⟩],some (15,true)⟩) ?_
    try simp only[nA]
    refine tk (i:=24) (oi:=⟨some 31,.fieldAddr 60 (.tmp 30) 2,0,"ref.go:115",#[⟨23,.data⟩,⟨15,.guard⟩],some (15,true)⟩) ?_
    try simp only[nA]
    refine tk (i:=25) (oi:=⟨some 32,.load 3 (.tmp 31),3,"ref.go:115",#[⟨24,.data⟩,⟨15,.guard⟩],some (15,true)⟩) ?_
    try simp only[nA]
    refine tk (i:=26) (oi:=⟨some 33,.binOp .neq 3 (.tmp 25) (.tmp 32) 3,4,"ref.go:115",#[⟨18,.data⟩,⟨25,.data⟩,⟨15,.guard⟩],some (15,true)⟩) ?_
    try simp only[nA]
    refine tk (i:=27) (oi:=⟨some 34,.pick (.tmp 22) (.tmp 33) (.const (.bool false)),4,"ref.go:115",#[⟨15,.data⟩,⟨26,.data⟩,⟨11,.guard⟩],some (11,false)⟩) ?_
    try simp only[nA]
    refine tk (i:=28) (oi:=⟨some 35,.pick (.tmp 18) (.const (.bool true)) (.tmp 34),4,"ref.go:115",#[⟨11,.data⟩,⟨27,.data⟩],none⟩) ?_
    try simp only[nA]
    refine tk (i:=29) (oi:=⟨some 36,.move (.tmp 35),4,"ref.go:115",#[⟨28,.data⟩,⟨15,.chain⟩],none⟩) ?_
    try simp only[nA]
    refine tk (i:=30) (oi:=⟨some 37,.fieldAddr 55 (.tmp 2) 1,0,"ref.go:115",#[⟨29,.guard⟩],some (29,false)⟩) ?_
    try simp only[nA]
    refine tk (i:=31) (oi:=⟨some 38,.load 53 (.tmp 37),53,"ref.go:115",#[⟨30,.data⟩,⟨29,.guard⟩],some (29,false)⟩) ?_
    try simp only[nA]
    refine tk (i:=32) (oi:=⟨some 39,.call { callee:=.builtin .len,args:=#[.tmp 38],argTypes:=#[53] },3,"ref.go:115",#[⟨31,.data⟩,⟨29,.guard⟩],some (29,false)⟩) ?_
    try simp only[nA]
    refine tk (i:=33) (oi:=⟨some 40,.binOp .gtr 3 (.tmp 39) (.const (.int .i64 62)) 3,4,"ref.go:115",#[⟨32,.data⟩,⟨29,.guard⟩],some (29,false)⟩) ?_
    try simp only[nA]
    refine tk (i:=34) (oi:=⟨some 41,.pick (.tmp 36) (.const (.bool true)) (.tmp 40),4,"ref.go:115",#[⟨29,.data⟩,⟨33,.data⟩],none⟩) ?_
    try simp only[nA]
    refine wpAnyH_done (by kernel_rfl) ?_ _
    go_wp2_with fail
    go_meet
    exact⟨by rw[hr.out.symm.trans e.out];rfl,rfl⟩
  ·have dg4:((o.flds.length:Int) != xf)=true:=by simpa using g4
   have e:=HD (E3.out hh.out (by omega) (by rw[ek.out];exact g4));clear g4 g1 g2 E3 E4 E5;refine wp_region_held_drew (S:=(fun wr'=>wr'.cell? ⟨w.heap.size,0,none⟩=some (.int .i64 (k:Int))∧wr'.cell? ⟨w.heap.size,1,none⟩=some (.slice fa o.flds.length fc)∧wr'.cell? ⟨w.heap.size+1,1,none⟩=some (.slice (some ⟨g,off,none⟩) C.length cc)∧wr'.cell? ⟨w.heap.size+1,3,none⟩=some (.slice oa no oc)∧wr'.cell? ⟨g,off+k*4+2,none⟩=some (.int .i64 xf))) (by kernel_rfl) ?_ (fun hHeld=>?_)
   ·(try dsimp only);exact⟨a0,a1,b1,b3,d2⟩
   try simp only[nA]
   refine tk (i:=0) (oi:=⟨some 7,.fieldAddr 55 (.tmp 2) 0,0,"ref.go:115",#[],none⟩) ?_
   try simp only[nA]
   refine tk (i:=1) (oi:=⟨some 8,.load 3 (.tmp 7),3,"ref.go:115",#[⟨0,.data⟩],none⟩) ?_
   try simp only[nA]
   refine tk (i:=2) (oi:=⟨some 9,.binOp .lss 3 (.tmp 8) (.const (.int .i64 1)) 3,4,"ref.go:115",#[⟨1,.data⟩],none⟩) ?_
   try simp only[nA]
   refine tk (i:=3) (oi:=⟨some 10,.move (.tmp 9),4,"ref.go:115",#[⟨2,.data⟩],none⟩) ?_
   try simp only[nA]
   refine tk (i:=4) (oi:=⟨some 11,.fieldAddr 55 (.tmp 2) 0,0,"ref.go:115",#[⟨3,.guard⟩],some (3,false)⟩) ?_
   try simp only[nA]
   refine tk (i:=5) (oi:=⟨some 12,.load 3 (.tmp 11),3,"ref.go:115",#[⟨4,.data⟩,⟨3,.guard⟩],some (3,false)⟩) ?_
   try simp only[nA]
   refine tk (i:=6) (oi:=⟨some 13,.fieldAddr 27 (.tmp 3) 1,0,"ref.go:115",#[⟨3,.guard⟩],some (3,false)⟩) ?_
   try simp only[nA]
   refine tk (i:=7) (oi:=⟨some 14,.load 23 (.tmp 13),23,"ref.go:115",#[⟨6,.data⟩,⟨3,.guard⟩],some (3,false)⟩) ?_
   try simp only[nA]
   refine tk (i:=8) (oi:=⟨some 15,.call { callee:=.builtin .len,args:=#[.tmp 14],argTypes:=#[23] },3,"ref.go:115",#[⟨7,.data⟩,⟨3,.guard⟩],some (3,false)⟩) ?_
   try simp only[nA]
   refine tk (i:=9) (oi:=⟨some 16,.binOp .geq 3 (.tmp 12) (.tmp 15) 3,4,"ref.go:115",#[⟨5,.data⟩,⟨8,.data⟩,⟨3,.guard⟩],some (3,false)⟩) ?_
   try simp only[nA]
   refine tk (i:=10) (oi:=⟨some 17,.pick (.tmp 10) (.const (.bool true)) (.tmp 16),4,"ref.go:115",#[⟨3,.data⟩,⟨9,.data⟩],none⟩) ?_
   try simp only[nA]
   refine tk (i:=11) (oi:=⟨some 18,.move (.tmp 17),4,"ref.go:115",#[⟨10,.data⟩,⟨3,.chain⟩],none⟩) ?_
   try simp only[nA]
   refine tk (i:=12) (oi:=⟨some 19,.fieldAddr 55 (.tmp 2) 0,0,"ref.go:115",#[⟨11,.guard⟩],some (11,false)⟩) ?_
   try simp only[nA]
   refine tk (i:=13) (oi:=⟨some 20,.load 3 (.tmp 19),3,"ref.go:115",#[⟨12,.data⟩,⟨11,.guard⟩],some (11,false)⟩) ?_
   try simp only[nA]
   refine tk (i:=14) (oi:=⟨some 21,.binOp .gtr 3 (.tmp 20) (.const (.int .i64 1)) 3,4,"ref.go:115",#[⟨13,.data⟩,⟨11,.guard⟩],some (11,false)⟩) ?_
   try simp only[nA]
   refine tk (i:=15) (oi:=⟨some 22,.move (.tmp 21),4,"ref.go:115",#[⟨14,.data⟩,⟨11,.chain⟩,⟨11,.guard⟩],some (11,false)⟩) ?_
   try simp only[nA]
   refine tk (i:=16) (oi:=⟨some 23,.fieldAddr 55 (.tmp 2) 1,0,"ref.go:115",#[⟨15,.guard⟩],some (15,true)⟩) ?_
   try simp only[nA]
   refine tk (i:=17) (oi:=⟨some 24,.load 53 (.tmp 23),53,"ref.go:115",#[⟨16,.data⟩,⟨15,.guard⟩],some (15,true)⟩) ?_
   try simp only[nA]
   refine tk (i:=18) (oi:=⟨some 25,.call { callee:=.builtin .len,args:=#[.tmp 24],argTypes:=#[53] },3,"ref.go:115",#[⟨17,.data⟩,⟨15,.guard⟩],some (15,true)⟩) ?_
   try simp only[nA]
   refine tk (i:=19) (oi:=⟨some 26,.fieldAddr 27 (.tmp 3) 1,0,"ref.go:115",#[⟨15,.guard⟩],some (15,true)⟩) ?_
   try simp only[nA]
   refine tk (i:=20) (oi:=⟨some 27,.load 23 (.tmp 26),23,"ref.go:115",#[⟨19,.data⟩,⟨15,.guard⟩],some (15,true)⟩) ?_
   try simp only[nA]
   refine tk (i:=21) (oi:=⟨some 28,.fieldAddr 55 (.tmp 2) 0,0,"ref.go:115",#[⟨15,.guard⟩],some (15,true)⟩) ?_
   try simp only[nA]
   refine tk (i:=22) (oi:=⟨some 29,.load 3 (.tmp 28),3,"ref.go:115",#[⟨21,.data⟩,⟨15,.guard⟩],some (15,true)⟩) ?_
   try simp only[nA]
   refine tk (i:=23) (oi:=⟨some 30,.indexAddr 23 (.tmp 27) (.tmp 29),0,"ref.go:115",#[⟨20,.data⟩,⟨22,.data⟩,⟨15,.guard⟩],some (15,true)⟩) ?_
   try simp only[nA]
   refine tk (i:=24) (oi:=⟨some 31,.fieldAddr 60 (.tmp 30) 2,0,"ref.go:115",#[⟨23,.data⟩,⟨15,.guard⟩],some (15,true)⟩) ?_
   try simp only[nA]
   refine tk (i:=25) (oi:=⟨some 32,.load 3 (.tmp 31),3,"ref.go:115",#[⟨24,.data⟩,⟨15,.guard⟩],some (15,true)⟩) ?_
   try simp only[nA]
   refine tk (i:=26) (oi:=⟨some 33,.binOp .neq 3 (.tmp 25) (.tmp 32) 3,4,"ref.go:115",#[⟨18,.data⟩,⟨25,.data⟩,⟨15,.guard⟩],some (15,true)⟩) ?_
   try simp only[nA]
   refine tk (i:=27) (oi:=⟨some 34,.pick (.tmp 22) (.tmp 33) (.const (.bool false)),4,"ref.go:115",#[⟨15,.data⟩,⟨26,.data⟩,⟨11,.guard⟩],some (11,false)⟩) ?_
   try simp only[nA]
   refine tk (i:=28) (oi:=⟨some 35,.pick (.tmp 18) (.const (.bool true)) (.tmp 34),4,"ref.go:115",#[⟨11,.data⟩,⟨27,.data⟩],none⟩) ?_
   try simp only[nA]
   refine tk (i:=29) (oi:=⟨some 36,.move (.tmp 35),4,"ref.go:115",#[⟨28,.data⟩,⟨15,.chain⟩],none⟩) ?_
   try simp only[nA]
   refine tu (i:=30) (oi:=⟨some 37,.fieldAddr 55 (.tmp 2) 1,0,"ref.go:115",#[⟨29,.guard⟩],some (29,false)⟩) ?_
   try simp only[nA]
   refine tu (i:=31) (oi:=⟨some 38,.load 53 (.tmp 37),53,"ref.go:115",#[⟨30,.data⟩,⟨29,.guard⟩],some (29,false)⟩) ?_
   try simp only[nA]
   refine tu (i:=32) (oi:=⟨some 39,.call { callee:=.builtin .len,args:=#[.tmp 38],argTypes:=#[53] },3,"ref.go:115",#[⟨31,.data⟩,⟨29,.guard⟩],some (29,false)⟩) ?_
   try simp only[nA]
   refine tu (i:=33) (oi:=⟨some 40,.binOp .gtr 3 (.tmp 39) (.const (.int .i64 62)) 3,4,"ref.go:115",#[⟨32,.data⟩,⟨29,.guard⟩],some (29,false)⟩) ?_
   try simp only[nA]
   refine tk (i:=34) (oi:=⟨some 41,.pick (.tmp 36) (.const (.bool true)) (.tmp 40),4,"ref.go:115",#[⟨29,.data⟩,⟨33,.data⟩],none⟩) ?_
   try simp only[nA]
   refine wpAnyH_done (by kernel_rfl) ?_ _
   go_wp2_with fail
   go_meet
   exact⟨by rw[hr.out.symm.trans e.out];rfl,rfl⟩
 have dg3:decide ((k:Int) > 1)=false:=by simp;omega
 have dg3n:decide (1 < k)=false:=by simpa using g3
 by_cases g5:62 < o.flds.length
 ·have dg5:decide ((o.flds.length:Int) > 62)=true:=by simp;omega
  have dg5n:decide (62 < o.flds.length)=true:=by simpa using g5
  have e:=HD (E4.out g5);clear g1 g2 g5 E3 E4 E5;refine wp_region_held_drew (S:=(fun wr'=>wr'.cell? ⟨w.heap.size,0,none⟩=some (.int .i64 (k:Int))∧wr'.cell? ⟨w.heap.size,1,none⟩=some (.slice fa o.flds.length fc)∧wr'.cell? ⟨w.heap.size+1,1,none⟩=some (.slice (some ⟨g,off,none⟩) C.length cc)∧wr'.cell? ⟨w.heap.size+1,3,none⟩=some (.slice oa no oc)∧wr'.cell? ⟨g,off+k*4+2,none⟩=some (.int .i64 xf))) (by kernel_rfl) ?_ (fun hHeld=>?_)
  ·(try dsimp only);exact⟨a0,a1,b1,b3,d2⟩
  try simp only[nA]
  refine tk (i:=0) (oi:=⟨some 7,.fieldAddr 55 (.tmp 2) 0,0,"ref.go:115",#[],none⟩) ?_
  try simp only[nA]
  refine tk (i:=1) (oi:=⟨some 8,.load 3 (.tmp 7),3,"ref.go:115",#[⟨0,.data⟩],none⟩) ?_
  try simp only[nA]
  refine tk (i:=2) (oi:=⟨some 9,.binOp .lss 3 (.tmp 8) (.const (.int .i64 1)) 3,4,"ref.go:115",#[⟨1,.data⟩],none⟩) ?_
  try simp only[nA]
  refine tk (i:=3) (oi:=⟨some 10,.move (.tmp 9),4,"ref.go:115",#[⟨2,.data⟩],none⟩) ?_
  try simp only[nA]
  refine tk (i:=4) (oi:=⟨some 11,.fieldAddr 55 (.tmp 2) 0,0,"ref.go:115",#[⟨3,.guard⟩],some (3,false)⟩) ?_
  try simp only[nA]
  refine tk (i:=5) (oi:=⟨some 12,.load 3 (.tmp 11),3,"ref.go:115",#[⟨4,.data⟩,⟨3,.guard⟩],some (3,false)⟩) ?_
  try simp only[nA]
  refine tk (i:=6) (oi:=⟨some 13,.fieldAddr 27 (.tmp 3) 1,0,"ref.go:115",#[⟨3,.guard⟩],some (3,false)⟩) ?_
  try simp only[nA]
  refine tk (i:=7) (oi:=⟨some 14,.load 23 (.tmp 13),23,"ref.go:115",#[⟨6,.data⟩,⟨3,.guard⟩],some (3,false)⟩) ?_
  try simp only[nA]
  refine tk (i:=8) (oi:=⟨some 15,.call { callee:=.builtin .len,args:=#[.tmp 14],argTypes:=#[23] },3,"ref.go:115",#[⟨7,.data⟩,⟨3,.guard⟩],some (3,false)⟩) ?_
  try simp only[nA]
  refine tk (i:=9) (oi:=⟨some 16,.binOp .geq 3 (.tmp 12) (.tmp 15) 3,4,"ref.go:115",#[⟨5,.data⟩,⟨8,.data⟩,⟨3,.guard⟩],some (3,false)⟩) ?_
  try simp only[nA]
  refine tk (i:=10) (oi:=⟨some 17,.pick (.tmp 10) (.const (.bool true)) (.tmp 16),4,"ref.go:115",#[⟨3,.data⟩,⟨9,.data⟩],none⟩) ?_
  try simp only[nA]
  refine tk (i:=11) (oi:=⟨some 18,.move (.tmp 17),4,"ref.go:115",#[⟨10,.data⟩,⟨3,.chain⟩],none⟩) ?_
  try simp only[nA]
  refine tk (i:=12) (oi:=⟨some 19,.fieldAddr 55 (.tmp 2) 0,0,"ref.go:115",#[⟨11,.guard⟩],some (11,false)⟩) ?_
  try simp only[nA]
  refine tk (i:=13) (oi:=⟨some 20,.load 3 (.tmp 19),3,"ref.go:115",#[⟨12,.data⟩,⟨11,.guard⟩],some (11,false)⟩) ?_
  try simp only[nA]
  refine tk (i:=14) (oi:=⟨some 21,.binOp .gtr 3 (.tmp 20) (.const (.int .i64 1)) 3,4,"ref.go:115",#[⟨13,.data⟩,⟨11,.guard⟩],some (11,false)⟩) ?_
  try simp only[nA]
  refine tk (i:=15) (oi:=⟨some 22,.move (.tmp 21),4,"ref.go:115",#[⟨14,.data⟩,⟨11,.chain⟩,⟨11,.guard⟩],some (11,false)⟩) ?_
  try simp only[nA]
  refine tu (i:=16) (oi:=⟨some 23,.fieldAddr 55 (.tmp 2) 1,0,"ref.go:115",#[⟨15,.guard⟩],some (15,true)⟩) ?_
  try simp only[nA]
  refine tu (i:=17) (oi:=⟨some 24,.load 53 (.tmp 23),53,"ref.go:115",#[⟨16,.data⟩,⟨15,.guard⟩],some (15,true)⟩) ?_
  try simp only[nA]
  refine tu (i:=18) (oi:=⟨some 25,.call { callee:=.builtin .len,args:=#[.tmp 24],argTypes:=#[53] },3,"ref.go:115",#[⟨17,.data⟩,⟨15,.guard⟩],some (15,true)⟩) ?_
  try simp only[nA]
  refine tu (i:=19) (oi:=⟨some 26,.fieldAddr 27 (.tmp 3) 1,0,"ref.go:115",#[⟨15,.guard⟩],some (15,true)⟩) ?_
  try simp only[nA]
  refine tu (i:=20) (oi:=⟨some 27,.load 23 (.tmp 26),23,"ref.go:115",#[⟨19,.data⟩,⟨15,.guard⟩],some (15,true)⟩) ?_
  try simp only[nA]
  refine tu (i:=21) (oi:=⟨some 28,.fieldAddr 55 (.tmp 2) 0,0,"ref.go:115",#[⟨15,.guard⟩],some (15,true)⟩) ?_
  try simp only[nA]
  refine tu (i:=22) (oi:=⟨some 29,.load 3 (.tmp 28),3,"ref.go:115",#[⟨21,.data⟩,⟨15,.guard⟩],some (15,true)⟩) ?_
  try simp only[nA]
  refine tu (i:=23) (oi:=⟨some 30,.indexAddr 23 (.tmp 27) (.tmp 29),0,"ref.go:115",#[⟨20,.data⟩,⟨22,.data⟩,⟨15,.guard⟩],some (15,true)⟩) ?_
  try simp only[nA]
  refine tu (i:=24) (oi:=⟨some 31,.fieldAddr 60 (.tmp 30) 2,0,"ref.go:115",#[⟨23,.data⟩,⟨15,.guard⟩],some (15,true)⟩) ?_
  try simp only[nA]
  refine tu (i:=25) (oi:=⟨some 32,.load 3 (.tmp 31),3,"ref.go:115",#[⟨24,.data⟩,⟨15,.guard⟩],some (15,true)⟩) ?_
  try simp only[nA]
  refine tu (i:=26) (oi:=⟨some 33,.binOp .neq 3 (.tmp 25) (.tmp 32) 3,4,"ref.go:115",#[⟨18,.data⟩,⟨25,.data⟩,⟨15,.guard⟩],some (15,true)⟩) ?_
  try simp only[nA]
  refine tk (i:=27) (oi:=⟨some 34,.pick (.tmp 22) (.tmp 33) (.const (.bool false)),4,"ref.go:115",#[⟨15,.data⟩,⟨26,.data⟩,⟨11,.guard⟩],some (11,false)⟩) ?_
  try simp only[nA]
  refine tk (i:=28) (oi:=⟨some 35,.pick (.tmp 18) (.const (.bool true)) (.tmp 34),4,"ref.go:115",#[⟨11,.data⟩,⟨27,.data⟩],none⟩) ?_
  try simp only[nA]
  refine tk (i:=29) (oi:=⟨some 36,.move (.tmp 35),4,"ref.go:115",#[⟨28,.data⟩,⟨15,.chain⟩],none⟩) ?_
  try simp only[nA]
  refine tk (i:=30) (oi:=⟨some 37,.fieldAddr 55 (.tmp 2) 1,0,"ref.go:115",#[⟨29,.guard⟩],some (29,false)⟩) ?_
  try simp only[nA]
  refine tk (i:=31) (oi:=⟨some 38,.load 53 (.tmp 37),53,"ref.go:115",#[⟨30,.data⟩,⟨29,.guard⟩],some (29,false)⟩) ?_
  try simp only[nA]
  refine tk (i:=32) (oi:=⟨some 39,.call { callee:=.builtin .len,args:=#[.tmp 38],argTypes:=#[53] },3,"ref.go:115",#[⟨31,.data⟩,⟨29,.guard⟩],some (29,false)⟩) ?_
  try simp only[nA]
  refine tk (i:=33) (oi:=⟨some 40,.binOp .gtr 3 (.tmp 39) (.const (.int .i64 62)) 3,4,"ref.go:115",#[⟨32,.data⟩,⟨29,.guard⟩],some (29,false)⟩) ?_
  try simp only[nA]
  refine tk (i:=34) (oi:=⟨some 41,.pick (.tmp 36) (.const (.bool true)) (.tmp 40),4,"ref.go:115",#[⟨29,.data⟩,⟨33,.data⟩],none⟩) ?_
  try simp only[nA]
  refine wpAnyH_done (by kernel_rfl) ?_ _
  go_wp2_with fail
  go_meet
  exact⟨by rw[hr.out.symm.trans e.out];rfl,rfl⟩
 ·have dg5:decide ((o.flds.length:Int) > 62)=false:=by simp;omega
  have dg5n:decide (62 < o.flds.length)=false:=by simpa using g5
  have e:=HD (E5.out hh.out (fun h=>by omega) (by omega));clear g1 g2 g5 E3 E4 E5;refine wp_region_held_drew (S:=(fun wr'=>wr'.cell? ⟨w.heap.size,0,none⟩=some (.int .i64 (k:Int))∧wr'.cell? ⟨w.heap.size,1,none⟩=some (.slice fa o.flds.length fc)∧wr'.cell? ⟨w.heap.size+1,1,none⟩=some (.slice (some ⟨g,off,none⟩) C.length cc)∧wr'.cell? ⟨w.heap.size+1,3,none⟩=some (.slice oa no oc)∧wr'.cell? ⟨g,off+k*4+2,none⟩=some (.int .i64 xf))) (by kernel_rfl) ?_ (fun hHeld=>?_)
  ·(try dsimp only);exact⟨a0,a1,b1,b3,d2⟩
  try simp only[nA]
  refine tk (i:=0) (oi:=⟨some 7,.fieldAddr 55 (.tmp 2) 0,0,"ref.go:115",#[],none⟩) ?_
  try simp only[nA]
  refine tk (i:=1) (oi:=⟨some 8,.load 3 (.tmp 7),3,"ref.go:115",#[⟨0,.data⟩],none⟩) ?_
  try simp only[nA]
  refine tk (i:=2) (oi:=⟨some 9,.binOp .lss 3 (.tmp 8) (.const (.int .i64 1)) 3,4,"ref.go:115",#[⟨1,.data⟩],none⟩) ?_
  try simp only[nA]
  refine tk (i:=3) (oi:=⟨some 10,.move (.tmp 9),4,"ref.go:115",#[⟨2,.data⟩],none⟩) ?_
  try simp only[nA]
  refine tk (i:=4) (oi:=⟨some 11,.fieldAddr 55 (.tmp 2) 0,0,"ref.go:115",#[⟨3,.guard⟩],some (3,false)⟩) ?_
  try simp only[nA]
  refine tk (i:=5) (oi:=⟨some 12,.load 3 (.tmp 11),3,"ref.go:115",#[⟨4,.data⟩,⟨3,.guard⟩],some (3,false)⟩) ?_
  try simp only[nA]
  refine tk (i:=6) (oi:=⟨some 13,.fieldAddr 27 (.tmp 3) 1,0,"ref.go:115",#[⟨3,.guard⟩],some (3,false)⟩) ?_
  try simp only[nA]
  refine tk (i:=7) (oi:=⟨some 14,.load 23 (.tmp 13),23,"ref.go:115",#[⟨6,.data⟩,⟨3,.guard⟩],some (3,false)⟩) ?_
  try simp only[nA]
  refine tk (i:=8) (oi:=⟨some 15,.call { callee:=.builtin .len,args:=#[.tmp 14],argTypes:=#[23] },3,"ref.go:115",#[⟨7,.data⟩,⟨3,.guard⟩],some (3,false)⟩) ?_
  try simp only[nA]
  refine tk (i:=9) (oi:=⟨some 16,.binOp .geq 3 (.tmp 12) (.tmp 15) 3,4,"ref.go:115",#[⟨5,.data⟩,⟨8,.data⟩,⟨3,.guard⟩],some (3,false)⟩) ?_
  try simp only[nA]
  refine tk (i:=10) (oi:=⟨some 17,.pick (.tmp 10) (.const (.bool true)) (.tmp 16),4,"ref.go:115",#[⟨3,.data⟩,⟨9,.data⟩],none⟩) ?_
  try simp only[nA]
  refine tk (i:=11) (oi:=⟨some 18,.move (.tmp 17),4,"ref.go:115",#[⟨10,.data⟩,⟨3,.chain⟩],none⟩) ?_
  try simp only[nA]
  refine tk (i:=12) (oi:=⟨some 19,.fieldAddr 55 (.tmp 2) 0,0,"ref.go:115",#[⟨11,.guard⟩],some (11,false)⟩) ?_
  try simp only[nA]
  refine tk (i:=13) (oi:=⟨some 20,.load 3 (.tmp 19),3,"ref.go:115",#[⟨12,.data⟩,⟨11,.guard⟩],some (11,false)⟩) ?_
  try simp only[nA]
  refine tk (i:=14) (oi:=⟨some 21,.binOp .gtr 3 (.tmp 20) (.const (.int .i64 1)) 3,4,"ref.go:115",#[⟨13,.data⟩,⟨11,.guard⟩],some (11,false)⟩) ?_
  try simp only[nA]
  refine tk (i:=15) (oi:=⟨some 22,.move (.tmp 21),4,"ref.go:115",#[⟨14,.data⟩,⟨11,.chain⟩,⟨11,.guard⟩],some (11,false)⟩) ?_
  try simp only[nA]
  refine tu (i:=16) (oi:=⟨some 23,.fieldAddr 55 (.tmp 2) 1,0,"ref.go:115",#[⟨15,.guard⟩],some (15,true)⟩) ?_
  try simp only[nA]
  refine tu (i:=17) (oi:=⟨some 24,.load 53 (.tmp 23),53,"ref.go:115",#[⟨16,.data⟩,⟨15,.guard⟩],some (15,true)⟩) ?_
  try simp only[nA]
  refine tu (i:=18) (oi:=⟨some 25,.call { callee:=.builtin .len,args:=#[.tmp 24],argTypes:=#[53] },3,"ref.go:115",#[⟨17,.data⟩,⟨15,.guard⟩],some (15,true)⟩) ?_
  try simp only[nA]
  refine tu (i:=19) (oi:=⟨some 26,.fieldAddr 27 (.tmp 3) 1,0,"ref.go:115",#[⟨15,.guard⟩],some (15,true)⟩) ?_
  try simp only[nA]
  refine tu (i:=20) (oi:=⟨some 27,.load 23 (.tmp 26),23,"ref.go:115",#[⟨19,.data⟩,⟨15,.guard⟩],some (15,true)⟩) ?_
  try simp only[nA]
  refine tu (i:=21) (oi:=⟨some 28,.fieldAddr 55 (.tmp 2) 0,0,"ref.go:115",#[⟨15,.guard⟩],some (15,true)⟩) ?_
  try simp only[nA]
  refine tu (i:=22) (oi:=⟨some 29,.load 3 (.tmp 28),3,"ref.go:115",#[⟨21,.data⟩,⟨15,.guard⟩],some (15,true)⟩) ?_
  try simp only[nA]
  refine tu (i:=23) (oi:=⟨some 30,.indexAddr 23 (.tmp 27) (.tmp 29),0,"ref.go:115",#[⟨20,.data⟩,⟨22,.data⟩,⟨15,.guard⟩],some (15,true)⟩) ?_
  try simp only[nA]
  refine tu (i:=24) (oi:=⟨some 31,.fieldAddr 60 (.tmp 30) 2,0,"ref.go:115",#[⟨23,.data⟩,⟨15,.guard⟩],some (15,true)⟩) ?_
  try simp only[nA]
  refine tu (i:=25) (oi:=⟨some 32,.load 3 (.tmp 31),3,"ref.go:115",#[⟨24,.data⟩,⟨15,.guard⟩],some (15,true)⟩) ?_
  try simp only[nA]
  refine tu (i:=26) (oi:=⟨some 33,.binOp .neq 3 (.tmp 25) (.tmp 32) 3,4,"ref.go:115",#[⟨18,.data⟩,⟨25,.data⟩,⟨15,.guard⟩],some (15,true)⟩) ?_
  try simp only[nA]
  refine tk (i:=27) (oi:=⟨some 34,.pick (.tmp 22) (.tmp 33) (.const (.bool false)),4,"ref.go:115",#[⟨15,.data⟩,⟨26,.data⟩,⟨11,.guard⟩],some (11,false)⟩) ?_
  try simp only[nA]
  refine tk (i:=28) (oi:=⟨some 35,.pick (.tmp 18) (.const (.bool true)) (.tmp 34),4,"ref.go:115",#[⟨11,.data⟩,⟨27,.data⟩],none⟩) ?_
  try simp only[nA]
  refine tk (i:=29) (oi:=⟨some 36,.move (.tmp 35),4,"ref.go:115",#[⟨28,.data⟩,⟨15,.chain⟩],none⟩) ?_
  try simp only[nA]
  refine tk (i:=30) (oi:=⟨some 37,.fieldAddr 55 (.tmp 2) 1,0,"ref.go:115",#[⟨29,.guard⟩],some (29,false)⟩) ?_
  try simp only[nA]
  refine tk (i:=31) (oi:=⟨some 38,.load 53 (.tmp 37),53,"ref.go:115",#[⟨30,.data⟩,⟨29,.guard⟩],some (29,false)⟩) ?_
  try simp only[nA]
  refine tk (i:=32) (oi:=⟨some 39,.call { callee:=.builtin .len,args:=#[.tmp 38],argTypes:=#[53] },3,"ref.go:115",#[⟨31,.data⟩,⟨29,.guard⟩],some (29,false)⟩) ?_
  try simp only[nA]
  refine tk (i:=33) (oi:=⟨some 40,.binOp .gtr 3 (.tmp 39) (.const (.int .i64 62)) 3,4,"ref.go:115",#[⟨32,.data⟩,⟨29,.guard⟩],some (29,false)⟩) ?_
  try simp only[nA]
  refine tk (i:=34) (oi:=⟨some 41,.pick (.tmp 36) (.const (.bool true)) (.tmp 40),4,"ref.go:115",#[⟨29,.data⟩,⟨33,.data⟩],none⟩) ?_
  try simp only[nA]
  refine wpAnyH_done (by kernel_rfl) ?_ _
  go_wp2_with fail
  go_meet
  exact⟨by rw[hr.out.symm.trans e.out];rfl,rfl⟩
def bindIn (B:List (Int × Int)) (sel:Int):Option Int:=(B.find? (fun x=>x.1 == sel)).map (·.2)
def bindsAt (C:List ClassA) (c:Int):List (Int × Int):=match C[c.toNat]? with
 | some x=>x.binds
 | none=>[]
def findIn (C:List ClassA) (sel:Int):List Int→Int
 | []=>-1
 | c :: r=>match bindIn (bindsAt C c) sel with
  | some m=>m
  | none=>findIn C sel r
structure BdN (B:List (Int × Int)) (sel:Int) (k:Nat):Prop where
 mk ::
 all:bindIn B sel=bindIn (B.drop k) sel
theorem BdN.start (B:List (Int × Int)) (sel:Int):BdN B sel 0:=⟨rfl⟩
theorem BdN.step {B:List (Int × Int)} {sel:Int} {k:Nat} {x:Int × Int} (h:BdN B sel k) (hx:B[k]?=some x) (e:¬ x.1=sel):BdN B sel (k+1):=by
 refine⟨h.all.trans ?_⟩;unfold bindIn;rw[drop_next hx,List.find?_cons_of_neg (by simpa using e)]
theorem BdN.last {B:List (Int × Int)} {sel:Int} (h:BdN B sel B.length):bindIn B sel=none:=by
 refine h.all.trans ?_;rw[List.drop_length];rfl
structure FnR (C:List ClassA) (R:List Int) (sel:Int) (k:Nat):Prop where
 mk ::
 all:findIn C sel R=findIn C sel (R.drop k)
theorem FnR.start (C:List ClassA) (R:List Int) (sel:Int):FnR C R sel 0:=⟨rfl⟩
theorem FnR.step {C:List ClassA} {R:List Int} {sel c:Int} {k:Nat} (h:FnR C R sel k) (hx:R[k]?=some c) (e:bindIn (bindsAt C c) sel=none):FnR C R sel (k+1):=by
 refine⟨h.all.trans ?_⟩;rw[drop_next hx,findIn,e]
theorem FnR.last {C:List ClassA} {R:List Int} {sel:Int} (h:FnR C R sel R.length):findIn C sel R=-1:=by
 refine h.all.trans ?_;rw[List.drop_length];rfl
end Wd
end Go.Proofs.YtgfnelhbdhbklaaGreat
namespace Go.Proofs.YtgfnelhbdhbklaaGreat
open Go.RowKit
namespace Wd
def wd (n:Int):Int:=if n=0 then 4 else if n=1 then 8 else if n=2 then 16 else if n=3 then 32 else if n=4 then 64 else 0
def fo (n:Int):Int:=if n < 0 then -1 else if n≤2 then 0 else if n≤6 then 1 else if n≤14 then 2 else if n≤30 then 3 else if n≤62 then 4 else -1
theorem wd_bd (n:Int):0≤wd n∧wd n≤64:=by unfold wd;repeat' split <;> omega
end Wd
end Go.Proofs.YtgfnelhbdhbklaaGreat
namespace Go.Proofs.YtgfnelhbdhbklaaGreat
open Go.RowKit
set_option linter.unusedVariables false
set_option maxRecDepth 20000
namespace Wd
def wordsB (O:List ObjA):Int:=(O.map (fun o=>wd (fo (o.flds.length:Int)))).sum
theorem ObV.form {w:World} {v:Value} {L:List ObjA} (h:ObV w v L):∃ ad cap,v=.slice ad L.length cap∧L.length≤cap∧cap≤maxLen:=by
 obtain⟨ad,cap,e,h1,h2,_⟩:=h.ex;exact⟨ad,cap,e,h1,h2⟩
theorem ObV.at {w:World} {ad:Option Addr} {n cap:Nat} {L:List ObjA} (h:ObV w (.slice ad n cap) L) {k:Nat} {x:ObjA} (hx:L[k]?=some x):In64 x.cls∧∃ g off fv,ad=some ⟨g,off,none⟩∧w.cell? ⟨g,off+k*2,none⟩=some (.int .i64 x.cls)∧w.cell? ⟨g,off+k*2+1,none⟩=some fv∧PrV w fv x.flds:=by
 obtain⟨ad',cap',e,_,_,h3⟩:=h.ex;cases e;exact h3 k x hx
structure WdR (O:List ObjA) (k:Nat) (s:Int):Prop where
 mk ::
 eq:s=wordsB (O.take k)
 lo:0≤s
 hi:s≤64*(k:Int)
theorem WdR.start (O:List ObjA):WdR O 0 0:=⟨rfl,by omega,by omega⟩
theorem WdR.step {O:List ObjA} {k:Nat} {s:Int} {x:ObjA} (h:WdR O k s) (hx:O[k]?=some x):WdR O (k+1) (s+wd (fo (x.flds.length:Int))):=by
 have b:=wd_bd (fo (x.flds.length:Int));refine⟨?_,by have:=h.lo;omega,by have:=h.hi;push_cast;omega⟩;rw[take_next hx,h.eq];unfold wordsB;simp
theorem WdR.last {O:List ObjA} {s:Int} (h:WdR O O.length s):s=wordsB O:=by
 have:=h.eq
 rwa [List.take_length] at this
structure EqR {T:Type} (A B:List T) (k:Nat):Prop where
 mk ::
 eq:A.take k=B.take k
theorem EqR.start {T:Type} (A B:List T):EqR A B 0:=⟨by simp⟩
theorem EqR.step {T:Type} {A B:List T} {k:Nat} {x y:T} (h:EqR A B k) (hx:A[k]?=some x) (hy:B[k]?=some y) (e:x=y):EqR A B (k+1):=by
 refine⟨?_⟩;rw[take_next hx,take_next hy,h.eq,e]
theorem EqR.last {T:Type} [DecidableEq T] {A B:List T} {n:Nat} (h:EqR A B n) (ha:n=A.length) (hb:n=B.length):decide (A=B)=true:=by
 have:=h.eq;rw[ha,List.take_length,← ha,hb,List.take_length] at this;exact decide_eq_true this
theorem eq_not {T:Type} [DecidableEq T] {A B:List T} {k:Nat} {x y:T} (hx:A[k]?=some x) (hy:B[k]?=some y) (e:¬ x=y):decide (A=B)=false:=by
 refine decide_eq_false (fun h=>e ?_);subst h;rw[hx] at hy;exact Option.some.inj hy
theorem eq_len {T:Type} [DecidableEq T] {A B:List T} (e:¬ A.length=B.length):decide (A=B)=false:=decide_eq_false (fun h=>e (by rw[h]))
set_option maxHeartbeats 8000000 in
theorem rvals_c {w:World} {a b:Value} {A B:List (Int × Int)} (ha:PrV w a A) (hb:PrV w b B) :
  Calls Tryz.prog 43 #[a,b] w fun e w'=>e=.returned (.bool (decide (A=B)))∧Below w.heap.size w w':=by
 obtain⟨aa,ac,rfl,ha1,ha2⟩:=ha.form;obtain⟨ba,bc,rfl,hb1,hb2⟩:=hb.form;have hle:=len_le (Nat.le_trans ha1 ha2);by_cases hl:A.length=B.length
 ·have hl':((A.length:Int) != (B.length:Int))=false:=by simp[hl]
  obtain⟨n,hn⟩:∃ n,n=A.length:=⟨_,rfl⟩
  obtain⟨m,hm⟩:∃ m,m=B.length:=⟨_,rfl⟩
  have hn':=HD hn;have hm':=HD hm;have hnm:=HD (show n=m by omega);rw[← hn] at ha hle hl' ⊢;rw[← hm] at hb hl' ⊢;replace ha:=HD ha;replace hb:=HD hb;have hst:=HD (EqR.start A B);clear hl hn hm ha1 ha2 hb1 hb2;go_enter Tryz.func43,Tryz.ntmps43
  go_wp2
  go_loopw [13] (fun i wr=>∃ (k:Nat),k≤n∧i=.int .i64 k∧Hid (EqR A B k)∧Hid (Below w.heap.size w wr)) (fun i _=>n - (intOf i).toNat)
  case atStart=>exact⟨0,by omega,rfl,hst,HD (Below.refl _ _)⟩
  case round =>
   obtain⟨k,hk,rfl,hE,hB⟩:=hrel;by_cases hlt:k < n
   ·have hlt':decide ((k:Int) < (n:Int))=true:=by simp;omega
    have p0:(0:Int)≤(k:Int):=by omega
    have p1:(k:Int) < (n:Int):=by omega
    have p2:(k:Int) < (m:Int):=by have:=hnm.out;omega
    obtain⟨⟨x1,x2⟩,hx⟩:∃ x,A[k]?=some x:=⟨A[k]'(by have:=hn'.out;omega),by simp⟩
    obtain⟨⟨y1,y2⟩,hy⟩:∃ x,B[k]?=some x:=⟨B[k]'(by have:=hm'.out;omega),by simp⟩
    obtain⟨_,_,g,off,rfl,c0,c1⟩:=PrV.at (ha.out.up hB.out) hx;obtain⟨_,_,h,off2,rfl,d0,d1⟩:=PrV.at (hb.out.up hB.out) hy;simp only at c0 c1 d0 d1;have hxH:=HD hx;have hyH:=HD hy;have hB':=HD (hB.out.trans (((Below.refl wr.heap.size wr).drew).mono hB.out.size));clear hx hy hst hlt;by_cases e1:x1=y1
    ·by_cases e2:x2=y2
     ·have f1:(x1 == y1)=true:=by simpa using e1
      have f2:(x2 == y2)=true:=by simpa using e2
      have hE':=HD (hE.out.step hxH.out hyH.out (by rw[e1,e2]));clear e1 e2
      go_upto_region 6 with fail
      refine wp_region_still_lit (by kernel_rfl) (by kernel_rfl) ?_
      iterate 9 still_step
      refine wpStill_nil ?_;change Exit.then _ _ Exit.normal _ wr.drew
      go_wp2_with fail
      go_roundw
      case rel=>exact⟨k+1,by omega,by go_num,hE',hB'⟩
      case measure=>simp[intOf];omega
     ·have f1:(x1 == y1)=true:=by simpa using e1
      have f2:(x2 == y2)=false:=by simpa using e2
      have e:=HD (eq_not hxH.out hyH.out (fun h=>e2 (congrArg Prod.snd h)));clear e1 e2
      go_upto_region 6 with fail
      refine wp_region_still_lit (by kernel_rfl) (by kernel_rfl) ?_
      iterate 9 still_step
      refine wpStill_nil ?_;change Exit.then _ _ Exit.normal _ wr.drew
      go_wp2_with fail
      go_ret;exact⟨congrArg (fun b=>Ending.returned (Value.bool b)) e.out.symm,hB'.out⟩
    ·have f1:(x1 == y1)=false:=by simpa using e1
     have e:=HD (eq_not hxH.out hyH.out (fun h=>e1 (congrArg Prod.fst h)));clear e1
     go_upto_region 6 with fail
     refine wp_region_still_lit (by kernel_rfl) (by kernel_rfl) ?_
     iterate 9 still_step
     refine wpStill_nil ?_;change Exit.then _ _ Exit.normal _ wr.drew
     go_wp2_with fail
     go_ret;exact⟨congrArg (fun b=>Ending.returned (Value.bool b)) e.out.symm,hB'.out⟩
   ·have e:=HD (EqR.last (A:=A) (B:=B) (n:=n) (by have:=hE.out;rw[show k=n by omega] at this;exact this) hn'.out (by rw[hnm.out];exact hm'.out));have hlt':decide ((k:Int) < (n:Int))=false:=by simp;omega
    go_wp2
    go_ret;exact⟨congrArg (fun b=>Ending.returned (Value.bool b)) e.out.symm,hB.out⟩
 ·have hl':((A.length:Int) != (B.length:Int))=true:=by simp;omega
  have e:=HD (eq_len hl);clear hl;go_enter Tryz.func43,Tryz.ntmps43
  go_wp2
  go_ret;exact⟨congrArg (fun b=>Ending.returned (Value.bool b)) e.out.symm,Below.refl _ _⟩
set_option maxHeartbeats 8000000 in
theorem rbinds_c {w:World} {a b:Value} {A B:List (Int × Int)} (ha:PrV w a A) (hb:PrV w b B) :
  Calls Tryz.prog 41 #[a,b] w fun e w'=>e=.returned (.bool (decide (A=B)))∧Below w.heap.size w w':=by
 obtain⟨aa,ac,rfl,ha1,ha2⟩:=ha.form;obtain⟨ba,bc,rfl,hb1,hb2⟩:=hb.form;have hle:=len_le (Nat.le_trans ha1 ha2);by_cases hl:A.length=B.length
 ·have hl':((A.length:Int) != (B.length:Int))=false:=by simp[hl]
  obtain⟨n,hn⟩:∃ n,n=A.length:=⟨_,rfl⟩
  obtain⟨m,hm⟩:∃ m,m=B.length:=⟨_,rfl⟩
  have hn':=HD hn;have hm':=HD hm;have hnm:=HD (show n=m by omega);rw[← hn] at ha hle hl' ⊢;rw[← hm] at hb hl' ⊢;replace ha:=HD ha;replace hb:=HD hb;have hst:=HD (EqR.start A B);clear hl hn hm ha1 ha2 hb1 hb2;go_enter Tryz.func41,Tryz.ntmps41
  go_wp2
  go_loopw [13] (fun i wr=>∃ (k:Nat),k≤n∧i=.int .i64 k∧Hid (EqR A B k)∧Hid (Below w.heap.size w wr)) (fun i _=>n - (intOf i).toNat)
  case atStart=>exact⟨0,by omega,rfl,hst,HD (Below.refl _ _)⟩
  case round =>
   obtain⟨k,hk,rfl,hE,hB⟩:=hrel;by_cases hlt:k < n
   ·have hlt':decide ((k:Int) < (n:Int))=true:=by simp;omega
    have p0:(0:Int)≤(k:Int):=by omega
    have p1:(k:Int) < (n:Int):=by omega
    have p2:(k:Int) < (m:Int):=by have:=hnm.out;omega
    obtain⟨⟨x1,x2⟩,hx⟩:∃ x,A[k]?=some x:=⟨A[k]'(by have:=hn'.out;omega),by simp⟩
    obtain⟨⟨y1,y2⟩,hy⟩:∃ x,B[k]?=some x:=⟨B[k]'(by have:=hm'.out;omega),by simp⟩
    obtain⟨_,_,g,off,rfl,c0,c1⟩:=PrV.at (ha.out.up hB.out) hx;obtain⟨_,_,h,off2,rfl,d0,d1⟩:=PrV.at (hb.out.up hB.out) hy;simp only at c0 c1 d0 d1;have hxH:=HD hx;have hyH:=HD hy;have hB':=HD (hB.out.trans (((Below.refl wr.heap.size wr).drew).mono hB.out.size));clear hx hy hst hlt;by_cases e1:x1=y1
    ·by_cases e2:x2=y2
     ·have f1:(x1 == y1)=true:=by simpa using e1
      have f2:(x2 == y2)=true:=by simpa using e2
      have hE':=HD (hE.out.step hxH.out hyH.out (by rw[e1,e2]));clear e1 e2
      go_upto_region 6 with fail
      refine wp_region_still_lit (by kernel_rfl) (by kernel_rfl) ?_
      iterate 9 still_step
      refine wpStill_nil ?_;change Exit.then _ _ Exit.normal _ wr.drew
      go_wp2_with fail
      go_roundw
      case rel=>exact⟨k+1,by omega,by go_num,hE',hB'⟩
      case measure=>simp[intOf];omega
     ·have f1:(x1 == y1)=true:=by simpa using e1
      have f2:(x2 == y2)=false:=by simpa using e2
      have e:=HD (eq_not hxH.out hyH.out (fun h=>e2 (congrArg Prod.snd h)));clear e1 e2
      go_upto_region 6 with fail
      refine wp_region_still_lit (by kernel_rfl) (by kernel_rfl) ?_
      iterate 9 still_step
      refine wpStill_nil ?_;change Exit.then _ _ Exit.normal _ wr.drew
      go_wp2_with fail
      go_ret;exact⟨congrArg (fun b=>Ending.returned (Value.bool b)) e.out.symm,hB'.out⟩
    ·have f1:(x1 == y1)=false:=by simpa using e1
     have e:=HD (eq_not hxH.out hyH.out (fun h=>e1 (congrArg Prod.fst h)));clear e1
     go_upto_region 6 with fail
     refine wp_region_still_lit (by kernel_rfl) (by kernel_rfl) ?_
     iterate 9 still_step
     refine wpStill_nil ?_;change Exit.then _ _ Exit.normal _ wr.drew
     go_wp2_with fail
     go_ret;exact⟨congrArg (fun b=>Ending.returned (Value.bool b)) e.out.symm,hB'.out⟩
   ·have e:=HD (EqR.last (A:=A) (B:=B) (n:=n) (by have:=hE.out;rw[show k=n by omega] at this;exact this) hn'.out (by rw[hnm.out];exact hm'.out));have hlt':decide ((k:Int) < (n:Int))=false:=by simp;omega
    go_wp2
    go_ret;exact⟨congrArg (fun b=>Ending.returned (Value.bool b)) e.out.symm,hB.out⟩
 ·have hl':((A.length:Int) != (B.length:Int))=true:=by simp;omega
  have e:=HD (eq_len hl);clear hl;go_enter Tryz.func41,Tryz.ntmps41
  go_wp2
  go_ret;exact⟨congrArg (fun b=>Ending.returned (Value.bool b)) e.out.symm,Below.refl _ _⟩
def byteL (L:List Int):List UInt8:=L.map (fun x=>UInt8.ofNat x.toNat)
def textOf (L:List Int):ByteArray:=⟨(byteL L).toArray⟩
theorem byte_of {x:Int} (h:0≤x∧x≤255):(((UInt8.ofNat x.toNat).toNat:Nat):Int)=x:=by
 have:x.toNat < 256:=by omega
 rw[UInt8.toNat_ofNat_of_lt' (by simpa [UInt8.size] using this)];omega
theorem textOf_inj:∀ {A B:List Int},(∀ x∈A,0≤x∧x≤255)→(∀ x∈B,0≤x∧x≤255)→textOf A=textOf B→A=B:=by
 have key:∀ (A B:List Int),(∀ x∈A,0≤x∧x≤255)→(∀ x∈B,0≤x∧x≤255)→byteL A=byteL B→A=B:=by
  intro A
  induction A with
  | nil =>
   intro B _ _ h;cases B with
   | nil=>rfl
   | cons y B=>simp[byteL] at h
  | cons x A ih =>
   intro B hA hB h;cases B with
   | nil=>simp[byteL] at h
   | cons y B =>
    simp only[byteL,List.map_cons,List.cons.injEq] at h;obtain⟨h1,h2⟩:=h;have e:x=y:=by
     rw[← byte_of (hA x (List.mem_cons_self ..)),← byte_of (hB y (List.mem_cons_self ..)),h1]
    rw[e,ih B (fun z hz=>hA z (List.mem_cons_of_mem _ hz)) (fun z hz=>hB z (List.mem_cons_of_mem _ hz)) h2]
 intro A B hA hB h;refine key A B hA hB ?_;have:(byteL A).toArray=(byteL B).toArray:=congrArg ByteArray.data h;simpa using this
theorem ByV.bd {w:World} {v:Value} {L:List Int} (h:ByV w v L):∀ x∈L,0≤x∧x≤255:=by
 obtain⟨ad,cap,rfl,_⟩:=h.form;intro x hx;obtain⟨k,hk⟩:=List.getElem?_of_mem hx;exact (h.at hk).1
theorem by_text {w:World} {v:Value} {L:List Int} (h:ByV w v L):(convert 36 9 v).run Tryz.prog w=.ok (.string (textOf L)) w:=by
 obtain⟨ad,cap,rfl,_⟩:=h.form;have hlen:L.length=(byteL L).length:=by simp[byteL]
 cases hL:L with
 | nil =>
  rw[run_convert_bytes_string (P:=Tryz.prog) w 36 9 5 ad ([]:List Int).length cap Tryz.underlying36 Tryz.underlying5 Tryz.underlying9];have hl:=run_loadCells_list (P:=Tryz.prog) (w:=w);cases ad with
  | none=>simp[Conv.bytesToString,Sem.run_pure,textOf,byteL] <;> rfl
  | some a =>
   have h0:=hl a [] (fun j v hj=>by simp at hj);simp[Conv.bytesToString,Sem.run_bind,textOf,byteL] at h0 ⊢
   first | done | (rw[h0];rfl) | simp[h0]
 | cons x R =>
  rw[← hL];obtain⟨_,g,off,rfl,_⟩:=h.at (k:=0) (x:=x) (by rw[hL];rfl);rw[hlen];refine run_convert_bytes_back (P:=Tryz.prog) w 36 9 5 ⟨g,off,none⟩ cap (byteL L) Tryz.underlying36 Tryz.underlying5 Tryz.underlying9 (fun j hj=>?_);rw[Addr.add_lit];have hj':j < L.length:=by rw[hlen];exact hj
  obtain⟨b,g',off',e,c0⟩:=h.at (List.getElem?_eq_getElem hj');cases e;rw[c0];simp only[byteL,List.getElem_map];rw[byte_of b]
structure Sm2 (w wr:World) (A B:MethA) (la lb ca cb:Option Addr) (lac lbc cac cbc:Nat):Prop where
 mk ::
 cells:wr.cell? ⟨w.heap.size,0,none⟩=some (.int .i64 A.args)∧wr.cell? ⟨w.heap.size,1,none⟩=some (.int .i64 A.temps)∧wr.cell? ⟨w.heap.size,2,none⟩=some (.slice la A.lits.length lac)∧wr.cell? ⟨w.heap.size,3,none⟩=some (.slice ca A.code.length cac)∧wr.cell? ⟨w.heap.size+1,0,none⟩=some (.int .i64 B.args)∧wr.cell? ⟨w.heap.size+1,1,none⟩=some (.int .i64 B.temps)∧wr.cell? ⟨w.heap.size+1,2,none⟩=some (.slice lb B.lits.length lbc)∧wr.cell? ⟨w.heap.size+1,3,none⟩=some (.slice cb B.code.length cbc)∧ByV wr (.slice ca A.code.length cac) A.code∧ByV wr (.slice cb B.code.length cbc) B.code
 pa:PrV wr (.slice la A.lits.length lac) A.lits
 pb:PrV wr (.slice lb B.lits.length lbc) B.lits
 bel:Below w.heap.size w wr
theorem Sm2.up {w wr w2:World} {A B:MethA} {la lb ca cb:Option Addr} {lac lbc cac cbc:Nat} (h:Sm2 w wr A B la lb ca cb lac lbc cac cbc) (b:Below wr.heap.size wr w2):Sm2 w w2 A B la lb ca cb lac lbc cac cbc:=by
 obtain⟨a0,a1,a2,a3,b0,b1,b2,b3,y0,y1⟩:=h.cells;exact⟨⟨cell_up b a0,cell_up b a1,cell_up b a2,cell_up b a3,cell_up b b0,cell_up b b1,cell_up b b2,cell_up b b3,y0.up b,y1.up b⟩,h.pa.up b,h.pb.up b,h.bel.trans (b.mono h.bel.size)⟩
def methEq (A B:MethA):Bool:=decide (A.args=B.args) && (decide (A.temps=B.temps) && (decide (A.lits=B.lits) && decide (A.code=B.code)))
theorem meq1 {A B:MethA} (h:¬ A.args=B.args):methEq A B=false:=by unfold methEq;rw[decide_eq_false h];rfl
theorem meq2 {A B:MethA} (h:¬ A.temps=B.temps):methEq A B=false:=by unfold methEq;rw[decide_eq_false h,Bool.false_and,Bool.and_false]
theorem meq3 {A B:MethA} (h:¬ A.lits=B.lits):methEq A B=false:=by unfold methEq;rw[decide_eq_false h,Bool.false_and,Bool.and_false,Bool.and_false]
theorem meq4 {A B:MethA} (h:¬ A.code=B.code):methEq A B=false:=by unfold methEq;rw[decide_eq_false h,Bool.and_false,Bool.and_false,Bool.and_false]
theorem meq5 {A B:MethA} (h1:A.args=B.args) (h2:A.temps=B.temps) (h3:A.lits=B.lits) (h4:A.code=B.code):methEq A B=true:=by unfold methEq;rw[decide_eq_true h1,decide_eq_true h2,decide_eq_true h3,decide_eq_true h4];rfl
set_option maxHeartbeats 16000000 in
theorem rsamem_c {w:World} {a b:Value} {A B:MethA} (ha:MeV w a A) (hb:MeV w b B) :
  Calls Tryz.prog 42 #[a,b] w fun e w'=>e=.returned (.bool (methEq A B))∧Below w.heap.size w w':=by
 obtain⟨la,lac,ca,cac,rfl,hla,hca⟩:=ha.ex;obtain⟨lb,lbc,cb,cbc,rfl,hlb,hcb⟩:=hb.ex;have hw1:=(Below.refl w.heap.size w).alloc (Nat.le_refl _) (.cells #[.int .i64 A.args,.int .i64 A.temps,.slice la A.lits.length lac,.slice ca A.code.length cac] 63);have hw2:=hw1.alloc (by simp only[World.size_alloc];omega) (.cells #[.int .i64 B.args,.int .i64 B.temps,.slice lb B.lits.length lbc,.slice cb B.code.length cbc] 63);have i1:(w.alloc (.cells #[.int .i64 A.args,.int .i64 A.temps,.slice la A.lits.length lac,.slice ca A.code.length cac] 63)).heap.size=w.heap.size+1:=by simp
 have hS:Hid (Sm2 w ((w.alloc (.cells #[.int .i64 A.args,.int .i64 A.temps,.slice la A.lits.length lac,.slice ca A.code.length cac] 63)).alloc (.cells #[.int .i64 B.args,.int .i64 B.temps,.slice lb B.lits.length lbc,.slice cb B.code.length cbc] 63)) A B la lb ca cb lac lbc cac cbc):=HD ⟨⟨(World.cell?_alloc_old _ _ _ (by simp)).trans (by simp),(World.cell?_alloc_old _ _ _ (by simp)).trans (by simp),(World.cell?_alloc_old _ _ _ (by simp)).trans (by simp),(World.cell?_alloc_old _ _ _ (by simp)).trans (by simp),by rw[← i1];simp,by rw[← i1];simp,by rw[← i1];simp,by rw[← i1];simp,hca.up hw2,hcb.up hw2⟩,hla.up hw2,hlb.up hw2,hw2⟩;have PV:=HD (fun (w':World) (h1:PrV w' (.slice la A.lits.length lac) A.lits) (h2:PrV w' (.slice lb B.lits.length lbc) B.lits)=>rvals_c h1 h2);have hcd:=HD (fun h=>textOf_inj (A:=A.code) (B:=B.code) hca.bd hcb.bd h);clear ha hb hla hca hlb hcb hw1 hw2 i1;go_enter Tryz.func42,Tryz.ntmps42
 go_upto_region 1 with fail
 generalize ((w.alloc (.cells #[.int .i64 A.args,.int .i64 A.temps,.slice la A.lits.length lac,.slice ca A.code.length cac] 63)).alloc (.cells #[.int .i64 B.args,.int .i64 B.temps,.slice lb B.lits.length lbc,.slice cb B.code.length cbc] 63))=W at *;by_cases g1:¬ A.args=B.args
 ·have d1:(A.args == B.args)=false:=by simpa using g1
  have e:=HD (meq1 g1);clear g1 PV hcd;obtain⟨a0,a1,a2,a3,b0,b1,b2,b3,y0,y1⟩:=hS.out.cells
  go_wp2
  go_ret;exact⟨congrArg (fun b=>Ending.returned (Value.bool b)) e.out.symm,hS.out.bel⟩
 replace g1:A.args=B.args:=Decidable.not_not.1 g1;have d1:(A.args == B.args)=true:=by simpa using g1
 by_cases g2:¬ A.temps=B.temps
 ·have d2:(A.temps == B.temps)=false:=by simpa using g2
  have e:=HD (meq2 g2);clear g1 g2 PV hcd;obtain⟨a0,a1,a2,a3,b0,b1,b2,b3,y0,y1⟩:=hS.out.cells
  go_wp2
  go_ret;exact⟨congrArg (fun b=>Ending.returned (Value.bool b)) e.out.symm,hS.out.bel⟩
 replace g2:A.temps=B.temps:=Decidable.not_not.1 g2;have d2:(A.temps == B.temps)=true:=by simpa using g2
 by_cases g3:¬ A.lits=B.lits
 ·rw[decide_eq_false g3] at PV;have e:=HD (meq3 g3);clear g1 g2 g3 hcd;obtain⟨a0,a1,a2,a3,b0,b1,b2,b3,y0,y1⟩:=hS.out.cells
  go_wp2_with (first | (go_at_call 43;((with_reducible refine (PV.out _ hS.out.pa hS.out.pb).mono ?_);rintro e1 z1 ⟨rfl,hb⟩;replace hS:=HD (hS.out.up hb);clear hb a0 a1 a2 a3 b0 b1 b2 b3 y0 y1;obtain⟨a0,a1,a2,a3,b0,b1,b2,b3,y0,y1⟩:=hS.out.cells;have hcv1:=by_text y0;have hcv2:=by_text y1;go_wp2_with fail)))
  go_ret;exact⟨congrArg (fun b=>Ending.returned (Value.bool b)) e.out.symm,hS.out.bel⟩
 replace g3:A.lits=B.lits:=Decidable.not_not.1 g3;rw[decide_eq_true g3] at PV;by_cases g4:¬ A.code=B.code
 ·have d4:((textOf A.code).toList == (textOf B.code).toList)=false:=bl_ne (fun h=>g4 (hcd.out h));have e:=HD (meq4 g4);clear g1 g2 g3 g4 hcd;obtain⟨a0,a1,a2,a3,b0,b1,b2,b3,y0,y1⟩:=hS.out.cells
  go_wp2_with (first | (go_at_call 43;((with_reducible refine (PV.out _ hS.out.pa hS.out.pb).mono ?_);rintro e1 z1 ⟨rfl,hb⟩;replace hS:=HD (hS.out.up hb);clear hb a0 a1 a2 a3 b0 b1 b2 b3 y0 y1;obtain⟨a0,a1,a2,a3,b0,b1,b2,b3,y0,y1⟩:=hS.out.cells;have hcv1:=by_text y0;have hcv2:=by_text y1;go_wp2_with fail)))
  go_ret;exact⟨congrArg (fun b=>Ending.returned (Value.bool b)) e.out.symm,hS.out.bel⟩
 replace g4:A.code=B.code:=Decidable.not_not.1 g4;have d4:((textOf A.code).toList == (textOf B.code).toList)=true:=bl_eq (by rw[g4]);have e:=HD (meq5 g1 g2 g3 g4);clear g1 g2 g3 g4 hcd;obtain⟨a0,a1,a2,a3,b0,b1,b2,b3,y0,y1⟩:=hS.out.cells
 go_wp2_with (first | (go_at_call 43;((with_reducible refine (PV.out _ hS.out.pa hS.out.pb).mono ?_);rintro e1 z1 ⟨rfl,hb⟩;replace hS:=HD (hS.out.up hb);clear hb a0 a1 a2 a3 b0 b1 b2 b3 y0 y1;obtain⟨a0,a1,a2,a3,b0,b1,b2,b3,y0,y1⟩:=hS.out.cells;have hcv1:=by_text y0;have hcv2:=by_text y1;go_wp2_with fail)))
 go_ret;exact⟨congrArg (fun b=>Ending.returned (Value.bool b)) e.out.symm,hS.out.bel⟩
instance decClassA:DecidableEq ClassA:=fun a b=>decidable_of_iff (a.nm=b.nm∧a.super=b.super∧a.fields=b.fields∧a.binds=b.binds) (by
 cases a;cases b;simp)
instance decMethA:DecidableEq MethA:=fun a b=>decidable_of_iff (a.args=b.args∧a.temps=b.temps∧a.lits=b.lits∧a.code=b.code) (by
 cases a;cases b;simp)
instance decObjA:DecidableEq ObjA:=fun a b=>decidable_of_iff (a.cls=b.cls∧a.flds=b.flds) (by
 cases a;cases b;simp)
def sameU (U V:UnitA):Bool:=decide (U.names=V.names) && (decide (U.classes=V.classes) && (decide (U.methods=V.methods) && (decide (U.objects=V.objects) && decide (U.main=V.main))))
theorem sameU_iff (U V:UnitA):sameU U V=true↔U=V:=by
 unfold sameU;simp only[Bool.and_eq_true,decide_eq_true_iff];cases U;cases V;simp
theorem sameU_ne {U V:UnitA} (h:¬ U=V):sameU U V=false:=by
 cases e:sameU U V with
 | false=>rfl
 | true=>exact absurd ((sameU_iff U V).1 e) h
theorem sameU_self (U:UnitA):sameU U U=true:=(sameU_iff U U).2 rfl
theorem methEq_iff (A B:MethA):methEq A B=decide (A=B):=by
 unfold methEq;cases A;cases B;simp[Bool.decide_and]
theorem MtV.at {w:World} {ad:Option Addr} {n cap:Nat} {L:List MethA} (h:MtV w (.slice ad n cap) L) {k:Nat} {x:MethA} (hx:L[k]?=some x):∃ g off la lc ca cc,ad=some ⟨g,off,none⟩∧w.cell? ⟨g,off+k*4,none⟩=some (.int .i64 x.args)∧w.cell? ⟨g,off+k*4+1,none⟩=some (.int .i64 x.temps)∧w.cell? ⟨g,off+k*4+2,none⟩=some (.slice la x.lits.length lc)∧w.cell? ⟨g,off+k*4+3,none⟩=some (.slice ca x.code.length cc)∧MeV w (.agg #[.int .i64 x.args,.int .i64 x.temps,.slice la x.lits.length lc,.slice ca x.code.length cc]) x:=by
 obtain⟨ad',cap',e,_,_,h3⟩:=h.ex;cases e;obtain⟨i1,i2,g,off,lv,cv,e,c0,c1,c2,c3,p,q⟩:=h3 k x hx;obtain⟨la,lc,rfl,_,_⟩:=p.form;obtain⟨cb,cc,rfl,_,_⟩:=q.form;exact⟨g,off,la,lc,cb,cc,e,c0,c1,c2,c3,⟨⟨la,lc,cb,cc,rfl,p,q⟩,i1,i2⟩⟩
structure S5 (w wr:World) (U V:UnitA) (na:Option Addr) (nc:Nat) (ca:Option Addr) (cc:Nat) (ma:Option Addr) (mc:Nat) (oa:Option Addr) (oc:Nat) (pa:Option Addr) (pc:Nat) (qa:Option Addr) (qc:Nat) (ra:Option Addr) (rc:Nat) (sa:Option Addr) (sc:Nat) (l1 l2 l3 l4 r1 r2 r3 r4:Nat):Prop where
 mk ::
 cells:wr.cell? ⟨w.heap.size,0,none⟩=some (.slice na l1 nc)∧wr.cell? ⟨w.heap.size,1,none⟩=some (.slice ca l2 cc)∧wr.cell? ⟨w.heap.size,2,none⟩=some (.slice ma l3 mc)∧wr.cell? ⟨w.heap.size,3,none⟩=some (.slice oa l4 oc)∧wr.cell? ⟨w.heap.size,4,none⟩=some (.int .i64 U.main)∧wr.cell? ⟨w.heap.size+1,0,none⟩=some (.slice pa r1 pc)∧wr.cell? ⟨w.heap.size+1,1,none⟩=some (.slice qa r2 qc)∧wr.cell? ⟨w.heap.size+1,2,none⟩=some (.slice ra r3 rc)∧wr.cell? ⟨w.heap.size+1,3,none⟩=some (.slice sa r4 sc)∧wr.cell? ⟨w.heap.size+1,4,none⟩=some (.int .i64 V.main)
 views:NmV wr (.slice na l1 nc) U.names∧ClV wr (.slice ca l2 cc) U.classes∧MtV wr (.slice ma l3 mc) U.methods∧ObV wr (.slice oa l4 oc) U.objects∧NmV wr (.slice pa r1 pc) V.names∧ClV wr (.slice qa r2 qc) V.classes∧MtV wr (.slice ra r3 rc) V.methods∧ObV wr (.slice sa r4 sc) V.objects
 lens:l1=U.names.length∧l2=U.classes.length∧l3=U.methods.length∧l4=U.objects.length∧r1=V.names.length∧r2=V.classes.length∧r3=V.methods.length∧r4=V.objects.length
 les:l1≤maxLen∧l2≤maxLen∧l3≤maxLen∧l4≤maxLen
 caps:l1≤nc∧l2≤cc∧l3≤mc∧l4≤oc∧r1≤pc∧r2≤qc∧r3≤rc∧r4≤sc
 bel:Below w.heap.size w wr
section
variable {w wr w2:World} {U V:UnitA} {na ca ma oa pa qa ra sa:Option Addr} {nc cc mc oc pc qc rc sc l1 l2 l3 l4 r1 r2 r3 r4:Nat}
theorem S5.up (h:S5 w wr U V na nc ca cc ma mc oa oc pa pc qa qc ra rc sa sc l1 l2 l3 l4 r1 r2 r3 r4) (b:Below wr.heap.size wr w2):S5 w w2 U V na nc ca cc ma mc oa oc pa pc qa qc ra rc sa sc l1 l2 l3 l4 r1 r2 r3 r4:=by
 obtain⟨a0,a1,a2,a3,a4,a5,a6,a7,a8,a9⟩:=h.cells;obtain⟨v0,v1,v2,v3,v4,v5,v6,v7⟩:=h.views;exact⟨⟨cell_up b a0,cell_up b a1,cell_up b a2,cell_up b a3,cell_up b a4,cell_up b a5,cell_up b a6,cell_up b a7,cell_up b a8,cell_up b a9⟩,⟨v0.up b,v1.up b,v2.up b,v3.up b,v4.up b,v5.up b,v6.up b,v7.up b⟩,h.lens,h.les,h.caps,h.bel.trans (b.mono h.bel.size)⟩
theorem S5.drew (h:S5 w wr U V na nc ca cc ma mc oa oc pa pc qa qc ra rc sa sc l1 l2 l3 l4 r1 r2 r3 r4):S5 w wr.drew U V na nc ca cc ma mc oa oc pa pc qa qc ra rc sa sc l1 l2 l3 l4 r1 r2 r3 r4:=h.up ((Below.refl _ _).drew)
theorem S5.no1 (h:S5 w wr U V na nc ca cc ma mc oa oc pa pc qa qc ra rc sa sc l1 l2 l3 l4 r1 r2 r3 r4) (e:¬ l1=r1):sameU U V=false:=sameU_ne (fun q=>e (by obtain⟨h1,h2,h3,h4,h5,h6,h7,h8⟩:=h.lens;rw[h1,h5,q]))
theorem S5.no2 (h:S5 w wr U V na nc ca cc ma mc oa oc pa pc qa qc ra rc sa sc l1 l2 l3 l4 r1 r2 r3 r4) (e:¬ l2=r2):sameU U V=false:=sameU_ne (fun q=>e (by obtain⟨h1,h2,h3,h4,h5,h6,h7,h8⟩:=h.lens;rw[h2,h6,q]))
theorem S5.no3 (h:S5 w wr U V na nc ca cc ma mc oa oc pa pc qa qc ra rc sa sc l1 l2 l3 l4 r1 r2 r3 r4) (e:¬ l3=r3):sameU U V=false:=sameU_ne (fun q=>e (by obtain⟨h1,h2,h3,h4,h5,h6,h7,h8⟩:=h.lens;rw[h3,h7,q]))
theorem S5.no4 (h:S5 w wr U V na nc ca cc ma mc oa oc pa pc qa qc ra rc sa sc l1 l2 l3 l4 r1 r2 r3 r4) (e:¬ l4=r4):sameU U V=false:=sameU_ne (fun q=>e (by obtain⟨h1,h2,h3,h4,h5,h6,h7,h8⟩:=h.lens;rw[h4,h8,q]))
end
theorem sameU_no1 {U V:UnitA} {k:Nat} {x y:ByteArray} (hx:U.names[k]?=some x) (hy:V.names[k]?=some y) (e:¬ x=y):sameU U V=false:=sameU_ne (fun q=>e (by subst q;rw[hx] at hy;exact Option.some.inj hy))
theorem sameU_no2 {U V:UnitA} {k:Nat} {x y:ClassA} (hx:U.classes[k]?=some x) (hy:V.classes[k]?=some y) (e:¬ x=y):sameU U V=false:=sameU_ne (fun q=>e (by subst q;rw[hx] at hy;exact Option.some.inj hy))
theorem sameU_no3 {U V:UnitA} {k:Nat} {x y:MethA} (hx:U.methods[k]?=some x) (hy:V.methods[k]?=some y) (e:¬ x=y):sameU U V=false:=sameU_ne (fun q=>e (by subst q;rw[hx] at hy;exact Option.some.inj hy))
theorem sameU_no4 {U V:UnitA} {k:Nat} {x y:ObjA} (hx:U.objects[k]?=some x) (hy:V.objects[k]?=some y) (e:¬ x=y):sameU U V=false:=sameU_ne (fun q=>e (by subst q;rw[hx] at hy;exact Option.some.inj hy))
theorem EqR.all {T:Type} {A B:List T} {n:Nat} (h:EqR A B n) (ha:n=A.length) (hb:n=B.length):A=B:=by
 have:=h.eq
 rwa [ha,List.take_length,← ha,hb,List.take_length] at this
theorem ins_other {m:MethA} {pc op arg:Int} (h:op≠0∧op≠10∧op≠1∧op≠11∧op≠2∧op≠12∧op≠13∧op≠20∧op≠18∧op≠15∧op≠17∧op≠16∧op≠21):insR m pc op arg=decide (op≤21):=by
 unfold insR;rw[if_neg (by omega),if_neg (by omega),if_neg (by omega),if_neg (by omega),if_neg (by omega),if_neg (by omega),if_neg (by omega),if_neg (by omega),if_neg (by omega)]
set_option maxHeartbeats 16000000 in
theorem rinst_c {w:World} {v:Value} {m:MethA} (h:MeV w v m) (pc:Nat) (h128:m.code.length≤128) (hp:pc+2≤m.code.length) (he:pc % 2=0) (ha:0≤m.args∧m.args≤8) (ht:0≤m.temps∧m.temps≤8) :
  Calls Tryz.prog 84 #[v,.int .i64 (pc:Int)] w fun e w'=>e=.returned (.bool (insR m (pc:Int) (byAt m.code pc) (byAt m.code (pc+1))))∧Below w.heap.size w w':=by
 obtain⟨la,lc,ca,cc,rfl,hl,hc⟩:=h.ex;obtain⟨b0,_⟩:=hc.at (byAt_some (C:=m.code) (k:=pc) (by omega));obtain⟨b1,_⟩:=hc.at (byAt_some (C:=m.code) (k:=pc+1) (by omega));have hf:=fet_yes (C:=m.code) (pc:=(pc:Int)) (by omega) (by omega) (by omega);rw[Int.toNat_natCast] at hf;generalize byAt m.code pc=op at *;generalize byAt m.code (pc+1)=arg at *;have wa:IntKind.i64.wrap (m.args+m.temps)=m.args+m.temps:=by rw[IntKind.wrap_i64];omega
 have wp:IntKind.i64.wrap ((pc:Int)+2)=(pc:Int)+2:=by rw[IntKind.wrap_i64];omega
 have w2:IntKind.i64.wrap (2*arg)=2*arg:=by rw[IntKind.wrap_i64];omega
 have w3:IntKind.i64.wrap ((pc:Int)+2+2*arg)=(pc:Int)+2+2*arg:=by rw[IntKind.wrap_i64];omega
 have w4:IntKind.i64.wrap ((pc:Int) - 2*arg)=(pc:Int) - 2*arg:=by rw[IntKind.wrap_i64];omega
 have hB:=HD (MeB.born h);have hW:=HD ((Below.refl w.heap.size w).alloc (Nat.le_refl _) (.cells #[.int .i64 m.args,.int .i64 m.temps,.slice la m.lits.length lc,.slice ca m.code.length cc] 63));have PF:=HD (rfetch_c hB.out.me (pc:Int) ⟨by omega,by omega⟩);rw[hf] at PF;clear hf hl hc h;have a0:=hB.out.c0;have a1:=hB.out.c1;have a2:=hB.out.c2;have a3:=hB.out.c3;go_enter Tryz.func84,Tryz.ntmps84
 go_upto_region 1 with fail
 generalize w.alloc (.cells #[.int .i64 m.args,.int .i64 m.temps,.slice la m.lits.length lc,.slice ca m.code.length cc] 63)=W at *
 go_upto_region 2 with (first | (go_at_call 101;((with_reducible refine PF.out.mono ?_);rintro e1 w1 ⟨rfl,hb⟩)))
 replace hW:=HD (hW.out.trans (hb.mono hW.out.size));replace hB:=HD (hB.out.up hb);clear hb PF a0 a1 a2 a3;have a0:=hB.out.c0;have a1:=hB.out.c1;have a2:=hB.out.c2;have a3:=hB.out.c3;by_cases hop:op=0∨op=10∨op=1∨op=11∨op=2∨op=12∨op=13∨op=20∨op=18∨op=15∨op=17∨op=16∨op=21
 ·rcases hop with rfl | rfl | rfl | rfl | rfl | rfl | rfl | rfl | rfl | rfl | rfl | rfl | rfl
  ·have e:Hid (insR m (pc:Int) 0 arg=decide (arg < m.args+m.temps)):=HD rfl
   go_wp2
   go_ret;exact⟨by rw[e.out];rfl,hW.out⟩
  ·have e:Hid (insR m (pc:Int) 10 arg=decide (arg < m.args+m.temps)):=HD rfl
   go_wp2
   go_ret;exact⟨by rw[e.out];rfl,hW.out⟩
  ·have e:Hid (insR m (pc:Int) 1 arg=decide (arg < 62)):=HD rfl
   go_wp2
   go_ret;exact⟨by rw[e.out];rfl,hW.out⟩
  ·have e:Hid (insR m (pc:Int) 11 arg=decide (arg < 62)):=HD rfl
   go_wp2
   go_ret;exact⟨by rw[e.out];rfl,hW.out⟩
  ·have e:Hid (insR m (pc:Int) 2 arg=hasLit m.lits arg 3):=HD rfl
   go_wp2_with fail
   refine (rlit_c hB.out.me arg 3 b1.1 b1.2).mono ?_;rintro e2 w2' ⟨rfl,hb⟩;replace hW:=HD (hW.out.trans (hb.mono hW.out.size))
   go_wp2
   go_ret;exact⟨by rw[e.out];rfl,hW.out⟩
  ·have e:Hid (insR m (pc:Int) 12 arg=hasLit m.lits arg 5):=HD rfl
   go_wp2_with fail
   refine (rlit_c hB.out.me arg 5 b1.1 b1.2).mono ?_;rintro e2 w2' ⟨rfl,hb⟩;replace hW:=HD (hW.out.trans (hb.mono hW.out.size))
   go_wp2
   go_ret;exact⟨by rw[e.out];rfl,hW.out⟩
  ·have e:Hid (insR m (pc:Int) 13 arg=hasLit m.lits arg 5):=HD rfl
   go_wp2_with fail
   refine (rlit_c hB.out.me arg 5 b1.1 b1.2).mono ?_;rintro e2 w2' ⟨rfl,hb⟩;replace hW:=HD (hW.out.trans (hb.mono hW.out.size))
   go_wp2
   go_ret;exact⟨by rw[e.out];rfl,hW.out⟩
  ·have e:Hid (insR m (pc:Int) 20 arg=(hasLit m.lits arg 6 && decide ((litAt m.lits arg).2 > 1))):=HD rfl;obtain⟨k,rfl⟩:∃ k:Nat,arg=k:=⟨arg.toNat,by omega⟩
   go_wp2_with fail
   refine (rlit_c hB.out.me (k:Int) 6 b1.1 b1.2).mono ?_;rintro e2 w2' ⟨rfl,hb⟩;replace hW:=HD (hW.out.trans (hb.mono hW.out.size));replace hB:=HD (hB.out.up hb);clear hb a0 a1 a2 a3;have a2:=hB.out.c2;cases hh:hasLit m.lits (k:Int) 6 with
   | true =>
    have hk:k < m.lits.length:=by
     unfold hasLit at hh;simp only[Bool.and_eq_true,decide_eq_true_eq] at hh;omega
    have k0:(0:Int)≤(k:Int):=by omega
    have k1:(k:Int) < (m.lits.length:Int):=by omega
    obtain⟨_,_,g,off,rfl,c0,c1⟩:=hB.out.py.1.at (litAt_some hk);rw[hh] at e;clear hh;generalize (litAt m.lits (k:Int)).2=x at *
    go_wp2
    go_ret;exact⟨by rw[e.out];rfl,hW.out⟩
   | false =>
    rw[hh] at e;clear hh
    go_wp2
    go_ret;exact⟨by rw[e.out];rfl,hW.out⟩
  ·have e:Hid (insR m (pc:Int) 18 arg=hasLit m.lits arg 7):=HD rfl
   go_wp2_with fail
   refine (rlit_c hB.out.me arg 7 b1.1 b1.2).mono ?_;rintro e2 w2' ⟨rfl,hb⟩;replace hW:=HD (hW.out.trans (hb.mono hW.out.size))
   go_wp2
   go_ret;exact⟨by rw[e.out];rfl,hW.out⟩
  ·have e:Hid (insR m (pc:Int) 15 arg=decide ((pc:Int)+2+2*arg < (m.code.length:Int))):=HD rfl
   go_wp2
   go_ret;exact⟨by rw[e.out];rfl,hW.out⟩
  ·have e:Hid (insR m (pc:Int) 17 arg=decide ((pc:Int)+2+2*arg < (m.code.length:Int))):=HD rfl
   go_wp2
   go_ret;exact⟨by rw[e.out];rfl,hW.out⟩
  ·have e:Hid (insR m (pc:Int) 16 arg=decide (2*arg≤(pc:Int))):=HD rfl
   go_wp2
   go_ret;exact⟨by rw[e.out];rfl,hW.out⟩
  ·have e:Hid (insR m (pc:Int) 21 arg=decide (arg≤23)):=HD rfl
   go_wp2
   go_ret;exact⟨by rw[e.out];rfl,hW.out⟩
 ·have e:=HD (ins_other (m:=m) (pc:=(pc:Int)) (op:=op) (arg:=arg) (by omega));have f0:(op == 0)=false:=by simp;omega
  have f10:(op == 10)=false:=by simp;omega
  have f1:(op == 1)=false:=by simp;omega
  have f11:(op == 11)=false:=by simp;omega
  have f2:(op == 2)=false:=by simp;omega
  have f12:(op == 12)=false:=by simp;omega
  have f13:(op == 13)=false:=by simp;omega
  have f20:(op == 20)=false:=by simp;omega
  have f18:(op == 18)=false:=by simp;omega
  have f15:(op == 15)=false:=by simp;omega
  have f17:(op == 17)=false:=by simp;omega
  have f16:(op == 16)=false:=by simp;omega
  have f21:(op == 21)=false:=by simp;omega
  clear hop
  go_wp2
  go_ret;exact⟨by rw[e.out];rfl,hW.out⟩
end Wd
end Go.Proofs.YtgfnelhbdhbklaaGreat
