/- Texts joined: USA, USK, OLaw, CA, CC, CB, CE, CF, VD. -/
import Derived.Test.YtgfnelhbdhbklaaGreatJT1
import Derived.Test.YtgfnelhbdhbklaaGreatJT4
import Derived.Test.YtgfnelhbdhbklaaGreatJT5
import Derived.Test.YtgfnelhbdhbklaaGreatJT7
import Derived.Test.YtgfnelhbdhbklaaGreatJT11
import Derived.BigRegion
import Derived.Deep.RegionHeld3
import Derived.Deep.RegionWith
import Derived.Deep.MidRow
import Derived.StillTailTactics
namespace Go.Proofs.YtgfnelhbdhbklaaGreat
open Go.RowKit
set_option linter.unusedVariables false
set_option maxRecDepth 20000
namespace Wd
set_option maxHeartbeats 32000000 in
theorem rsame_c {w:World} {a b:Value} {U V:UnitA} (ha:UnK w a U) (hb:UnK w b V) :
  Calls Tryz.prog 19 #[a,b] w fun e w'=>e=.returned (.bool (sameU U V))∧Below w.heap.size w w':=by
 obtain⟨na,nc,ca,cc,ma,mc,oa,oc,rfl,ha'⟩:=ha.ex;obtain⟨pa,pc,qa,qc,ra,rc,sa,sc,rfl,hb'⟩:=hb.ex;clear ha hb;obtain⟨_,_,e1,k1,m1,-⟩:=ha'.n.ex;cases e1;obtain⟨_,_,e2,k2,m2⟩:=ha'.c.form;cases e2;obtain⟨_,_,e3,k3,m3,-⟩:=ha'.m.ex;cases e3;obtain⟨_,_,e4,k4,m4⟩:=ha'.o.form;cases e4;obtain⟨_,_,e5,k5,m5,-⟩:=hb'.n.ex;cases e5;obtain⟨_,_,e6,k6,m6⟩:=hb'.c.form;cases e6;obtain⟨_,_,e7,k7,m7,-⟩:=hb'.m.ex;cases e7;obtain⟨_,_,e8,k8,m8⟩:=hb'.o.form;cases e8;obtain⟨v1,v2,v3,v4⟩:=ha';obtain⟨v5,v6,v7,v8⟩:=hb';obtain⟨l1,g1⟩:∃ n,n=U.names.length:=⟨_,rfl⟩
 obtain⟨l2,g2⟩:∃ n,n=U.classes.length:=⟨_,rfl⟩
 obtain⟨l3,g3⟩:∃ n,n=U.methods.length:=⟨_,rfl⟩
 obtain⟨l4,g4⟩:∃ n,n=U.objects.length:=⟨_,rfl⟩
 obtain⟨r1,g5⟩:∃ n,n=V.names.length:=⟨_,rfl⟩
 obtain⟨r2,g6⟩:∃ n,n=V.classes.length:=⟨_,rfl⟩
 obtain⟨r3,g7⟩:∃ n,n=V.methods.length:=⟨_,rfl⟩
 obtain⟨r4,g8⟩:∃ n,n=V.objects.length:=⟨_,rfl⟩
 rw[← g1] at k1 v1 ⊢;replace m1:=Nat.le_trans k1 m1;rw[← g2] at k2 v2 ⊢;replace m2:=Nat.le_trans k2 m2;rw[← g3] at k3 v3 ⊢;replace m3:=Nat.le_trans k3 m3;rw[← g4] at k4 v4 ⊢;replace m4:=Nat.le_trans k4 m4;rw[← g5] at k5 v5 ⊢;replace m5:=Nat.le_trans k5 m5;rw[← g6] at k6 v6 ⊢;replace m6:=Nat.le_trans k6 m6;rw[← g7] at k7 v7 ⊢;replace m7:=Nat.le_trans k7 m7;rw[← g8] at k8 v8 ⊢;replace m8:=Nat.le_trans k8 m8;have hw1:=(Below.refl w.heap.size w).alloc (Nat.le_refl _) (.cells #[.slice na l1 nc,.slice ca l2 cc,.slice ma l3 mc,.slice oa l4 oc,.int .i64 U.main] 27);have hw2:=hw1.alloc (by simp only[World.size_alloc];omega) (.cells #[.slice pa r1 pc,.slice qa r2 qc,.slice ra r3 rc,.slice sa r4 sc,.int .i64 V.main] 27);have i1:(w.alloc (.cells #[.slice na l1 nc,.slice ca l2 cc,.slice ma l3 mc,.slice oa l4 oc,.int .i64 U.main] 27)).heap.size=w.heap.size+1:=by simp
 have hS:Hid (S5 w ((w.alloc (.cells #[.slice na l1 nc,.slice ca l2 cc,.slice ma l3 mc,.slice oa l4 oc,.int .i64 U.main] 27)).alloc (.cells #[.slice pa r1 pc,.slice qa r2 qc,.slice ra r3 rc,.slice sa r4 sc,.int .i64 V.main] 27)) U V na nc ca cc ma mc oa oc pa pc qa qc ra rc sa sc l1 l2 l3 l4 r1 r2 r3 r4):=HD ⟨⟨(World.cell?_alloc_old _ _ _ (by simp)).trans (by simp),(World.cell?_alloc_old _ _ _ (by simp)).trans (by simp),(World.cell?_alloc_old _ _ _ (by simp)).trans (by simp),(World.cell?_alloc_old _ _ _ (by simp)).trans (by simp),(World.cell?_alloc_old _ _ _ (by simp)).trans (by simp),by rw[← i1];simp,by rw[← i1];simp,by rw[← i1];simp,by rw[← i1];simp,by rw[← i1];simp⟩,⟨v1.up hw2,v2.up hw2,v3.up hw2,v4.up hw2,v5.up hw2,v6.up hw2,v7.up hw2,v8.up hw2⟩,⟨g1,g2,g3,g4,g5,g6,g7,g8⟩,⟨m1,m2,m3,m4⟩,⟨k1,k2,k3,k4,k5,k6,k7,k8⟩,hw2⟩;have hmx:maxLen≤9223372036854775807:=by decide
 have j1:(l1:Int)≤9223372036854775807:=by omega
 have j2:(l2:Int)≤9223372036854775807:=by omega
 have j3:(l3:Int)≤9223372036854775807:=by omega
 have j4:(l4:Int)≤9223372036854775807:=by omega
 clear hw1 hw2 i1 hmx g1 g2 g3 g4 g5 g6 g7 g8 k1 k2 k3 k4 k5 k6 k7 k8 m1 m2 m3 m4 m5 m6 m7 m8 v1 v2 v3 v4 v5 v6 v7 v8;go_enter Tryz.func19,Tryz.ntmps19
 go_upto_region 1 with fail
 generalize ((w.alloc (.cells #[.slice na l1 nc,.slice ca l2 cc,.slice ma l3 mc,.slice oa l4 oc,.int .i64 U.main] 27)).alloc (.cells #[.slice pa r1 pc,.slice qa r2 qc,.slice ra r3 rc,.slice sa r4 sc,.int .i64 V.main] 27))=W at *;by_cases g1:¬ l1=r1
 ·as_aux_lemma =>
  have d1:((l1:Int) != (r1:Int))=true:=by simp;omega
  have e:=HD (hS.out.no1 g1);clear g1;obtain⟨a0,a1,a2,a3,a4,a5,a6,a7,a8,a9⟩:=hS.out.cells
  go_wp2
  go_ret;exact⟨congrArg (fun b=>Ending.returned (Value.bool b)) e.out.symm,hS.out.bel⟩
 replace g1:l1=r1:=Decidable.not_not.1 g1;subst g1;have d1:((l1:Int) != (l1:Int))=false:=by simp
 by_cases g2:¬ l2=r2
 ·as_aux_lemma =>
  have d2:((l2:Int) != (r2:Int))=true:=by simp;omega
  have e:=HD (hS.out.no2 g2);clear g2;obtain⟨a0,a1,a2,a3,a4,a5,a6,a7,a8,a9⟩:=hS.out.cells
  go_wp2
  go_ret;exact⟨congrArg (fun b=>Ending.returned (Value.bool b)) e.out.symm,hS.out.bel⟩
 replace g2:l2=r2:=Decidable.not_not.1 g2;subst g2;have d2:((l2:Int) != (l2:Int))=false:=by simp
 by_cases g3:¬ l3=r3
 ·as_aux_lemma =>
  have d3:((l3:Int) != (r3:Int))=true:=by simp;omega
  have e:=HD (hS.out.no3 g3);clear g3;obtain⟨a0,a1,a2,a3,a4,a5,a6,a7,a8,a9⟩:=hS.out.cells
  go_wp2
  go_ret;exact⟨congrArg (fun b=>Ending.returned (Value.bool b)) e.out.symm,hS.out.bel⟩
 replace g3:l3=r3:=Decidable.not_not.1 g3;subst g3;have d3:((l3:Int) != (l3:Int))=false:=by simp
 by_cases g4:¬ l4=r4
 ·as_aux_lemma =>
  have d4:((l4:Int) != (r4:Int))=true:=by simp;omega
  have e:=HD (hS.out.no4 g4);clear g4;obtain⟨a0,a1,a2,a3,a4,a5,a6,a7,a8,a9⟩:=hS.out.cells
  go_wp2
  go_ret;exact⟨congrArg (fun b=>Ending.returned (Value.bool b)) e.out.symm,hS.out.bel⟩
 replace g4:l4=r4:=Decidable.not_not.1 g4;subst g4;have d4:((l4:Int) != (l4:Int))=false:=by simp
 by_cases g5:¬ U.main=V.main
 ·as_aux_lemma =>
  have d5:(U.main != V.main)=true:=by simpa using g5
  have e:Hid (sameU U V=false):=HD (sameU_ne (fun q=>g5 (by rw[q])));clear g5;obtain⟨a0,a1,a2,a3,a4,a5,a6,a7,a8,a9⟩:=hS.out.cells
  go_wp2
  go_ret;exact⟨congrArg (fun b=>Ending.returned (Value.bool b)) e.out.symm,hS.out.bel⟩
 replace g5:U.main=V.main:=Decidable.not_not.1 g5;have g5h:=HD g5;have d5:(U.main != V.main)=false:=by simpa using g5
 clear g5;obtain⟨a0,a1,a2,a3,a4,a5,a6,a7,a8,a9⟩:=hS.out.cells;have E1:=HD (EqR.start U.names V.names);have E2:=HD (EqR.start U.classes V.classes);have E3:=HD (EqR.start U.methods V.methods);have E4:=HD (EqR.start U.objects V.objects)
 go_wp2
 clear a0 a1 a2 a3 a4 a5 a6 a7 a8 a9
 go_loopw [55] (fun i wr=>∃ (k:Nat),k≤l1∧i=.int .i64 k∧Hid (EqR U.names V.names k)∧Hid (S5 w wr U V na nc ca cc ma mc oa oc pa pc qa qc ra rc sa sc l1 l2 l3 l4 l1 l2 l3 l4)) (fun i _=>l1 - (intOf i).toNat)
 case atStart=>exact⟨0,by omega,rfl,E1,hS⟩
 case round =>
  clear hS E1;obtain⟨k,hk,rfl,hE,hS⟩:=hrel;by_cases hlt:k < l1
  ·as_aux_lemma =>
   have hlt':decide ((k:Int) < (l1:Int))=true:=by simp;omega
   have p0:(0:Int)≤(k:Int):=by omega
   have p1:(k:Int) < (l1:Int):=by omega
   obtain⟨a0,a1,a2,a3,a4,a5,a6,a7,a8,a9⟩:=hS.out.cells;obtain⟨x,hx⟩:∃ x,U.names[k]?=some x:=⟨U.names[k]'(by obtain⟨h1,h2,h3,h4,h5,h6,h7,h8⟩:=hS.out.lens;omega),by simp⟩
   obtain⟨y,hy⟩:∃ y,V.names[k]?=some y:=⟨V.names[k]'(by obtain⟨h1,h2,h3,h4,h5,h6,h7,h8⟩:=hS.out.lens;omega),by simp⟩
   obtain⟨c1,c2,c3,c4,c5,c6,c7,c8⟩:=hS.out.caps;obtain⟨v1,v2,v3,v4,v5,v6,v7,v8⟩:=hS.out.views;obtain⟨g,off,rfl,d0⟩:=NmV.at v1 hx;obtain⟨g2,off2,rfl,d1⟩:=NmV.at v5 hy;clear v1 v2 v3 v4 v5 v6 v7 v8
   go_upto_region 6 with fail
   by_cases he:x=y
   ·as_aux_lemma =>
    have he':(x.toList == y.toList)=true:=bl_eq he;have hE':=HD (hE.out.step hx hy he);replace hS:=HD hS.out.drew;clear hx hy he;refine wp_region_still_lit (by kernel_rfl) (by kernel_rfl) ?_
    iterate 11 still_step
    refine wpStill_nil ?_;change Exit.then _ _ Exit.normal _ wr.drew;clear a0 a1 a2 a3 a4 a5 a6 a7 a8 a9 d0 d1
    go_wp2
    go_roundw
    case rel=>exact⟨k+1,by omega,by go_num,hE',hS⟩
    case measure=>simp[intOf];omega
   ·as_aux_lemma =>
    have he':(x.toList == y.toList)=false:=bl_ne he;have e:Hid (sameU U V=false):=HD (sameU_no1 hx hy he);replace hS:=HD hS.out.drew;clear hx hy he hE;refine wp_region_still_lit (by kernel_rfl) (by kernel_rfl) ?_
    iterate 11 still_step
    refine wpStill_nil ?_;change Exit.then _ _ Exit.normal _ wr.drew;clear a0 a1 a2 a3 a4 a5 a6 a7 a8 a9 d0 d1
    go_wp2
    go_ret;exact⟨congrArg (fun b=>Ending.returned (Value.bool b)) e.out.symm,hS.out.bel⟩
  ·as_aux_lemma =>
   have hlt':decide ((k:Int) < (l1:Int))=false:=by simp;omega
   have eqF:Hid (U.names=V.names):=HD (hE.out.all (by obtain⟨h1,h2,h3,h4,h5,h6,h7,h8⟩:=hS.out.lens;omega) (by obtain⟨h1,h2,h3,h4,h5,h6,h7,h8⟩:=hS.out.lens;omega));obtain⟨a0,a1,a2,a3,a4,a5,a6,a7,a8,a9⟩:=hS.out.cells;clear hE
   go_wp2
   clear a0 a1 a2 a3 a4 a5 a6 a7 a8 a9;clear hlt hlt' hk;have Q1:=HD eqF.out;clear eqF
   go_loopw [73] (fun i wr=>∃ (k:Nat),k≤l2∧i=.int .i64 k∧Hid (EqR U.classes V.classes k)∧Hid (S5 w wr U V na nc ca cc ma mc oa oc pa pc qa qc ra rc sa sc l1 l2 l3 l4 l1 l2 l3 l4)) (fun i _=>l2 - (intOf i).toNat)
   case atStart=>exact⟨0,by omega,rfl,E2,hS⟩
   case round =>
    clear hS E2;obtain⟨k,hk,rfl,hE,hS⟩:=hrel;by_cases hlt:k < l2
    ·as_aux_lemma =>
     have hlt':decide ((k:Int) < (l2:Int))=true:=by simp;omega
     have p0:(0:Int)≤(k:Int):=by omega
     have p1:(k:Int) < (l2:Int):=by omega
     obtain⟨a0,a1,a2,a3,a4,a5,a6,a7,a8,a9⟩:=hS.out.cells;obtain⟨x,hx⟩:∃ x,U.classes[k]?=some x:=⟨U.classes[k]'(by obtain⟨h1,h2,h3,h4,h5,h6,h7,h8⟩:=hS.out.lens;omega),by simp⟩
     obtain⟨y,hy⟩:∃ y,V.classes[k]?=some y:=⟨V.classes[k]'(by obtain⟨h1,h2,h3,h4,h5,h6,h7,h8⟩:=hS.out.lens;omega),by simp⟩
     obtain⟨c1,c2,c3,c4,c5,c6,c7,c8⟩:=hS.out.caps;obtain⟨v1,v2,v3,v4,v5,v6,v7,v8⟩:=hS.out.views;obtain⟨_,_,g,off,bv,rfl,d0,d1,d2,d3,pb⟩:=ClV.at v2 hx;obtain⟨_,_,g2,off2,bv2,rfl,f0,f1,f2,f3,pb2⟩:=ClV.at v6 hy;obtain⟨ba,bc,rfl,_,_⟩:=pb.form;obtain⟨qb,qbc,rfl,_,_⟩:=pb2.form;clear v1 v2 v3 v4 v5 v6 v7 v8;have b0:=World.block_lt_of_cell? wr _ a1;have b1:=World.block_lt_of_cell? wr _ a6;have b2:=World.block_lt_of_cell? wr _ d0;have b3:=World.block_lt_of_cell? wr _ f0
     go_upto_region 12 with fail
     go_region
     ·as_aux_lemma =>
      have i1:(wr.alloc (.cells #[.string x.nm,.int .i64 x.super,.int .i64 x.fields,.slice ba x.binds.length bc] 60)).heap.size=wr.heap.size+1:=by simp
      have hbb:Below wr.heap.size wr ((wr.alloc (.cells #[.string x.nm,.int .i64 x.super,.int .i64 x.fields,.slice ba x.binds.length bc] 60)).alloc (.cells #[.string y.nm,.int .i64 y.super,.int .i64 y.fields,.slice qb y.binds.length qbc] 60)).drew:=(((Below.refl _ _).alloc (Nat.le_refl _) (.cells #[.string x.nm,.int .i64 x.super,.int .i64 x.fields,.slice ba x.binds.length bc] 60)).alloc (by rw[i1];omega) (.cells #[.string y.nm,.int .i64 y.super,.int .i64 y.fields,.slice qb y.binds.length qbc] 60)).drew;have x0:((wr.alloc (.cells #[.string x.nm,.int .i64 x.super,.int .i64 x.fields,.slice ba x.binds.length bc] 60)).alloc (.cells #[.string y.nm,.int .i64 y.super,.int .i64 y.fields,.slice qb y.binds.length qbc] 60)).drew.cell? ⟨wr.heap.size,0,none⟩=some (.string x.nm):=(World.cell?_alloc_old (wr.alloc (.cells #[.string x.nm,.int .i64 x.super,.int .i64 x.fields,.slice ba x.binds.length bc] 60)) (.cells #[.string y.nm,.int .i64 y.super,.int .i64 y.fields,.slice qb y.binds.length qbc] 60) _ (by simp)).trans (by simp);have x1:((wr.alloc (.cells #[.string x.nm,.int .i64 x.super,.int .i64 x.fields,.slice ba x.binds.length bc] 60)).alloc (.cells #[.string y.nm,.int .i64 y.super,.int .i64 y.fields,.slice qb y.binds.length qbc] 60)).drew.cell? ⟨wr.heap.size,1,none⟩=some (.int .i64 x.super):=(World.cell?_alloc_old (wr.alloc (.cells #[.string x.nm,.int .i64 x.super,.int .i64 x.fields,.slice ba x.binds.length bc] 60)) (.cells #[.string y.nm,.int .i64 y.super,.int .i64 y.fields,.slice qb y.binds.length qbc] 60) _ (by simp)).trans (by simp);have x2:((wr.alloc (.cells #[.string x.nm,.int .i64 x.super,.int .i64 x.fields,.slice ba x.binds.length bc] 60)).alloc (.cells #[.string y.nm,.int .i64 y.super,.int .i64 y.fields,.slice qb y.binds.length qbc] 60)).drew.cell? ⟨wr.heap.size,2,none⟩=some (.int .i64 x.fields):=(World.cell?_alloc_old (wr.alloc (.cells #[.string x.nm,.int .i64 x.super,.int .i64 x.fields,.slice ba x.binds.length bc] 60)) (.cells #[.string y.nm,.int .i64 y.super,.int .i64 y.fields,.slice qb y.binds.length qbc] 60) _ (by simp)).trans (by simp);have x3:((wr.alloc (.cells #[.string x.nm,.int .i64 x.super,.int .i64 x.fields,.slice ba x.binds.length bc] 60)).alloc (.cells #[.string y.nm,.int .i64 y.super,.int .i64 y.fields,.slice qb y.binds.length qbc] 60)).drew.cell? ⟨wr.heap.size,3,none⟩=some (.slice ba x.binds.length bc):=(World.cell?_alloc_old (wr.alloc (.cells #[.string x.nm,.int .i64 x.super,.int .i64 x.fields,.slice ba x.binds.length bc] 60)) (.cells #[.string y.nm,.int .i64 y.super,.int .i64 y.fields,.slice qb y.binds.length qbc] 60) _ (by simp)).trans (by simp);have y0:((wr.alloc (.cells #[.string x.nm,.int .i64 x.super,.int .i64 x.fields,.slice ba x.binds.length bc] 60)).alloc (.cells #[.string y.nm,.int .i64 y.super,.int .i64 y.fields,.slice qb y.binds.length qbc] 60)).drew.cell? ⟨wr.heap.size+1,0,none⟩=some (.string y.nm):=by
       rw[World.cell?_drew,← i1];exact World.cell?_alloc_new _ _ _ 0
      have y1:((wr.alloc (.cells #[.string x.nm,.int .i64 x.super,.int .i64 x.fields,.slice ba x.binds.length bc] 60)).alloc (.cells #[.string y.nm,.int .i64 y.super,.int .i64 y.fields,.slice qb y.binds.length qbc] 60)).drew.cell? ⟨wr.heap.size+1,1,none⟩=some (.int .i64 y.super):=by
       rw[World.cell?_drew,← i1];exact World.cell?_alloc_new _ _ _ 1
      have y2:((wr.alloc (.cells #[.string x.nm,.int .i64 x.super,.int .i64 x.fields,.slice ba x.binds.length bc] 60)).alloc (.cells #[.string y.nm,.int .i64 y.super,.int .i64 y.fields,.slice qb y.binds.length qbc] 60)).drew.cell? ⟨wr.heap.size+1,2,none⟩=some (.int .i64 y.fields):=by
       rw[World.cell?_drew,← i1];exact World.cell?_alloc_new _ _ _ 2
      have y3:((wr.alloc (.cells #[.string x.nm,.int .i64 x.super,.int .i64 x.fields,.slice ba x.binds.length bc] 60)).alloc (.cells #[.string y.nm,.int .i64 y.super,.int .i64 y.fields,.slice qb y.binds.length qbc] 60)).drew.cell? ⟨wr.heap.size+1,3,none⟩=some (.slice qb y.binds.length qbc):=by
       rw[World.cell?_drew,← i1];exact World.cell?_alloc_new _ _ _ 3
      replace hS:=HD (hS.out.up hbb);replace pb:=pb.up hbb;replace pb2:=pb2.up hbb;clear i1 hbb a0 a1 a2 a3 a4 a5 a6 a7 a8 a9 d0 d1 d2 d3 f0 f1 f2 f3 b0 b1 b2 b3 p0 p1 c1 c2 c3 c4 c5 c6 c7 c8;generalize ((wr.alloc (.cells #[.string x.nm,.int .i64 x.super,.int .i64 x.fields,.slice ba x.binds.length bc] 60)).alloc (.cells #[.string y.nm,.int .i64 y.super,.int .i64 y.fields,.slice qb y.binds.length qbc] 60)).drew=W3 at *
      as_aux_lemma =>
      by_cases h0:¬ x.nm=y.nm
      ·as_aux_lemma =>
       have e:Hid (sameU U V=false):=HD (sameU_no2 hx hy (fun q=>h0 (by rw[q])));have t0:(x.nm.toList == y.nm.toList)=false:=bl_ne h0;clear h0 hx hy hE
       go_wp2
       go_ret;exact⟨congrArg (fun b=>Ending.returned (Value.bool b)) e.out.symm,hS.out.bel⟩
      replace h0:x.nm=y.nm:=Decidable.not_not.1 h0;have t0:(x.nm.toList == y.nm.toList)=true:=bl_eq h0;by_cases h1:¬ x.super=y.super
      ·as_aux_lemma =>
       have e:Hid (sameU U V=false):=HD (sameU_no2 hx hy (fun q=>h1 (by rw[q])));have t1:(x.super != y.super)=true:=by simpa using h1
       clear h1 hx hy hE
       go_wp2
       go_ret;exact⟨congrArg (fun b=>Ending.returned (Value.bool b)) e.out.symm,hS.out.bel⟩
      replace h1:x.super=y.super:=Decidable.not_not.1 h1;have t1:(x.super != y.super)=false:=by simpa using h1
      by_cases h2:¬ x.fields=y.fields
      ·as_aux_lemma =>
       have e:Hid (sameU U V=false):=HD (sameU_no2 hx hy (fun q=>h2 (by rw[q])));have t2:(x.fields != y.fields)=true:=by simpa using h2
       clear h2 hx hy hE
       go_wp2
       go_ret;exact⟨congrArg (fun b=>Ending.returned (Value.bool b)) e.out.symm,hS.out.bel⟩
      replace h2:x.fields=y.fields:=Decidable.not_not.1 h2;have t2:(x.fields != y.fields)=false:=by simpa using h2
      have PB:=rbinds_c pb pb2;by_cases h3:¬ x.binds=y.binds
      ·as_aux_lemma =>
       have e:Hid (sameU U V=false):=HD (sameU_no2 hx hy (fun q=>h3 (by rw[q])));rw[decide_eq_false h3] at PB;replace PB:=HD PB;clear h0 h1 h2 h3 hx hy hE pb pb2
       go_wp2_with fail
       refine PB.out.mono ?_;rintro e1 w4 ⟨rfl,hb4⟩;replace hS:=HD (hS.out.up hb4);clear hb4 PB
       go_wp2
       go_ret;exact⟨congrArg (fun b=>Ending.returned (Value.bool b)) e.out.symm,hS.out.bel⟩
      replace h3:x.binds=y.binds:=Decidable.not_not.1 h3;rw[decide_eq_true h3] at PB;replace PB:=HD PB;have hE':=HD (hE.out.step hx hy (by cases x;cases y;simp only at h0 h1 h2 h3;rw[h0,h1,h2,h3]));clear h0 h1 h2 h3 hx hy hE pb pb2
      go_wp2_with fail
      refine PB.out.mono ?_;rintro e1 w4 ⟨rfl,hb4⟩;replace hS:=HD (hS.out.up hb4);clear hb4 PB x0 x1 x2 x3 y0 y1 y2 y3
      go_wp2
      go_roundw
      case rel=>exact⟨k+1,by omega,by go_num,hE',hS⟩
      case measure=>simp[intOf];omega
     ·as_aux_lemma =>
      have i1:(wr.alloc (.cells #[.string y.nm,.int .i64 y.super,.int .i64 y.fields,.slice qb y.binds.length qbc] 60)).heap.size=wr.heap.size+1:=by simp
      have hbb:Below wr.heap.size wr ((wr.alloc (.cells #[.string y.nm,.int .i64 y.super,.int .i64 y.fields,.slice qb y.binds.length qbc] 60)).alloc (.cells #[.string x.nm,.int .i64 x.super,.int .i64 x.fields,.slice ba x.binds.length bc] 60)).drew:=(((Below.refl _ _).alloc (Nat.le_refl _) (.cells #[.string y.nm,.int .i64 y.super,.int .i64 y.fields,.slice qb y.binds.length qbc] 60)).alloc (by rw[i1];omega) (.cells #[.string x.nm,.int .i64 x.super,.int .i64 x.fields,.slice ba x.binds.length bc] 60)).drew;have x0:((wr.alloc (.cells #[.string y.nm,.int .i64 y.super,.int .i64 y.fields,.slice qb y.binds.length qbc] 60)).alloc (.cells #[.string x.nm,.int .i64 x.super,.int .i64 x.fields,.slice ba x.binds.length bc] 60)).drew.cell? ⟨wr.heap.size+1,0,none⟩=some (.string x.nm):=by
       rw[World.cell?_drew,← i1];exact World.cell?_alloc_new _ _ _ 0
      have x1:((wr.alloc (.cells #[.string y.nm,.int .i64 y.super,.int .i64 y.fields,.slice qb y.binds.length qbc] 60)).alloc (.cells #[.string x.nm,.int .i64 x.super,.int .i64 x.fields,.slice ba x.binds.length bc] 60)).drew.cell? ⟨wr.heap.size+1,1,none⟩=some (.int .i64 x.super):=by
       rw[World.cell?_drew,← i1];exact World.cell?_alloc_new _ _ _ 1
      have x2:((wr.alloc (.cells #[.string y.nm,.int .i64 y.super,.int .i64 y.fields,.slice qb y.binds.length qbc] 60)).alloc (.cells #[.string x.nm,.int .i64 x.super,.int .i64 x.fields,.slice ba x.binds.length bc] 60)).drew.cell? ⟨wr.heap.size+1,2,none⟩=some (.int .i64 x.fields):=by
       rw[World.cell?_drew,← i1];exact World.cell?_alloc_new _ _ _ 2
      have x3:((wr.alloc (.cells #[.string y.nm,.int .i64 y.super,.int .i64 y.fields,.slice qb y.binds.length qbc] 60)).alloc (.cells #[.string x.nm,.int .i64 x.super,.int .i64 x.fields,.slice ba x.binds.length bc] 60)).drew.cell? ⟨wr.heap.size+1,3,none⟩=some (.slice ba x.binds.length bc):=by
       rw[World.cell?_drew,← i1];exact World.cell?_alloc_new _ _ _ 3
      have y0:((wr.alloc (.cells #[.string y.nm,.int .i64 y.super,.int .i64 y.fields,.slice qb y.binds.length qbc] 60)).alloc (.cells #[.string x.nm,.int .i64 x.super,.int .i64 x.fields,.slice ba x.binds.length bc] 60)).drew.cell? ⟨wr.heap.size,0,none⟩=some (.string y.nm):=(World.cell?_alloc_old (wr.alloc (.cells #[.string y.nm,.int .i64 y.super,.int .i64 y.fields,.slice qb y.binds.length qbc] 60)) (.cells #[.string x.nm,.int .i64 x.super,.int .i64 x.fields,.slice ba x.binds.length bc] 60) _ (by simp)).trans (by simp);have y1:((wr.alloc (.cells #[.string y.nm,.int .i64 y.super,.int .i64 y.fields,.slice qb y.binds.length qbc] 60)).alloc (.cells #[.string x.nm,.int .i64 x.super,.int .i64 x.fields,.slice ba x.binds.length bc] 60)).drew.cell? ⟨wr.heap.size,1,none⟩=some (.int .i64 y.super):=(World.cell?_alloc_old (wr.alloc (.cells #[.string y.nm,.int .i64 y.super,.int .i64 y.fields,.slice qb y.binds.length qbc] 60)) (.cells #[.string x.nm,.int .i64 x.super,.int .i64 x.fields,.slice ba x.binds.length bc] 60) _ (by simp)).trans (by simp);have y2:((wr.alloc (.cells #[.string y.nm,.int .i64 y.super,.int .i64 y.fields,.slice qb y.binds.length qbc] 60)).alloc (.cells #[.string x.nm,.int .i64 x.super,.int .i64 x.fields,.slice ba x.binds.length bc] 60)).drew.cell? ⟨wr.heap.size,2,none⟩=some (.int .i64 y.fields):=(World.cell?_alloc_old (wr.alloc (.cells #[.string y.nm,.int .i64 y.super,.int .i64 y.fields,.slice qb y.binds.length qbc] 60)) (.cells #[.string x.nm,.int .i64 x.super,.int .i64 x.fields,.slice ba x.binds.length bc] 60) _ (by simp)).trans (by simp);have y3:((wr.alloc (.cells #[.string y.nm,.int .i64 y.super,.int .i64 y.fields,.slice qb y.binds.length qbc] 60)).alloc (.cells #[.string x.nm,.int .i64 x.super,.int .i64 x.fields,.slice ba x.binds.length bc] 60)).drew.cell? ⟨wr.heap.size,3,none⟩=some (.slice qb y.binds.length qbc):=(World.cell?_alloc_old (wr.alloc (.cells #[.string y.nm,.int .i64 y.super,.int .i64 y.fields,.slice qb y.binds.length qbc] 60)) (.cells #[.string x.nm,.int .i64 x.super,.int .i64 x.fields,.slice ba x.binds.length bc] 60) _ (by simp)).trans (by simp);replace hS:=HD (hS.out.up hbb);replace pb:=pb.up hbb;replace pb2:=pb2.up hbb;clear i1 hbb a0 a1 a2 a3 a4 a5 a6 a7 a8 a9 d0 d1 d2 d3 f0 f1 f2 f3 b0 b1 b2 b3 p0 p1 c1 c2 c3 c4 c5 c6 c7 c8;generalize ((wr.alloc (.cells #[.string y.nm,.int .i64 y.super,.int .i64 y.fields,.slice qb y.binds.length qbc] 60)).alloc (.cells #[.string x.nm,.int .i64 x.super,.int .i64 x.fields,.slice ba x.binds.length bc] 60)).drew=W3 at *
      as_aux_lemma =>
      by_cases h0:¬ x.nm=y.nm
      ·as_aux_lemma =>
       have e:Hid (sameU U V=false):=HD (sameU_no2 hx hy (fun q=>h0 (by rw[q])));have t0:(x.nm.toList == y.nm.toList)=false:=bl_ne h0;clear h0 hx hy hE
       go_wp2
       go_ret;exact⟨congrArg (fun b=>Ending.returned (Value.bool b)) e.out.symm,hS.out.bel⟩
      replace h0:x.nm=y.nm:=Decidable.not_not.1 h0;have t0:(x.nm.toList == y.nm.toList)=true:=bl_eq h0;by_cases h1:¬ x.super=y.super
      ·as_aux_lemma =>
       have e:Hid (sameU U V=false):=HD (sameU_no2 hx hy (fun q=>h1 (by rw[q])));have t1:(x.super != y.super)=true:=by simpa using h1
       clear h1 hx hy hE
       go_wp2
       go_ret;exact⟨congrArg (fun b=>Ending.returned (Value.bool b)) e.out.symm,hS.out.bel⟩
      replace h1:x.super=y.super:=Decidable.not_not.1 h1;have t1:(x.super != y.super)=false:=by simpa using h1
      by_cases h2:¬ x.fields=y.fields
      ·as_aux_lemma =>
       have e:Hid (sameU U V=false):=HD (sameU_no2 hx hy (fun q=>h2 (by rw[q])));have t2:(x.fields != y.fields)=true:=by simpa using h2
       clear h2 hx hy hE
       go_wp2
       go_ret;exact⟨congrArg (fun b=>Ending.returned (Value.bool b)) e.out.symm,hS.out.bel⟩
      replace h2:x.fields=y.fields:=Decidable.not_not.1 h2;have t2:(x.fields != y.fields)=false:=by simpa using h2
      have PB:=rbinds_c pb pb2;by_cases h3:¬ x.binds=y.binds
      ·as_aux_lemma =>
       have e:Hid (sameU U V=false):=HD (sameU_no2 hx hy (fun q=>h3 (by rw[q])));rw[decide_eq_false h3] at PB;replace PB:=HD PB;clear h0 h1 h2 h3 hx hy hE pb pb2
       go_wp2_with fail
       refine PB.out.mono ?_;rintro e1 w4 ⟨rfl,hb4⟩;replace hS:=HD (hS.out.up hb4);clear hb4 PB
       go_wp2
       go_ret;exact⟨congrArg (fun b=>Ending.returned (Value.bool b)) e.out.symm,hS.out.bel⟩
      replace h3:x.binds=y.binds:=Decidable.not_not.1 h3;rw[decide_eq_true h3] at PB;replace PB:=HD PB;have hE':=HD (hE.out.step hx hy (by cases x;cases y;simp only at h0 h1 h2 h3;rw[h0,h1,h2,h3]));clear h0 h1 h2 h3 hx hy hE pb pb2
      go_wp2_with fail
      refine PB.out.mono ?_;rintro e1 w4 ⟨rfl,hb4⟩;replace hS:=HD (hS.out.up hb4);clear hb4 PB x0 x1 x2 x3 y0 y1 y2 y3
      go_wp2
      go_roundw
      case rel=>exact⟨k+1,by omega,by go_num,hE',hS⟩
      case measure=>simp[intOf];omega
    ·as_aux_lemma =>
     have hlt':decide ((k:Int) < (l2:Int))=false:=by simp;omega
     have eqF:Hid (U.classes=V.classes):=HD (hE.out.all (by obtain⟨h1,h2,h3,h4,h5,h6,h7,h8⟩:=hS.out.lens;omega) (by obtain⟨h1,h2,h3,h4,h5,h6,h7,h8⟩:=hS.out.lens;omega));obtain⟨a0,a1,a2,a3,a4,a5,a6,a7,a8,a9⟩:=hS.out.cells;clear hE
     go_wp2
     clear a0 a1 a2 a3 a4 a5 a6 a7 a8 a9;clear hlt hlt' hk;have Q2:=HD eqF.out;clear eqF
     go_loopw [117] (fun i wr=>∃ (k:Nat),k≤l3∧i=.int .i64 k∧Hid (EqR U.methods V.methods k)∧Hid (S5 w wr U V na nc ca cc ma mc oa oc pa pc qa qc ra rc sa sc l1 l2 l3 l4 l1 l2 l3 l4)) (fun i _=>l3 - (intOf i).toNat)
     case atStart=>exact⟨0,by omega,rfl,E3,hS⟩
     case round =>
      clear hS E3;obtain⟨k,hk,rfl,hE,hS⟩:=hrel;by_cases hlt:k < l3
      ·as_aux_lemma =>
       have hlt':decide ((k:Int) < (l3:Int))=true:=by simp;omega
       have p0:(0:Int)≤(k:Int):=by omega
       have p1:(k:Int) < (l3:Int):=by omega
       obtain⟨a0,a1,a2,a3,a4,a5,a6,a7,a8,a9⟩:=hS.out.cells;obtain⟨x,hx⟩:∃ x,U.methods[k]?=some x:=⟨U.methods[k]'(by obtain⟨h1,h2,h3,h4,h5,h6,h7,h8⟩:=hS.out.lens;omega),by simp⟩
       obtain⟨y,hy⟩:∃ y,V.methods[k]?=some y:=⟨V.methods[k]'(by obtain⟨h1,h2,h3,h4,h5,h6,h7,h8⟩:=hS.out.lens;omega),by simp⟩
       obtain⟨c1,c2,c3,c4,c5,c6,c7,c8⟩:=hS.out.caps;obtain⟨v1,v2,v3,v4,v5,v6,v7,v8⟩:=hS.out.views;obtain⟨g,off,xa,xc,xb,xd,rfl,d0,d1,d2,d3,pm⟩:=MtV.at v3 hx;obtain⟨g2,off2,ya,yc,yb,yd,rfl,f0,f1,f2,f3,pm2⟩:=MtV.at v7 hy;clear v1 v2 v3 v4 v5 v6 v7 v8
       go_upto_region 19 with fail
       have PB:=rsamem_c (pm.up (Below.refl wr.heap.size wr).drew) (pm2.up (Below.refl wr.heap.size wr).drew);rw[methEq_iff] at PB;have hSd:=hS.out.drew;refine wp_region_still_tail 10 (by kernel_rfl) (by kernel_rfl) ?_;simp only[List.take_succ_cons,List.take_zero,List.drop_succ_cons,List.drop_zero]
       iterate 10 still_step
       refine wpStill_nil ?_;change wpList _ _ _ _ _ wr.drew;replace hS:=HD hSd;clear hSd pm pm2;generalize wr.drew=W3 at *;by_cases he:x=y
       ·as_aux_lemma =>
        rw[decide_eq_true he] at PB;replace PB:=HD PB;have hE':=HD (hE.out.step hx hy he);clear hx hy he hE a0 a1 a2 a3 a4 a5 a6 a7 a8 a9 d0 d1 d2 d3 f0 f1 f2 f3
        go_wp2_with fail
        refine PB.out.mono ?_;rintro e1 w4 ⟨rfl,hb4⟩;replace hS:=HD (hS.out.up hb4);clear hb4 PB
        go_wp2
        go_roundw
        case rel=>exact⟨k+1,by omega,by go_num,hE',hS⟩
        case measure=>simp[intOf];omega
       ·as_aux_lemma =>
        have e:Hid (sameU U V=false):=HD (sameU_no3 hx hy he);rw[decide_eq_false he] at PB;replace PB:=HD PB;clear hx hy he hE a0 a1 a2 a3 a4 a5 a6 a7 a8 a9 d0 d1 d2 d3 f0 f1 f2 f3
        go_wp2_with fail
        refine PB.out.mono ?_;rintro e1 w4 ⟨rfl,hb4⟩;replace hS:=HD (hS.out.up hb4);clear hb4 PB
        go_wp2
        go_ret;exact⟨congrArg (fun b=>Ending.returned (Value.bool b)) e.out.symm,hS.out.bel⟩
      ·as_aux_lemma =>
       have hlt':decide ((k:Int) < (l3:Int))=false:=by simp;omega
       have eqF:Hid (U.methods=V.methods):=HD (hE.out.all (by obtain⟨h1,h2,h3,h4,h5,h6,h7,h8⟩:=hS.out.lens;omega) (by obtain⟨h1,h2,h3,h4,h5,h6,h7,h8⟩:=hS.out.lens;omega));obtain⟨a0,a1,a2,a3,a4,a5,a6,a7,a8,a9⟩:=hS.out.cells;clear hE
       go_wp2
       clear a0 a1 a2 a3 a4 a5 a6 a7 a8 a9;clear hlt hlt' hk;have Q3:=HD eqF.out;clear eqF
       go_loopw [136] (fun i wr=>∃ (k:Nat),k≤l4∧i=.int .i64 k∧Hid (EqR U.objects V.objects k)∧Hid (S5 w wr U V na nc ca cc ma mc oa oc pa pc qa qc ra rc sa sc l1 l2 l3 l4 l1 l2 l3 l4)) (fun i _=>l4 - (intOf i).toNat)
       case atStart=>exact⟨0,by omega,rfl,E4,hS⟩
       case round =>
        clear hS E4;obtain⟨k,hk,rfl,hE,hS⟩:=hrel;by_cases hlt:k < l4
        ·as_aux_lemma =>
         have hlt':decide ((k:Int) < (l4:Int))=true:=by simp;omega
         have p0:(0:Int)≤(k:Int):=by omega
         have p1:(k:Int) < (l4:Int):=by omega
         obtain⟨a0,a1,a2,a3,a4,a5,a6,a7,a8,a9⟩:=hS.out.cells;obtain⟨x,hx⟩:∃ x,U.objects[k]?=some x:=⟨U.objects[k]'(by obtain⟨h1,h2,h3,h4,h5,h6,h7,h8⟩:=hS.out.lens;omega),by simp⟩
         obtain⟨y,hy⟩:∃ y,V.objects[k]?=some y:=⟨V.objects[k]'(by obtain⟨h1,h2,h3,h4,h5,h6,h7,h8⟩:=hS.out.lens;omega),by simp⟩
         obtain⟨c1,c2,c3,c4,c5,c6,c7,c8⟩:=hS.out.caps;obtain⟨v1,v2,v3,v4,v5,v6,v7,v8⟩:=hS.out.views;obtain⟨_,g,off,fv,rfl,d0,d1,pf⟩:=ObV.at v4 hx;obtain⟨_,g2,off2,fv2,rfl,f0,f1,pf2⟩:=ObV.at v8 hy;clear v1 v2 v3 v4 v5 v6 v7 v8
         go_upto_region 25 with fail
         clear a0 a1 a2 a4 a5 a6 a7 a9;by_cases h0:¬ x.cls=y.cls
         ·as_aux_lemma =>
          have e:Hid (sameU U V=false):=HD (sameU_no4 hx hy (fun q=>h0 (by rw[q])));have t0:(x.cls != y.cls)=true:=by simpa using h0
          replace hS:=HD hS.out.drew;clear hx hy h0 hE pf pf2;refine wp_region_held_drew (S:=(fun wr'=>wr'.cell? ⟨w.heap.size,3,none⟩=some (.slice (some ⟨g,off,none⟩) l4 oc)∧wr'.cell? ⟨w.heap.size+1,3,none⟩=some (.slice (some ⟨g2,off2,none⟩) l4 sc)∧wr'.cell? ⟨g,off+k*2,none⟩=some (.int .i64 x.cls)∧wr'.cell? ⟨g,off+k*2+1,none⟩=some fv∧wr'.cell? ⟨g2,off2+k*2,none⟩=some (.int .i64 y.cls)∧wr'.cell? ⟨g2,off2+k*2+1,none⟩=some fv2)) (by kernel_rfl) ?_ (fun hHeld=>?_)
          ·(try dsimp only);exact⟨a3,a8,d0,d1,f0,f1⟩
          try simp only[nA]
          refine tk (i:=0) (oi:=⟨some 139,.fieldAddr 27 (.tmp 2) 3,0,"ref.go:245",#[],none⟩) ?_
          try simp only[nA]
          refine tk (i:=1) (oi:=⟨some 140,.load 25 (.tmp 139),25,"ref.go:245",#[⟨0,.data⟩],none⟩) ?_
          try simp only[nA]
          refine tk (i:=2) (oi:=⟨some 141,.move (.tmp 10),3,"ref.go:245",#[],none⟩) ?_
          try simp only[nA]
          refine tk (i:=3) (oi:=⟨some 142,.indexAddr 25 (.tmp 140) (.tmp 141),0,"ref.go:245",#[⟨1,.data⟩,⟨2,.data⟩],none⟩) ?_
          try simp only[nA]
          refine tk (i:=4) (oi:=⟨some 143,.fieldAddr 55 (.tmp 142) 0,0,"ref.go:245",#[⟨3,.data⟩],none⟩) ?_
          try simp only[nA]
          refine tk (i:=5) (oi:=⟨some 144,.load 3 (.tmp 143),3,"ref.go:245",#[⟨4,.data⟩],none⟩) ?_
          try simp only[nA]
          refine tk (i:=6) (oi:=⟨some 145,.fieldAddr 27 (.tmp 3) 3,0,"ref.go:245",#[],none⟩) ?_
          try simp only[nA]
          refine tk (i:=7) (oi:=⟨some 146,.load 25 (.tmp 145),25,"ref.go:245",#[⟨6,.data⟩],none⟩) ?_
          try simp only[nA]
          refine tk (i:=8) (oi:=⟨some 147,.move (.tmp 10),3,"ref.go:245",#[],none⟩) ?_
          try simp only[nA]
          refine tk (i:=9) (oi:=⟨some 148,.indexAddr 25 (.tmp 146) (.tmp 147),0,"ref.go:245",#[⟨7,.data⟩,⟨8,.data⟩],none⟩) ?_
          try simp only[nA]
          refine tk (i:=10) (oi:=⟨some 149,.fieldAddr 55 (.tmp 148) 0,0,"ref.go:245",#[⟨9,.data⟩],none⟩) ?_
          try simp only[nA]
          refine tk (i:=11) (oi:=⟨some 150,.load 3 (.tmp 149),3,"ref.go:245",#[⟨10,.data⟩],none⟩) ?_
          try simp only[nA]
          refine tk (i:=12) (oi:=⟨some 151,.binOp .neq 3 (.tmp 144) (.tmp 150) 3,4,"ref.go:245",#[⟨5,.data⟩,⟨11,.data⟩],none⟩) ?_
          try simp only[nA]
          refine tk (i:=13) (oi:=⟨some 152,.move (.tmp 151),4,"ref.go:245",#[⟨12,.data⟩],none⟩) ?_
          try simp only[nA]
          refine tu (i:=14) (oi:=⟨some 153,.fieldAddr 27 (.tmp 2) 3,0,"ref.go:245",#[⟨13,.guard⟩],some (13,false)⟩) ?_
          try simp only[nA]
          refine tu (i:=15) (oi:=⟨some 154,.load 25 (.tmp 153),25,"ref.go:245",#[⟨14,.data⟩,⟨13,.guard⟩],some (13,false)⟩) ?_
          try simp only[nA]
          refine tu (i:=16) (oi:=⟨some 155,.move (.tmp 10),3,"ref.go:245",#[⟨13,.guard⟩],some (13,false)⟩) ?_
          try simp only[nA]
          refine tu (i:=17) (oi:=⟨some 156,.indexAddr 25 (.tmp 154) (.tmp 155),0,"ref.go:245",#[⟨15,.data⟩,⟨16,.data⟩,⟨13,.guard⟩],some (13,false)⟩) ?_
          try simp only[nA]
          refine tu (i:=18) (oi:=⟨some 157,.fieldAddr 55 (.tmp 156) 1,0,"ref.go:245",#[⟨17,.data⟩,⟨13,.guard⟩],some (13,false)⟩) ?_
          try simp only[nA]
          refine tu (i:=19) (oi:=⟨some 158,.load 53 (.tmp 157),53,"ref.go:245",#[⟨18,.data⟩,⟨13,.guard⟩],some (13,false)⟩) ?_
          try simp only[nA]
          refine tu (i:=20) (oi:=⟨some 159,.fieldAddr 27 (.tmp 3) 3,0,"ref.go:245",#[⟨13,.guard⟩],some (13,false)⟩) ?_
          try simp only[nA]
          refine tu (i:=21) (oi:=⟨some 160,.load 25 (.tmp 159),25,"ref.go:245",#[⟨20,.data⟩,⟨13,.guard⟩],some (13,false)⟩) ?_
          try simp only[nA]
          refine tu (i:=22) (oi:=⟨some 161,.move (.tmp 10),3,"ref.go:245",#[⟨13,.guard⟩],some (13,false)⟩) ?_
          try simp only[nA]
          refine tu (i:=23) (oi:=⟨some 162,.indexAddr 25 (.tmp 160) (.tmp 161),0,"ref.go:245",#[⟨21,.data⟩,⟨22,.data⟩,⟨13,.guard⟩],some (13,false)⟩) ?_
          try simp only[nA]
          refine tu (i:=24) (oi:=⟨some 163,.fieldAddr 55 (.tmp 162) 1,0,"ref.go:245",#[⟨23,.data⟩,⟨13,.guard⟩],some (13,false)⟩) ?_
          try simp only[nA]
          refine tu (i:=25) (oi:=⟨some 164,.load 53 (.tmp 163),53,"ref.go:245",#[⟨24,.data⟩,⟨13,.guard⟩],some (13,false)⟩) ?_
          try simp only[nA]
          refine tu (i:=26) (oi:=⟨some 165,.call { callee:=.value (.func 43),args:=#[.tmp 158,.tmp 164],argTypes:=#[53,53] },4,"ref.go:245",#[⟨19,.data⟩,⟨25,.data⟩,⟨13,.chain⟩,⟨13,.guard⟩],some (13,false)⟩) ?_
          try simp only[nA]
          refine tu (i:=27) (oi:=⟨some 166,.unOp .not 4 (.tmp 165),4,"ref.go:245",#[⟨26,.data⟩,⟨13,.guard⟩],some (13,false)⟩) ?_
          try simp only[nA]
          refine tk (i:=28) (oi:=⟨some 167,.pick (.tmp 152) (.const (.bool true)) (.tmp 166),4,"ref.go:245",#[⟨13,.data⟩,⟨27,.data⟩],none⟩) ?_
          try simp only[nA]
          refine wpAnyH_done (by kernel_rfl) ?_ _
          go_wp2
          go_ret;exact⟨congrArg (fun b=>Ending.returned (Value.bool b)) e.out.symm,hS.out.bel⟩
         replace h0:x.cls=y.cls:=Decidable.not_not.1 h0;have t0:(x.cls != y.cls)=false:=by simpa using h0
         have PB:=rvals_c (pf.up (Below.refl wr.heap.size wr).drew) (pf2.up (Below.refl wr.heap.size wr).drew);replace hS:=HD hS.out.drew;clear pf pf2;by_cases he:x.flds=y.flds
         ·as_aux_lemma =>
          rw[decide_eq_true he] at PB;replace PB:=HD PB;have hE':=HD (hE.out.step hx hy (by cases x;cases y;simp only at h0 he;rw[h0,he]));clear hx hy he hE h0;refine wp_region_held_drew (S:=(fun wr'=>wr'.cell? ⟨w.heap.size,3,none⟩=some (.slice (some ⟨g,off,none⟩) l4 oc)∧wr'.cell? ⟨w.heap.size+1,3,none⟩=some (.slice (some ⟨g2,off2,none⟩) l4 sc)∧wr'.cell? ⟨g,off+k*2,none⟩=some (.int .i64 x.cls)∧wr'.cell? ⟨g,off+k*2+1,none⟩=some fv∧wr'.cell? ⟨g2,off2+k*2,none⟩=some (.int .i64 y.cls)∧wr'.cell? ⟨g2,off2+k*2+1,none⟩=some fv2)) (by kernel_rfl) ?_ (fun hHeld=>?_)
          ·(try dsimp only);exact⟨a3,a8,d0,d1,f0,f1⟩
          try simp only[nA]
          refine tk (i:=0) (oi:=⟨some 139,.fieldAddr 27 (.tmp 2) 3,0,"ref.go:245",#[],none⟩) ?_
          try simp only[nA]
          refine tk (i:=1) (oi:=⟨some 140,.load 25 (.tmp 139),25,"ref.go:245",#[⟨0,.data⟩],none⟩) ?_
          try simp only[nA]
          refine tk (i:=2) (oi:=⟨some 141,.move (.tmp 10),3,"ref.go:245",#[],none⟩) ?_
          try simp only[nA]
          refine tk (i:=3) (oi:=⟨some 142,.indexAddr 25 (.tmp 140) (.tmp 141),0,"ref.go:245",#[⟨1,.data⟩,⟨2,.data⟩],none⟩) ?_
          try simp only[nA]
          refine tk (i:=4) (oi:=⟨some 143,.fieldAddr 55 (.tmp 142) 0,0,"ref.go:245",#[⟨3,.data⟩],none⟩) ?_
          try simp only[nA]
          refine tk (i:=5) (oi:=⟨some 144,.load 3 (.tmp 143),3,"ref.go:245",#[⟨4,.data⟩],none⟩) ?_
          try simp only[nA]
          refine tk (i:=6) (oi:=⟨some 145,.fieldAddr 27 (.tmp 3) 3,0,"ref.go:245",#[],none⟩) ?_
          try simp only[nA]
          refine tk (i:=7) (oi:=⟨some 146,.load 25 (.tmp 145),25,"ref.go:245",#[⟨6,.data⟩],none⟩) ?_
          try simp only[nA]
          refine tk (i:=8) (oi:=⟨some 147,.move (.tmp 10),3,"ref.go:245",#[],none⟩) ?_
          try simp only[nA]
          refine tk (i:=9) (oi:=⟨some 148,.indexAddr 25 (.tmp 146) (.tmp 147),0,"ref.go:245",#[⟨7,.data⟩,⟨8,.data⟩],none⟩) ?_
          try simp only[nA]
          refine tk (i:=10) (oi:=⟨some 149,.fieldAddr 55 (.tmp 148) 0,0,"ref.go:245",#[⟨9,.data⟩],none⟩) ?_
          try simp only[nA]
          refine tk (i:=11) (oi:=⟨some 150,.load 3 (.tmp 149),3,"ref.go:245",#[⟨10,.data⟩],none⟩) ?_
          try simp only[nA]
          refine tk (i:=12) (oi:=⟨some 151,.binOp .neq 3 (.tmp 144) (.tmp 150) 3,4,"ref.go:245",#[⟨5,.data⟩,⟨11,.data⟩],none⟩) ?_
          try simp only[nA]
          refine tk (i:=13) (oi:=⟨some 152,.move (.tmp 151),4,"ref.go:245",#[⟨12,.data⟩],none⟩) ?_
          try simp only[nA]
          refine tk (i:=14) (oi:=⟨some 153,.fieldAddr 27 (.tmp 2) 3,0,"ref.go:245",#[⟨13,.guard⟩],some (13,false)⟩) ?_
          try simp only[nA]
          refine tk (i:=15) (oi:=⟨some 154,.load 25 (.tmp 153),25,"ref.go:245",#[⟨14,.data⟩,⟨13,.guard⟩],some (13,false)⟩) ?_
          try simp only[nA]
          refine tk (i:=16) (oi:=⟨some 155,.move (.tmp 10),3,"ref.go:245",#[⟨13,.guard⟩],some (13,false)⟩) ?_
          try simp only[nA]
          refine tk (i:=17) (oi:=⟨some 156,.indexAddr 25 (.tmp 154) (.tmp 155),0,"ref.go:245",#[⟨15,.data⟩,⟨16,.data⟩,⟨13,.guard⟩],some (13,false)⟩) ?_
          try simp only[nA]
          refine tk (i:=18) (oi:=⟨some 157,.fieldAddr 55 (.tmp 156) 1,0,"ref.go:245",#[⟨17,.data⟩,⟨13,.guard⟩],some (13,false)⟩) ?_
          try simp only[nA]
          refine tk (i:=19) (oi:=⟨some 158,.load 53 (.tmp 157),53,"ref.go:245",#[⟨18,.data⟩,⟨13,.guard⟩],some (13,false)⟩) ?_
          try simp only[nA]
          refine tk (i:=20) (oi:=⟨some 159,.fieldAddr 27 (.tmp 3) 3,0,"ref.go:245",#[⟨13,.guard⟩],some (13,false)⟩) ?_
          try simp only[nA]
          refine tk (i:=21) (oi:=⟨some 160,.load 25 (.tmp 159),25,"ref.go:245",#[⟨20,.data⟩,⟨13,.guard⟩],some (13,false)⟩) ?_
          try simp only[nA]
          refine tk (i:=22) (oi:=⟨some 161,.move (.tmp 10),3,"ref.go:245",#[⟨13,.guard⟩],some (13,false)⟩) ?_
          try simp only[nA]
          refine tk (i:=23) (oi:=⟨some 162,.indexAddr 25 (.tmp 160) (.tmp 161),0,"ref.go:245",#[⟨21,.data⟩,⟨22,.data⟩,⟨13,.guard⟩],some (13,false)⟩) ?_
          try simp only[nA]
          refine tk (i:=24) (oi:=⟨some 163,.fieldAddr 55 (.tmp 162) 1,0,"ref.go:245",#[⟨23,.data⟩,⟨13,.guard⟩],some (13,false)⟩) ?_
          try simp only[nA]
          refine tk (i:=25) (oi:=⟨some 164,.load 53 (.tmp 163),53,"ref.go:245",#[⟨24,.data⟩,⟨13,.guard⟩],some (13,false)⟩) ?_
          try simp only[nA]
          refine wpAnyH_ready (rs:=[26]) (by kernel_rfl) (by simp) ?_;refine AllReadyH.cons (o:=⟨some 165,.call { callee:=.value (.func 43),args:=#[.tmp 158,.tmp 164],argTypes:=#[53,53] },4,"ref.go:245",#[⟨19,.data⟩,⟨25,.data⟩,⟨13,.chain⟩,⟨13,.guard⟩],some (13,false)⟩) rfl (fun K9 hK=>?_) ?_
          ·go_simp
           with_reducible refine (PB.out).mono ?_
           rintro e1 w4 ⟨rfl,hb4⟩;have hq9:=HD (And.intro (cell_up hb4 a3) (And.intro (cell_up hb4 a8) (And.intro (cell_up hb4 d0) (And.intro (cell_up hb4 d1) (And.intro (cell_up hb4 f0) (cell_up hb4 f1))))));replace hS:=HD (hS.out.up hb4);clear hb4 PB a3 a8 d0 d1 f0 f1
           go_wp2_with fail
           refine hK.out _ _ ?_ ?_
           ·(try dsimp only);exact hq9.out
           clear hK K9 hHeld;intro hHeld
           try simp only[nA]
           refine tk (i:=27) (oi:=⟨some 166,.unOp .not 4 (.tmp 165),4,"ref.go:245",#[⟨26,.data⟩,⟨13,.guard⟩],some (13,false)⟩) ?_
           try simp only[nA]
           refine tk (i:=28) (oi:=⟨some 167,.pick (.tmp 152) (.const (.bool true)) (.tmp 166),4,"ref.go:245",#[⟨13,.data⟩,⟨27,.data⟩],none⟩) ?_
           try simp only[nA]
           refine wpAnyH_done (by kernel_rfl) ?_ _
           go_wp2
           go_roundw
           case rel=>exact⟨k+1,by omega,by go_num,hE',hS⟩
           case measure=>simp[intOf];omega
          exact AllReadyH.nil
         ·as_aux_lemma =>
          have e:Hid (sameU U V=false):=HD (sameU_no4 hx hy (fun q=>he (by rw[q])));rw[decide_eq_false he] at PB;replace PB:=HD PB;clear hx hy he hE h0;refine wp_region_held_drew (S:=(fun wr'=>wr'.cell? ⟨w.heap.size,3,none⟩=some (.slice (some ⟨g,off,none⟩) l4 oc)∧wr'.cell? ⟨w.heap.size+1,3,none⟩=some (.slice (some ⟨g2,off2,none⟩) l4 sc)∧wr'.cell? ⟨g,off+k*2,none⟩=some (.int .i64 x.cls)∧wr'.cell? ⟨g,off+k*2+1,none⟩=some fv∧wr'.cell? ⟨g2,off2+k*2,none⟩=some (.int .i64 y.cls)∧wr'.cell? ⟨g2,off2+k*2+1,none⟩=some fv2)) (by kernel_rfl) ?_ (fun hHeld=>?_)
          ·(try dsimp only);exact⟨a3,a8,d0,d1,f0,f1⟩
          try simp only[nA]
          refine tk (i:=0) (oi:=⟨some 139,.fieldAddr 27 (.tmp 2) 3,0,"ref.go:245",#[],none⟩) ?_
          try simp only[nA]
          refine tk (i:=1) (oi:=⟨some 140,.load 25 (.tmp 139),25,"ref.go:245",#[⟨0,.data⟩],none⟩) ?_
          try simp only[nA]
          refine tk (i:=2) (oi:=⟨some 141,.move (.tmp 10),3,"ref.go:245",#[],none⟩) ?_
          try simp only[nA]
          refine tk (i:=3) (oi:=⟨some 142,.indexAddr 25 (.tmp 140) (.tmp 141),0,"ref.go:245",#[⟨1,.data⟩,⟨2,.data⟩],none⟩) ?_
          try simp only[nA]
          refine tk (i:=4) (oi:=⟨some 143,.fieldAddr 55 (.tmp 142) 0,0,"ref.go:245",#[⟨3,.data⟩],none⟩) ?_
          try simp only[nA]
          refine tk (i:=5) (oi:=⟨some 144,.load 3 (.tmp 143),3,"ref.go:245",#[⟨4,.data⟩],none⟩) ?_
          try simp only[nA]
          refine tk (i:=6) (oi:=⟨some 145,.fieldAddr 27 (.tmp 3) 3,0,"ref.go:245",#[],none⟩) ?_
          try simp only[nA]
          refine tk (i:=7) (oi:=⟨some 146,.load 25 (.tmp 145),25,"ref.go:245",#[⟨6,.data⟩],none⟩) ?_
          try simp only[nA]
          refine tk (i:=8) (oi:=⟨some 147,.move (.tmp 10),3,"ref.go:245",#[],none⟩) ?_
          try simp only[nA]
          refine tk (i:=9) (oi:=⟨some 148,.indexAddr 25 (.tmp 146) (.tmp 147),0,"ref.go:245",#[⟨7,.data⟩,⟨8,.data⟩],none⟩) ?_
          try simp only[nA]
          refine tk (i:=10) (oi:=⟨some 149,.fieldAddr 55 (.tmp 148) 0,0,"ref.go:245",#[⟨9,.data⟩],none⟩) ?_
          try simp only[nA]
          refine tk (i:=11) (oi:=⟨some 150,.load 3 (.tmp 149),3,"ref.go:245",#[⟨10,.data⟩],none⟩) ?_
          try simp only[nA]
          refine tk (i:=12) (oi:=⟨some 151,.binOp .neq 3 (.tmp 144) (.tmp 150) 3,4,"ref.go:245",#[⟨5,.data⟩,⟨11,.data⟩],none⟩) ?_
          try simp only[nA]
          refine tk (i:=13) (oi:=⟨some 152,.move (.tmp 151),4,"ref.go:245",#[⟨12,.data⟩],none⟩) ?_
          try simp only[nA]
          refine tk (i:=14) (oi:=⟨some 153,.fieldAddr 27 (.tmp 2) 3,0,"ref.go:245",#[⟨13,.guard⟩],some (13,false)⟩) ?_
          try simp only[nA]
          refine tk (i:=15) (oi:=⟨some 154,.load 25 (.tmp 153),25,"ref.go:245",#[⟨14,.data⟩,⟨13,.guard⟩],some (13,false)⟩) ?_
          try simp only[nA]
          refine tk (i:=16) (oi:=⟨some 155,.move (.tmp 10),3,"ref.go:245",#[⟨13,.guard⟩],some (13,false)⟩) ?_
          try simp only[nA]
          refine tk (i:=17) (oi:=⟨some 156,.indexAddr 25 (.tmp 154) (.tmp 155),0,"ref.go:245",#[⟨15,.data⟩,⟨16,.data⟩,⟨13,.guard⟩],some (13,false)⟩) ?_
          try simp only[nA]
          refine tk (i:=18) (oi:=⟨some 157,.fieldAddr 55 (.tmp 156) 1,0,"ref.go:245",#[⟨17,.data⟩,⟨13,.guard⟩],some (13,false)⟩) ?_
          try simp only[nA]
          refine tk (i:=19) (oi:=⟨some 158,.load 53 (.tmp 157),53,"ref.go:245",#[⟨18,.data⟩,⟨13,.guard⟩],some (13,false)⟩) ?_
          try simp only[nA]
          refine tk (i:=20) (oi:=⟨some 159,.fieldAddr 27 (.tmp 3) 3,0,"ref.go:245",#[⟨13,.guard⟩],some (13,false)⟩) ?_
          try simp only[nA]
          refine tk (i:=21) (oi:=⟨some 160,.load 25 (.tmp 159),25,"ref.go:245",#[⟨20,.data⟩,⟨13,.guard⟩],some (13,false)⟩) ?_
          try simp only[nA]
          refine tk (i:=22) (oi:=⟨some 161,.move (.tmp 10),3,"ref.go:245",#[⟨13,.guard⟩],some (13,false)⟩) ?_
          try simp only[nA]
          refine tk (i:=23) (oi:=⟨some 162,.indexAddr 25 (.tmp 160) (.tmp 161),0,"ref.go:245",#[⟨21,.data⟩,⟨22,.data⟩,⟨13,.guard⟩],some (13,false)⟩) ?_
          try simp only[nA]
          refine tk (i:=24) (oi:=⟨some 163,.fieldAddr 55 (.tmp 162) 1,0,"ref.go:245",#[⟨23,.data⟩,⟨13,.guard⟩],some (13,false)⟩) ?_
          try simp only[nA]
          refine tk (i:=25) (oi:=⟨some 164,.load 53 (.tmp 163),53,"ref.go:245",#[⟨24,.data⟩,⟨13,.guard⟩],some (13,false)⟩) ?_
          try simp only[nA]
          refine wpAnyH_ready (rs:=[26]) (by kernel_rfl) (by simp) ?_;refine AllReadyH.cons (o:=⟨some 165,.call { callee:=.value (.func 43),args:=#[.tmp 158,.tmp 164],argTypes:=#[53,53] },4,"ref.go:245",#[⟨19,.data⟩,⟨25,.data⟩,⟨13,.chain⟩,⟨13,.guard⟩],some (13,false)⟩) rfl (fun K9 hK=>?_) ?_
          ·go_simp
           with_reducible refine (PB.out).mono ?_
           rintro e1 w4 ⟨rfl,hb4⟩;have hq9:=HD (And.intro (cell_up hb4 a3) (And.intro (cell_up hb4 a8) (And.intro (cell_up hb4 d0) (And.intro (cell_up hb4 d1) (And.intro (cell_up hb4 f0) (cell_up hb4 f1))))));replace hS:=HD (hS.out.up hb4);clear hb4 PB a3 a8 d0 d1 f0 f1
           go_wp2_with fail
           refine hK.out _ _ ?_ ?_
           ·(try dsimp only);exact hq9.out
           clear hK K9 hHeld;intro hHeld
           try simp only[nA]
           refine tk (i:=27) (oi:=⟨some 166,.unOp .not 4 (.tmp 165),4,"ref.go:245",#[⟨26,.data⟩,⟨13,.guard⟩],some (13,false)⟩) ?_
           try simp only[nA]
           refine tk (i:=28) (oi:=⟨some 167,.pick (.tmp 152) (.const (.bool true)) (.tmp 166),4,"ref.go:245",#[⟨13,.data⟩,⟨27,.data⟩],none⟩) ?_
           try simp only[nA]
           refine wpAnyH_done (by kernel_rfl) ?_ _
           go_wp2
           go_ret;exact⟨congrArg (fun b=>Ending.returned (Value.bool b)) e.out.symm,hS.out.bel⟩
          exact AllReadyH.nil
        ·as_aux_lemma =>
         have hlt':decide ((k:Int) < (l4:Int))=false:=by simp;omega
         have eqF:Hid (U.objects=V.objects):=HD (hE.out.all (by obtain⟨h1,h2,h3,h4,h5,h6,h7,h8⟩:=hS.out.lens;omega) (by obtain⟨h1,h2,h3,h4,h5,h6,h7,h8⟩:=hS.out.lens;omega));obtain⟨a0,a1,a2,a3,a4,a5,a6,a7,a8,a9⟩:=hS.out.cells;clear hE;have e:Hid (sameU U V=true):=HD ((sameU_iff U V).2 (by
          have q1:=Q1.out;have q2:=Q2.out;have q3:=Q3.out;have q4:=eqF.out;have q5:=g5h.out;cases U;cases V;simp only at q1 q2 q3 q4 q5;rw[q1,q2,q3,q4,q5]))
         go_wp2
         go_ret;exact⟨congrArg (fun b=>Ending.returned (Value.bool b)) e.out.symm,hS.out.bel⟩
end Wd
end Go.Proofs.YtgfnelhbdhbklaaGreat
namespace Go.Proofs.YtgfnelhbdhbklaaGreat
open Go.RowKit
set_option linter.unusedVariables false
set_option maxRecDepth 20000
namespace Wd
theorem range5 {w:World} {q:Nat} {a b c d e:Value} (h0:w.cell? ⟨q,0,none⟩=some a) (h1:w.cell? ⟨q,1,none⟩=some b) (h2:w.cell? ⟨q,2,none⟩=some c) (h3:w.cell? ⟨q,3,none⟩=some d) (h4:w.cell? ⟨q,4,none⟩=some e):w.rangeAt q 0 [a,b,c,d,e]:=by
 intro j v hj
 match j,hj with
 | 0,hj=>simp at hj;subst hj;exact h0
 | 1,hj=>simp at hj;subst hj;exact h1
 | 2,hj=>simp at hj;subst hj;exact h2
 | 3,hj=>simp at hj;subst hj;exact h3
 | 4,hj=>simp at hj;subst hj;exact h4
 | j+5,hj=>simp at hj
theorem UnB.range {w:World} {q:Nat} {u:Value} {U:UnitA} {na ka ma oa:Option Addr} {nc kc mc oc:Nat} (h:UnB w q u U na ka ma oa nc kc mc oc):w.rangeAt q 0 [.slice na U.names.length nc,.slice ka U.classes.length kc,.slice ma U.methods.length mc,.slice oa U.objects.length oc,.int .i64 U.main]:=range5 h.c0 h.c1 h.c2 h.c3 h.c4
structure SmB (w wr:World) (u:Value) (U:UnitA) (na ka ma oa:Option Addr) (nc kc mc oc:Nat):Prop where
 b:UnB wr w.heap.size u U na ka ma oa nc kc mc oc
 bel:Below w.heap.size w wr
theorem SmB.up {w wr w2:World} {u:Value} {U:UnitA} {na ka ma oa:Option Addr} {nc kc mc oc:Nat} (h:SmB w wr u U na ka ma oa nc kc mc oc) (b:Below wr.heap.size wr w2):SmB w w2 u U na ka ma oa nc kc mc oc:=⟨h.b.up b,h.bel.trans (b.mono h.bel.size)⟩
theorem range4 {w:World} {q:Nat} {a b c d:Value} (h0:w.cell? ⟨q,0,none⟩=some a) (h1:w.cell? ⟨q,1,none⟩=some b) (h2:w.cell? ⟨q,2,none⟩=some c) (h3:w.cell? ⟨q,3,none⟩=some d):w.rangeAt q 0 [a,b,c,d]:=by
 intro j v hj
 match j,hj with
 | 0,hj=>simp at hj;subst hj;exact h0
 | 1,hj=>simp at hj;subst hj;exact h1
 | 2,hj=>simp at hj;subst hj;exact h2
 | 3,hj=>simp at hj;subst hj;exact h3
 | j+4,hj=>simp at hj
theorem MeB.range {w:World} {q:Nat} {v:Value} {m:MethA} {la ca:Option Addr} {lc cc:Nat} (h:MeB w q v m la ca lc cc):w.rangeAt q 0 [.int .i64 m.args,.int .i64 m.temps,.slice la m.lits.length lc,.slice ca m.code.length cc]:=range4 h.c0 h.c1 h.c2 h.c3
structure SmS (w0 wr:World) (q q2 q7:Nat) (v u:Value) (m:MethA) (U:UnitA) (la ca na ka ma oa:Option Addr) (lc cc nc kc mc oc:Nat) (x y:Int):Prop where
 ms:MSt w0 wr q q2 v u m U la ca na ka ma oa lc cc nc kc mc oc
 x0:wr.cell? ⟨q7,0,none⟩=some (.int .i64 x)
 x1:wr.cell? ⟨q7,1,none⟩=some (.int .i64 y)
theorem SmS.up {w0 w w1:World} {q q2 q7:Nat} {v u:Value} {m:MethA} {U:UnitA} {la ca na ka ma oa:Option Addr} {lc cc nc kc mc oc:Nat} {x y:Int} (h:SmS w0 w q q2 q7 v u m U la ca na ka ma oa lc cc nc kc mc oc x y) (b:Below w.heap.size w w1):SmS w0 w1 q q2 q7 v u m U la ca na ka ma oa lc cc nc kc mc oc x y :=
 ⟨h.ms.up b,cell_up b h.x0,cell_up b h.x1⟩
theorem SmS.born {w0 w:World} {q q2:Nat} {v u:Value} {m:MethA} {U:UnitA} {la ca na ka ma oa:Option Addr} {lc cc nc kc mc oc:Nat} (h:MSt w0 w q q2 v u m U la ca na ka ma oa lc cc nc kc mc oc) (x y:Int) (T:TypeId):SmS w0 (w.alloc (.cells #[.int .i64 x,.int .i64 y] T)) q q2 w.heap.size v u m U la ca na ka ma oa lc cc nc kc mc oc x y :=
 ⟨h.up ((Below.refl _ _).alloc (Nat.le_refl _) _),by simp,by simp⟩
theorem kisOne_c (x n:Int) (w:World):Calls Tryz.prog 131 #[.int .i64 x,.int .i64 n] w fun e w'=>e=.returned (.bool (decide (0≤x) && decide (x < n)))∧w'=w:=by
 by_cases h:0≤x
 ·have d1:decide (x ≥ 0)=true:=by simpa using h
  rw[decide_eq_true h];go_enter Tryz.func131,Tryz.ntmps131
  go_wp2
  go_ret;exact⟨rfl,rfl⟩
 ·have d1:decide (x ≥ 0)=false:=by simpa using h
  rw[decide_eq_false h];go_enter Tryz.func131,Tryz.ntmps131
  go_wp2
  go_ret;exact⟨rfl,rfl⟩
set_option maxHeartbeats 8000000 in
theorem ktakes_c (p:Int) (hp:In64 p) (w:World):Calls Tryz.prog 134 #[.int .i64 p] w fun e w'=>e=.returned (.int .i64 (takR p))∧Below w.heap.size w w':=by
 by_cases h:p < 0∨p > 23
 ·have e:Hid (takR p=-1):=HD (if_pos h);have f0:(p == 0)=false:=by simp;omega
  have f1:(p == 1)=false:=by simp;omega
  have f2:(p == 2)=false:=by simp;omega
  have f3:(p == 3)=false:=by simp;omega
  have f4:(p == 4)=false:=by simp;omega
  have f5:(p == 5)=false:=by simp;omega
  have f6:(p == 6)=false:=by simp;omega
  have f7:(p == 7)=false:=by simp;omega
  have f8:(p == 8)=false:=by simp;omega
  have f9:(p == 9)=false:=by simp;omega
  have f10:(p == 10)=false:=by simp;omega
  have f11:(p == 11)=false:=by simp;omega
  have f12:(p == 12)=false:=by simp;omega
  have f13:(p == 13)=false:=by simp;omega
  have f14:(p == 14)=false:=by simp;omega
  have f15:(p == 15)=false:=by simp;omega
  have f16:(p == 16)=false:=by simp;omega
  have f17:(p == 17)=false:=by simp;omega
  have f18:(p == 18)=false:=by simp;omega
  have f19:(p == 19)=false:=by simp;omega
  have f20:(p == 20)=false:=by simp;omega
  have f21:(p == 21)=false:=by simp;omega
  have f22:(p == 22)=false:=by simp;omega
  have f23:(p == 23)=false:=by simp;omega
  clear h;go_enter Tryz.func134,Tryz.ntmps134
  go_wp2
  go_ret;exact⟨by rw[e.out];rfl,Below.refl _ _⟩
 ·rcases (show p=0∨p=1∨p=2∨p=3∨p=4∨p=5∨p=6∨p=7∨p=8∨p=9∨p=10∨p=11∨p=12∨p=13∨p=14∨p=15∨p=16∨p=17∨p=18∨p=19∨p=20∨p=21∨p=22∨p=23 by omega) with rfl | rfl | rfl | rfl | rfl | rfl | rfl | rfl | rfl | rfl | rfl | rfl | rfl | rfl | rfl | rfl | rfl | rfl | rfl | rfl | rfl | rfl | rfl | rfl
  ·have e:Hid (takR 0=2):=HD (by decide +kernel);go_enter Tryz.func134,Tryz.ntmps134
   go_wp2
   go_ret;exact⟨by rw[e.out];rfl,Below.refl _ _⟩
  ·have e:Hid (takR 1=2):=HD (by decide +kernel);go_enter Tryz.func134,Tryz.ntmps134
   go_wp2
   go_ret;exact⟨by rw[e.out];rfl,Below.refl _ _⟩
  ·have e:Hid (takR 2=2):=HD (by decide +kernel);go_enter Tryz.func134,Tryz.ntmps134
   go_wp2
   go_ret;exact⟨by rw[e.out];rfl,Below.refl _ _⟩
  ·have e:Hid (takR 3=2):=HD (by decide +kernel);go_enter Tryz.func134,Tryz.ntmps134
   go_wp2
   go_ret;exact⟨by rw[e.out];rfl,Below.refl _ _⟩
  ·have e:Hid (takR 4=2):=HD (by decide +kernel);go_enter Tryz.func134,Tryz.ntmps134
   go_wp2
   go_ret;exact⟨by rw[e.out];rfl,Below.refl _ _⟩
  ·have e:Hid (takR 5=2):=HD (by decide +kernel);go_enter Tryz.func134,Tryz.ntmps134
   go_wp2
   go_ret;exact⟨by rw[e.out];rfl,Below.refl _ _⟩
  ·have e:Hid (takR 6=1):=HD (by decide +kernel);go_enter Tryz.func134,Tryz.ntmps134
   go_wp2
   go_ret;exact⟨by rw[e.out];rfl,Below.refl _ _⟩
  ·have e:Hid (takR 7=1):=HD (by decide +kernel);go_enter Tryz.func134,Tryz.ntmps134
   go_wp2
   go_ret;exact⟨by rw[e.out];rfl,Below.refl _ _⟩
  ·have e:Hid (takR 8=2):=HD (by decide +kernel);go_enter Tryz.func134,Tryz.ntmps134
   go_wp2
   go_ret;exact⟨by rw[e.out];rfl,Below.refl _ _⟩
  ·have e:Hid (takR 9=3):=HD (by decide +kernel);go_enter Tryz.func134,Tryz.ntmps134
   go_wp2
   go_ret;exact⟨by rw[e.out];rfl,Below.refl _ _⟩
  ·have e:Hid (takR 10=1):=HD (by decide +kernel);go_enter Tryz.func134,Tryz.ntmps134
   go_wp2
   go_ret;exact⟨by rw[e.out];rfl,Below.refl _ _⟩
  ·have e:Hid (takR 11=1):=HD (by decide +kernel);go_enter Tryz.func134,Tryz.ntmps134
   go_wp2
   go_ret;exact⟨by rw[e.out];rfl,Below.refl _ _⟩
  ·have e:Hid (takR 12=2):=HD (by decide +kernel);go_enter Tryz.func134,Tryz.ntmps134
   go_wp2
   go_ret;exact⟨by rw[e.out];rfl,Below.refl _ _⟩
  ·have e:Hid (takR 13=2):=HD (by decide +kernel);go_enter Tryz.func134,Tryz.ntmps134
   go_wp2
   go_ret;exact⟨by rw[e.out];rfl,Below.refl _ _⟩
  ·have e:Hid (takR 14=0):=HD (by decide +kernel);go_enter Tryz.func134,Tryz.ntmps134
   go_wp2
   go_ret;exact⟨by rw[e.out];rfl,Below.refl _ _⟩
  ·have e:Hid (takR 15=1):=HD (by decide +kernel);go_enter Tryz.func134,Tryz.ntmps134
   go_wp2
   go_ret;exact⟨by rw[e.out];rfl,Below.refl _ _⟩
  ·have e:Hid (takR 16=1):=HD (by decide +kernel);go_enter Tryz.func134,Tryz.ntmps134
   go_wp2
   go_ret;exact⟨by rw[e.out];rfl,Below.refl _ _⟩
  ·have e:Hid (takR 17=0):=HD (by decide +kernel);go_enter Tryz.func134,Tryz.ntmps134
   go_wp2
   go_ret;exact⟨by rw[e.out];rfl,Below.refl _ _⟩
  ·have e:Hid (takR 18=1):=HD (by decide +kernel);go_enter Tryz.func134,Tryz.ntmps134
   go_wp2
   go_ret;exact⟨by rw[e.out];rfl,Below.refl _ _⟩
  ·have e:Hid (takR 19=3):=HD (by decide +kernel);go_enter Tryz.func134,Tryz.ntmps134
   go_wp2
   go_ret;exact⟨by rw[e.out];rfl,Below.refl _ _⟩
  ·have e:Hid (takR 20=2):=HD (by decide +kernel);go_enter Tryz.func134,Tryz.ntmps134
   go_wp2
   go_ret;exact⟨by rw[e.out];rfl,Below.refl _ _⟩
  ·have e:Hid (takR 21=0):=HD (by decide +kernel);go_enter Tryz.func134,Tryz.ntmps134
   go_wp2
   go_ret;exact⟨by rw[e.out];rfl,Below.refl _ _⟩
  ·have e:Hid (takR 22=1):=HD (by decide +kernel);go_enter Tryz.func134,Tryz.ntmps134
   go_wp2
   go_ret;exact⟨by rw[e.out];rfl,Below.refl _ _⟩
  ·have e:Hid (takR 23=0):=HD (by decide +kernel);go_enter Tryz.func134,Tryz.ntmps134
   go_wp2
   go_ret;exact⟨by rw[e.out];rfl,Below.refl _ _⟩
set_option maxHeartbeats 8000000 in
theorem khasLit_c {w:World} {v:Value} {m:MethA} (h:MeV w v m) (i kind:Int) (i0:0≤i) (i1:i≤255) :
  Calls Tryz.prog 133 #[v,.int .i64 i,.int .i64 kind] w fun e w'=>e=.returned (.bool (hasLit m.lits i kind))∧Below w.heap.size w w':=by
 obtain⟨la,lc,ca,cc,rfl,hl,hc⟩:=h.ex;have hB:=HD (MeB.born h);have hW:=HD ((Below.refl w.heap.size w).alloc (Nat.le_refl _) (.cells #[.int .i64 m.args,.int .i64 m.temps,.slice la m.lits.length lc,.slice ca m.code.length cc] 63));have hle:=len_le hl.le;obtain⟨k,rfl⟩:∃ k:Nat,i=k:=⟨i.toNat,by omega⟩
 by_cases h0:k < m.lits.length
 ·have d0:decide ((k:Int) < (m.lits.length:Int))=true:=by simp;omega
  have k0:(0:Int)≤(k:Int):=by omega
  have k1:(k:Int) < (m.lits.length:Int):=by omega
  obtain⟨_,_,g,off,rfl,c0,c1⟩:=hB.out.py.1.at (litAt_some h0);have e:Hid (hasLit m.lits (k:Int) kind=((litAt m.lits (k:Int)).1 == kind)):=HD (by
   unfold hasLit;rw[d0,Bool.true_and];rfl)
  generalize (litAt m.lits (k:Int)).1=x at *;have a2:=hB.out.c2;go_enter Tryz.func133,Tryz.ntmps133
  go_upto_region 1 with fail
  generalize w.alloc (.cells #[.int .i64 m.args,.int .i64 m.temps,.slice (some ⟨g,off,none⟩) m.lits.length lc,.slice ca m.code.length cc] 63)=W at *
  go_wp2
  go_ret;exact⟨by rw[e.out];rfl,hW.out⟩
 ·have d0:decide ((k:Int) < (m.lits.length:Int))=false:=by simp;omega
  have e:Hid (hasLit m.lits (k:Int) kind=false):=HD (by unfold hasLit;rw[d0];rfl);have a2:=hB.out.c2;go_enter Tryz.func133,Tryz.ntmps133
  go_wp2
  go_ret;exact⟨by rw[e.out];rfl,hW.out⟩
def slR (m:MethA):Bool:=decide (0≤m.args) && decide (0≤m.temps) && decide (m.temps≤8 - m.args)
set_option maxHeartbeats 8000000 in
theorem kslots_c {w:World} {v:Value} {m:MethA} (h:MeV w v m):Calls Tryz.prog 112 #[v] w fun e w'=>e=.returned (.bool (slR m))∧Below w.heap.size w w':=by
 obtain⟨la,lc,ca,cc,rfl,hl,hc⟩:=h.ex;have hB:=HD (MeB.born h);have hW:=HD ((Below.refl w.heap.size w).alloc (Nat.le_refl _) (.cells #[.int .i64 m.args,.int .i64 m.temps,.slice la m.lits.length lc,.slice ca m.code.length cc] 63));obtain⟨p0,p1⟩:=h.a64;obtain⟨p2,p3⟩:=h.t64;have a0:=hB.out.c0;have a1:=hB.out.c1;go_enter Tryz.func112,Tryz.ntmps112
 go_upto_region 1 with fail
 clear h hl hc;generalize w.alloc (.cells #[.int .i64 m.args,.int .i64 m.temps,.slice la m.lits.length lc,.slice ca m.code.length cc] 63)=W at *;by_cases h0:0≤m.args
 ·have d0:decide (m.args ≥ 0)=true:=by simpa using h0
  have wk:IntKind.i64.wrap (8 - m.args)=8 - m.args:=by rw[IntKind.wrap_i64];omega
  by_cases h1:0≤m.temps
  ·have d1:decide (m.temps ≥ 0)=true:=by simpa using h1
   have e:Hid (slR m=decide (m.temps≤8 - m.args)):=HD (by unfold slR;rw[decide_eq_true h0,decide_eq_true h1];rfl)
   go_wp2
   go_ret;exact⟨by rw[e.out];rfl,hW.out⟩
  ·have d1:decide (m.temps ≥ 0)=false:=by simpa using h1
   have e:Hid (slR m=false):=HD (by unfold slR;rw[decide_eq_true h0,decide_eq_false h1];rfl)
   go_wp2
   go_ret;exact⟨by rw[e.out];rfl,hW.out⟩
 ·have d0:decide (m.args ≥ 0)=false:=by simpa using h0
  have e:Hid (slR m=false):=HD (by unfold slR;rw[decide_eq_false h0];rfl)
  go_wp2
  go_ret;exact⟨by rw[e.out];rfl,hW.out⟩
def endB (x:Int):Bool:=decide (x=14) || decide (x=19) || decide (x=16)
def endR (C:List Int):Bool:=if C.length < 2∨C.length % 2≠0 then false else endB (byAt C (C.length - 2))
set_option maxHeartbeats 8000000 in
theorem kend_c {w:World} {v:Value} {C:List Int} (h:ByV w v C):Calls Tryz.prog 113 #[v] w fun e w'=>e=.returned (.bool (endR C))∧w'=w:=by
 obtain⟨ca,cc,rfl,hcc,hcm⟩:=h.form;have hle:=len_le h.le;go_enter Tryz.func113,Tryz.ntmps113
 go_upto_region 1 with fail
 by_cases h2:C.length < 2
 ·have d2:decide ((C.length:Int) < 2)=true:=by simp;omega
  have e:Hid (endR C=false):=HD (if_pos (Or.inl h2))
  go_wp2
  go_ret;exact⟨by rw[e.out];rfl,rfl⟩
 have d2:decide ((C.length:Int) < 2)=false:=by simp;omega
 have hm:=mod2 (n:=C.length);rcases (show C.length % 2=1∨C.length % 2=0 by omega) with h1 | h1
 ·have e:Hid (endR C=false):=HD (if_pos (Or.inr (by omega)));rw[h1] at hm;replace hm:Int.tmod (C.length:Int) 2=1:=hm
  go_wp2
  go_ret;exact⟨by rw[e.out];rfl,rfl⟩
 rw[h1] at hm;replace hm:Int.tmod (C.length:Int) 2=0:=hm;have e:endR C=endB (byAt C (C.length - 2)):=if_neg (by omega);obtain⟨k,hk⟩:∃ k,k=C.length - 2:=⟨_,rfl⟩
 have wm:IntKind.i64.wrap ((C.length:Int) - 2)=(k:Int):=by rw[IntKind.wrap_i64];omega
 have k0:(0:Int)≤(k:Int):=by omega
 have k1:(k:Int) < (C.length:Int):=by omega
 obtain⟨bb,g,off,rfl,c0⟩:=h.at (byAt_some (C:=C) (k:=k) (by omega));rw[← hk] at e;generalize byAt C k=x at *;replace e:=HD e;clear hk
 go_upto_region 4 with fail
 clear d2 hm h1 h2;by_cases h14:x=14
 ·subst h14
  go_wp2
  go_ret;exact⟨by rw[e.out];rfl,rfl⟩
 by_cases h19:x=19
 ·subst h19
  go_wp2
  go_ret;exact⟨by rw[e.out];rfl,rfl⟩
 by_cases h16:x=16
 ·subst h16
  go_wp2
  go_ret;exact⟨by rw[e.out];rfl,rfl⟩
 have f14:(x == 14)=false:=by simpa using h14
 have f19:(x == 19)=false:=by simpa using h19
 have f16:(x == 16)=false:=by simpa using h16
 have e':Hid (endB x=false):=HD (by unfold endB;rw[decide_eq_false h14,decide_eq_false h19,decide_eq_false h16];rfl);clear h14 h19 h16
 go_wp2
 go_ret;exact⟨by rw[e.out,e'.out];rfl,rfl⟩
set_option maxHeartbeats 8000000 in
theorem krightLit_c {w:World} {u:Value} {U:UnitA} (h:UnK w u U) (k x:Int) :
  Calls Tryz.prog 125 #[.agg #[.int .i64 k,.int .i64 x],u] w fun e w'=>e=.returned (.bool (litR (k,x) U.names.length U.classes.length U.methods.length))∧Below w.heap.size w w':=by
 obtain⟨na,nc,ca,cc,ma,mc,oa,oc,rfl,hu⟩:=h.ex;clear h hu;generalize U.names.length=nn at *;generalize U.classes.length=nk at *;generalize U.methods.length=nm at *;generalize U.objects.length=no at *;generalize U.main=um at *;have hW:=HD (((Below.refl w.heap.size w).alloc (Nat.le_refl _) (.cells #[.int .i64 k,.int .i64 x] 68)).alloc (by simp only[World.size_alloc];omega) (.cells #[.slice na nn nc,.slice ca nk cc,.slice ma nm mc,.slice oa no oc,.int .i64 um] 27));by_cases h3:k=3
 ·subst h3;by_cases h0:-1073741824≤x
  ·have d0:decide (x ≥ -1073741824)=true:=by simpa using h0
   have e:Hid (litR (3,x) nn nk nm=decide (x≤1073741823)):=HD ((lit_num x nn nk nm).trans (by unfold num30;rw[decide_eq_true h0];rfl));go_enter Tryz.func125,Tryz.ntmps125
   go_wp2
   go_ret;exact⟨by rw[e.out];rfl,hW.out⟩
  ·have d0:decide (x ≥ -1073741824)=false:=by simp;omega
   have e:Hid (litR (3,x) nn nk nm=false):=HD ((lit_num x nn nk nm).trans (by unfold num30;rw[decide_eq_false h0];rfl));go_enter Tryz.func125,Tryz.ntmps125
   go_wp2
   go_ret;exact⟨by rw[e.out];rfl,hW.out⟩
 by_cases h5:k=5
 ·subst h5;have PN:=HD (fun w=>kisOne_c x (nn:Int) w);have e:Hid (litR (5,x) nn nk nm=(decide (0≤x) && decide (x < (nn:Int)))):=HD (lit_sel x nn nk nm);go_enter Tryz.func125,Tryz.ntmps125
  go_wp2_with fail
  refine (PN.out _).mono ?_;rintro e1 w1 ⟨rfl,hw⟩;subst w1
  go_wp2
  go_ret;exact⟨by rw[e.out];rfl,hW.out⟩
 by_cases h6:k=6
 ·subst h6;have PN:=HD (fun w=>kisOne_c x (nk:Int) w);have e:Hid (litR (6,x) nn nk nm=(decide (0≤x) && decide (x < (nk:Int)))):=HD (lit_cls x nn nk nm);go_enter Tryz.func125,Tryz.ntmps125
  go_wp2_with fail
  refine (PN.out _).mono ?_;rintro e1 w1 ⟨rfl,hw⟩;subst w1
  go_wp2
  go_ret;exact⟨by rw[e.out];rfl,hW.out⟩
 by_cases h7:k=7
 ·subst h7;have PN:=HD (fun w=>kisOne_c x (nm:Int) w);have e:Hid (litR (7,x) nn nk nm=(decide (0≤x) && decide (x < (nm:Int)))):=HD (lit_blk x nn nk nm);go_enter Tryz.func125,Tryz.ntmps125
  go_wp2_with fail
  refine (PN.out _).mono ?_;rintro e1 w1 ⟨rfl,hw⟩;subst w1
  go_wp2
  go_ret;exact⟨by rw[e.out];rfl,hW.out⟩
 have e:Hid (litR (k,x) nn nk nm=false):=HD (lit_no nn nk nm h3 h5 h6 h7);have f3:(k == 3)=false:=by simpa using h3
 have f5:(k == 5)=false:=by simpa using h5
 have f6:(k == 6)=false:=by simpa using h6
 have f7:(k == 7)=false:=by simpa using h7
 clear h3 h5 h6 h7;go_enter Tryz.func125,Tryz.ntmps125
 go_wp2
 go_ret;exact⟨by rw[e.out];rfl,hW.out⟩
structure LiS (w0 wr:World) (q:Nat) (v u:Value) (L:List (Int × Int)) (U:UnitA) (na ka ma oa:Option Addr) (nc kc mc oc:Nat):Prop where
 l:PrV wr v L
 u:UnB wr q u U na ka ma oa nc kc mc oc
 bel:Below w0.heap.size w0 wr
theorem LiS.up {w0 w w1:World} {q:Nat} {v u:Value} {L:List (Int × Int)} {U:UnitA} {na ka ma oa:Option Addr} {nc kc mc oc:Nat} (h:LiS w0 w q v u L U na ka ma oa nc kc mc oc) (b:Below w.heap.size w w1):LiS w0 w1 q v u L U na ka ma oa nc kc mc oc :=
 ⟨h.l.up b,h.u.up b,h.bel.trans (b.mono h.bel.size)⟩
set_option maxHeartbeats 16000000 in
theorem klits_c {w:World} {v u:Value} {L:List (Int × Int)} {U:UnitA} (h:PrV w v L) (hu:UnK w u U) :
  Calls Tryz.prog 114 #[v,u] w fun e w'=>e=.returned (.bool (L.all (fun x=>litR x U.names.length U.classes.length U.methods.length)))∧Below w.heap.size w w':=by
 obtain⟨la,lc,rfl,hlc,hlm,_⟩:=h.ex;obtain⟨na,nc,ka,kc,ma,mc,oa,oc,rfl,_⟩:=hu.ex;have hw1:=(Below.refl w.heap.size w).alloc (Nat.le_refl _) (.cells #[.slice na U.names.length nc,.slice ka U.classes.length kc,.slice ma U.methods.length mc,.slice oa U.objects.length oc,.int .i64 U.main] 27);have S0:Hid (LiS w (w.alloc (.cells #[.slice na U.names.length nc,.slice ka U.classes.length kc,.slice ma U.methods.length mc,.slice oa U.objects.length oc,.int .i64 U.main] 27)) w.heap.size _ _ L U na ka ma oa nc kc mc oc):=HD ⟨h.up hw1,UnB.born hu,hw1⟩;have hle:=len_le h.le;clear h hu hw1;have hst:Hid (L.all (fun x=>litR x U.names.length U.classes.length U.methods.length)=(L.drop 0).all (fun x=>litR x U.names.length U.classes.length U.methods.length)):=HD (by rw[List.drop_zero]);go_enter Tryz.func114,Tryz.ntmps114
 go_upto_region 1 with fail
 generalize w.alloc (.cells #[.slice na U.names.length nc,.slice ka U.classes.length kc,.slice ma U.methods.length mc,.slice oa U.objects.length oc,.int .i64 U.main] 27)=W at *
 go_wp2
 go_loopw [9] (fun i9 wr=>∃ k:Nat,k≤L.length∧i9=.int .i64 k∧Hid (L.all (fun x=>litR x U.names.length U.classes.length U.methods.length)=(L.drop k).all (fun x=>litR x U.names.length U.classes.length U.methods.length))∧Hid (LiS w wr w.heap.size (.slice la L.length lc) (.agg #[.slice na U.names.length nc,.slice ka U.classes.length kc,.slice ma U.methods.length mc,.slice oa U.objects.length oc,.int .i64 U.main]) L U na ka ma oa nc kc mc oc)) (fun i9 _=>L.length - (intOf i9).toNat)
 case atStart=>exact⟨0,by omega,rfl,hst,S0⟩
 case round =>
  clear hst S0;obtain⟨j,hj,rfl,hA,S⟩:=hrel;by_cases hlt:j < L.length
  ·have d1:decide ((j:Int) < (L.length:Int))=true:=by simp;omega
   have j0:(0:Int)≤(j:Int):=by omega
   have j1:(j:Int) < (L.length:Int):=by omega
   obtain⟨⟨lk,lx⟩,hx⟩:∃ x,L[j]?=some x:=⟨L[j]'hlt,by simp⟩
   obtain⟨_,_,g',off',rfl,l0,l1⟩:=S.out.l.at hx;have hnx:=all_next (f:=fun x=>litR x U.names.length U.classes.length U.methods.length) hx;have hS1:=S.out.up ((Below.refl _ _).alloc (Nat.le_refl _) (.cells #[.int .i64 lk,.int .i64 lx] 68));have PL:=HD (krightLit_c hS1.u.un lk lx);replace hS1:=HD hS1;have u0:=hS1.out.u.c0;have u1:=hS1.out.u.c1;have u2':=hS1.out.u.c2;have u3:=hS1.out.u.c3;have u4':=hS1.out.u.c4;clear hx S;cases hb:litR (lk,lx) U.names.length U.classes.length U.methods.length with
   | true =>
    rw[hb,Bool.true_and] at hnx;rw[hb] at PL;have hA':=HD (hA.out.trans hnx);clear hnx hb hA
    go_wp2_with fail
    with_reducible refine PL.out.mono ?_
    rintro e1 w2 ⟨rfl,hb2⟩
    go_wp2
    go_roundw
    case rel=>exact⟨j+1,by omega,by go_num,hA',HD (hS1.out.up hb2)⟩
    case measure=>simp[intOf];omega
   | false =>
    rw[hb,Bool.false_and] at hnx;rw[hb] at PL;have eT:=HD (hA.out.trans hnx);clear hnx hb hA
    go_wp2_with fail
    with_reducible refine PL.out.mono ?_
    rintro e1 w2 ⟨rfl,hb2⟩
    go_wp2
    go_ret;exact⟨by rw[eT.out];rfl,(hS1.out.up hb2).bel⟩
  ·have d1:decide ((j:Int) < (L.length:Int))=false:=by simp;omega
   have hall:=hA.out;rw[show j=L.length by omega,List.drop_length] at hall;replace hall:=HD hall;clear hA
   go_wp2
   go_ret;exact⟨by rw[hall.out];rfl,S.out.bel⟩
theorem two_at {w:World} {q:Nat} {v0 v1 u0 u1:Value} (c0:w.cell? ⟨q,0,none⟩=some u0) (c1:w.cell? ⟨q,1,none⟩=some u1):((w.setCell ⟨q,0,none⟩ v0).setCell ⟨q,1,none⟩ v1).cell? ⟨q,0,none⟩=some v0∧((w.setCell ⟨q,0,none⟩ v0).setCell ⟨q,1,none⟩ v1).cell? ⟨q,1,none⟩=some v1 :=
 ⟨(World.cell?_setCell_other _ _ _ _ (by simp)).trans (World.cell?_setCell_same _ _ _ c0),World.cell?_setCell_same _ _ _ ((World.cell?_setCell_other _ _ _ _ (by simp)).trans c1)⟩
set_option maxHeartbeats 8000000 in
theorem kfetch_c {w:World} {v:Value} {m:MethA} (h:MeV w v m) (pc:Int) (hp:In64 pc) :
  Calls Tryz.prog 132 #[v,.int .i64 pc] w fun e w'=>e=.returned (.tuple #[.agg #[.int .i64 (fetR m.code pc).1,.int .i64 (fetR m.code pc).2.1],.bool (fetR m.code pc).2.2])∧Below w.heap.size w w':=by
 obtain⟨la,lc,ca,cc,rfl,hl,hc⟩:=h.ex;have hB0:=MeB.born h;have hW0:=(Below.refl w.heap.size w).alloc (Nat.le_refl _) (.cells #[.int .i64 m.args,.int .i64 m.temps,.slice la m.lits.length lc,.slice ca m.code.length cc] 63);have hle:=len_le hc.le;obtain⟨p0,p1⟩:=hp;have wl:IntKind.i64.wrap ((m.code.length:Int) - 1)=(m.code.length:Int) - 1:=by rw[IntKind.wrap_i64];omega
 have hB1:=hB0.up ((Below.refl _ _).alloc (Nat.le_refl _) (.cells #[.int .i64 0,.int .i64 0] 164));have hW1:=hW0.trans (((Below.refl _ _).alloc (Nat.le_refl _) (.cells #[.int .i64 0,.int .i64 0] 164)).mono hW0.size);have x0:((w.alloc (.cells #[.int .i64 m.args,.int .i64 m.temps,.slice la m.lits.length lc,.slice ca m.code.length cc] 63)).alloc (.cells #[.int .i64 0,.int .i64 0] 164)).cell? ⟨(w.alloc (.cells #[.int .i64 m.args,.int .i64 m.temps,.slice la m.lits.length lc,.slice ca m.code.length cc] 63)).heap.size,0,none⟩=some (.int .i64 0):=by simp
 have x1:((w.alloc (.cells #[.int .i64 m.args,.int .i64 m.temps,.slice la m.lits.length lc,.slice ca m.code.length cc] 63)).alloc (.cells #[.int .i64 0,.int .i64 0] 164)).cell? ⟨(w.alloc (.cells #[.int .i64 m.args,.int .i64 m.temps,.slice la m.lits.length lc,.slice ca m.code.length cc] 63)).heap.size,1,none⟩=some (.int .i64 0):=by simp
 have hs:(w.alloc (.cells #[.int .i64 m.args,.int .i64 m.temps,.slice la m.lits.length lc,.slice ca m.code.length cc] 63)).heap.size=w.heap.size+1:=by simp
 rw[hs] at x0 x1;have a3:=hB1.c3;have fz:∀ k,((w.alloc (.cells #[.int .i64 m.args,.int .i64 m.temps,.slice la m.lits.length lc,.slice ca m.code.length cc] 63)).alloc (.cells #[.int .i64 0,.int .i64 0] 164)).frozen? ⟨w.heap.size+1,k,none⟩=false:=fun k=>by rw[← hs];simp
 replace hB0:=HD hB1;replace hW0:=HD hW1;go_enter Tryz.func132,Tryz.ntmps132
 go_upto_region 1 with fail
 clear h hB1 hW1 hs;generalize (w.alloc (.cells #[.int .i64 m.args,.int .i64 m.temps,.slice la m.lits.length lc,.slice ca m.code.length cc] 63)).alloc (.cells #[.int .i64 0,.int .i64 0] 164)=W at *;obtain⟨Q,hQ⟩:∃ Q,Q=w.heap.size+1:=⟨_,rfl⟩
 rw[← hQ] at x0 x1 fz ⊢;have fz0:=fz 0;have fz1:=fz 1;have hQ1:=HD (show w.heap.size≤Q by omega);clear hQ;by_cases h0:pc < 0
 ·have d1:decide (pc < 0)=true:=by simpa using h0
  have e:=HD (fet_no (C:=m.code) (Or.inl h0))
  go_wp2
  obtain⟨r0,r1⟩:=two_at (v0:=.int .i64 0) (v1:=.int .i64 0) x0 x1;refine bodyPost_ret (by simp[results,Tryz.results132,go_sem,r0,r1];try rfl) rfl ?_;refine⟨by rw[e.out],?_⟩;exact (hW0.out.setCell hQ1.out _).setCell hQ1.out _
 ·have d1:decide (pc < 0)=false:=by simpa using h0
  obtain⟨k,rfl⟩:∃ k:Nat,pc=k:=⟨pc.toNat,by omega⟩
  have hm:=mod2 (n:=k);rcases (show k % 2=1∨k % 2=0 by omega) with h1 | h1
  ·have e:=HD (fet_no (C:=m.code) (pc:=(k:Int)) (Or.inr (Or.inl (by omega))));rw[h1] at hm;replace hm:Int.tmod (k:Int) 2=1:=hm
   go_wp2
   obtain⟨r0,r1⟩:=two_at (v0:=.int .i64 0) (v1:=.int .i64 0) x0 x1;refine bodyPost_ret (by simp[results,Tryz.results132,go_sem,r0,r1];try rfl) rfl ?_;refine⟨by rw[e.out],?_⟩;exact (hW0.out.setCell hQ1.out _).setCell hQ1.out _
  ·rw[h1] at hm;replace hm:Int.tmod (k:Int) 2=0:=hm;by_cases h2:(k:Int) > (m.code.length:Int) - 2
   ·have e:=HD (fet_no (C:=m.code) (pc:=(k:Int)) (Or.inr (Or.inr h2)));have d2:decide ((k:Int) ≥ (m.code.length:Int) - 1)=true:=by simp;omega
    go_wp2
    obtain⟨r0,r1⟩:=two_at (v0:=.int .i64 0) (v1:=.int .i64 0) x0 x1;refine bodyPost_ret (by simp[results,Tryz.results132,go_sem,r0,r1];try rfl) rfl ?_;refine⟨by rw[e.out],?_⟩;exact (hW0.out.setCell hQ1.out _).setCell hQ1.out _
   ·have e:=fet_yes (C:=m.code) (pc:=(k:Int)) (by omega) (by omega) (by omega);have d2:decide ((k:Int) ≥ (m.code.length:Int) - 1)=false:=by simp;omega
    rw[Int.toNat_natCast] at e;replace e:=HD e;have k0:(0:Int)≤(k:Int):=by omega
    have k1:(k:Int) < (m.code.length:Int):=by omega
    have k2:(0:Int)≤(k:Int)+1:=by omega
    have k3:(k:Int)+1 < (m.code.length:Int):=by omega
    have wk:IntKind.i64.wrap ((k:Int)+1)=(k:Int)+1:=by rw[IntKind.wrap_i64];omega
    obtain⟨b0,g,off,rfl,c0⟩:=hB0.out.py.2.at (byAt_some (C:=m.code) (k:=k) (by omega));obtain⟨b1,g',off',eg,c1⟩:=hB0.out.py.2.at (byAt_some (C:=m.code) (k:=k+1) (by omega));cases eg;generalize byAt m.code k=x at *;generalize byAt m.code (k+1)=y at *;have wx:IntKind.i64.wrap x=x:=by rw[IntKind.wrap_i64];omega
    have wy:IntKind.i64.wrap y=y:=by rw[IntKind.wrap_i64];omega
    go_upto_region 3 with fail
    go_still_tail 14,(by kernel_rfl)
    change wpList _ _ _ _ _ (World.drew _)
    go_wp2
    obtain⟨r0,r1⟩:=two_at (v0:=.int .i64 x) (v1:=.int .i64 y) x0 x1;replace hW0:=HD ((hW0.out.setCell hQ1.out (a:=w) (p:=⟨Q,0,none⟩) (.int .i64 x)).setCell hQ1.out (p:=⟨Q,1,none⟩) (.int .i64 y));generalize (W.setCell ⟨Q,0,none⟩ (.int .i64 x)).setCell ⟨Q,1,none⟩ (.int .i64 y)=W9 at *;replace r0:W9.drew.cell? ⟨Q,0,none⟩=_:=r0;replace r1:W9.drew.cell? ⟨Q,1,none⟩=_:=r1;refine bodyPost_ret (by simp[results,Tryz.results132,go_sem,r0,r1];try rfl) rfl ?_;exact⟨by rw[e.out],hW0.out.drew⟩
theorem tak_ne {a:Int} (h0:0≤a) (h1:a≤255):(takR a != -1)=decide (a≤23):=by
 by_cases h:a≤23
 ·rcases (show a=0∨a=1∨a=2∨a=3∨a=4∨a=5∨a=6∨a=7∨a=8∨a=9∨a=10∨a=11∨a=12∨a=13∨a=14∨a=15∨a=16∨a=17∨a=18∨a=19∨a=20∨a=21∨a=22∨a=23 by omega) with rfl | rfl | rfl | rfl | rfl | rfl | rfl | rfl | rfl | rfl | rfl | rfl | rfl | rfl | rfl | rfl | rfl | rfl | rfl | rfl | rfl | rfl | rfl | rfl <;> decide +kernel
 ·rw[decide_eq_false h,show takR a=-1 from if_pos (Or.inr (by omega))];rfl
structure InS (w0 wr:World) (q q2:Nat) (v:Value) (m:MethA) (la ca:Option Addr) (lc cc:Nat) (op arg:Int):Prop where
 b:MeB wr q v m la ca lc cc
 x0:wr.cell? ⟨q2,0,none⟩=some (.int .i64 op)
 x1:wr.cell? ⟨q2,1,none⟩=some (.int .i64 arg)
 bel:Below w0.heap.size w0 wr
theorem InS.up {w0 w w1:World} {q q2:Nat} {v:Value} {m:MethA} {la ca:Option Addr} {lc cc:Nat} {op arg:Int} (h:InS w0 w q q2 v m la ca lc cc op arg) (b:Below w.heap.size w w1):InS w0 w1 q q2 v m la ca lc cc op arg :=
 ⟨h.b.up b,cell_up b h.x0,cell_up b h.x1,h.bel.trans (b.mono h.bel.size)⟩
set_option maxHeartbeats 16000000 in
theorem krightAt_c {w:World} {v:Value} {m:MethA} (h:MeV w v m) (pc:Nat) (h128:m.code.length≤128) (hp:pc+2≤m.code.length) (he:pc % 2=0) (ha:0≤m.args∧m.args≤8) (ht:0≤m.temps∧m.temps≤8) :
  Calls Tryz.prog 126 #[v,.int .i64 (pc:Int)] w fun e w'=>e=.returned (.bool (insR m (pc:Int) (byAt m.code pc) (byAt m.code (pc+1))))∧Below w.heap.size w w':=by
 obtain⟨la,lc,ca,cc,rfl,hl,hc⟩:=h.ex;obtain⟨b0,_⟩:=hc.at (byAt_some (C:=m.code) (k:=pc) (by omega));obtain⟨b1,_⟩:=hc.at (byAt_some (C:=m.code) (k:=pc+1) (by omega));have hf:=fet_yes (C:=m.code) (pc:=(pc:Int)) (by omega) (by omega) (by omega);rw[Int.toNat_natCast] at hf;generalize byAt m.code pc=op at *;generalize byAt m.code (pc+1)=arg at *;have wa:IntKind.i64.wrap (m.args+m.temps)=m.args+m.temps:=by rw[IntKind.wrap_i64];omega
 have wp:IntKind.i64.wrap ((pc:Int)+2)=(pc:Int)+2:=by rw[IntKind.wrap_i64];omega
 have w2:IntKind.i64.wrap (2*arg)=2*arg:=by rw[IntKind.wrap_i64];omega
 have w3:IntKind.i64.wrap ((pc:Int)+2+2*arg)=(pc:Int)+2+2*arg:=by rw[IntKind.wrap_i64];omega
 have hB:=MeB.born h;have hW:=(Below.refl w.heap.size w).alloc (Nat.le_refl _) (.cells #[.int .i64 m.args,.int .i64 m.temps,.slice la m.lits.length lc,.slice ca m.code.length cc] 63);have PF:=kfetch_c hB.me (pc:Int) ⟨by omega,by omega⟩;rw[hf] at PF;replace PF:=HD PF;replace hB:=HD hB;replace hW:=HD hW;clear hf hl hc h;have a0:=hB.out.c0;have a1:=hB.out.c1;have a2:=hB.out.c2;have a3:=hB.out.c3;go_enter Tryz.func126,Tryz.ntmps126
 go_upto_region 1 with fail
 generalize w.alloc (.cells #[.int .i64 m.args,.int .i64 m.temps,.slice la m.lits.length lc,.slice ca m.code.length cc] 63)=W at *
 go_wp2_with fail
 with_reducible refine PF.out.mono ?_
 rintro e1 w1 ⟨rfl,hb⟩;have S:Hid (InS w (w1.alloc (.cells #[.int .i64 op,.int .i64 arg] 164)) w.heap.size w1.heap.size _ m la ca lc cc op arg):=HD ⟨(hB.out.up hb).up ((Below.refl _ _).alloc (Nat.le_refl _) _),by simp,by simp,(hW.out.trans (hb.mono hW.out.size)).trans (((Below.refl _ _).alloc (Nat.le_refl _) _).mono (hW.out.trans (hb.mono hW.out.size)).size)⟩;clear hb PF a0 a1 a2 a3 hB hW
 go_upto_region 2 with fail
 generalize w1.alloc (.cells #[.int .i64 op,.int .i64 arg] 164)=W1 at *;obtain⟨Q,hQ⟩:∃ Q,Q=w1.heap.size:=⟨_,rfl⟩
 rw[← hQ] at S ⊢;replace hQ:=HD hQ;have a0:=S.out.b.c0;have a1:=S.out.b.c1;have a2:=S.out.b.c2;have a3:=S.out.b.c3;have x0:=S.out.x0;have x1:=S.out.x1;by_cases hop:op≤21
 ·rcases (show op=0∨op=1∨op=2∨op=3∨op=4∨op=5∨op=6∨op=7∨op=8∨op=9∨op=10∨op=11∨op=12∨op=13∨op=14∨op=15∨op=16∨op=17∨op=18∨op=19∨op=20∨op=21 by omega) with rfl | rfl | rfl | rfl | rfl | rfl | rfl | rfl | rfl | rfl | rfl | rfl | rfl | rfl | rfl | rfl | rfl | rfl | rfl | rfl | rfl | rfl
  ·have e:Hid (insR m (pc:Int) 0 arg=decide (arg < m.args+m.temps)):=HD rfl
   go_wp2
   go_ret;exact⟨by rw[e.out];rfl,S.out.bel⟩
  ·have e:Hid (insR m (pc:Int) 1 arg=decide (arg < 62)):=HD rfl
   go_wp2
   go_ret;exact⟨by rw[e.out];rfl,S.out.bel⟩
  ·have e:Hid (insR m (pc:Int) 2 arg=hasLit m.lits arg 3):=HD rfl;have PL:=HD (khasLit_c S.out.b.me arg 3 b1.1 b1.2)
   go_wp2_with fail
   with_reducible refine PL.out.mono ?_
   rintro e2 w2' ⟨rfl,hb⟩
   go_wp2
   go_ret;exact⟨by rw[e.out];rfl,(S.out.up hb).bel⟩
  ·have e:Hid (insR m (pc:Int) 3 arg=true):=HD rfl
   go_wp2
   go_ret;exact⟨by rw[e.out];rfl,S.out.bel⟩
  ·have e:Hid (insR m (pc:Int) 4 arg=true):=HD rfl
   go_wp2
   go_ret;exact⟨by rw[e.out];rfl,S.out.bel⟩
  ·have e:Hid (insR m (pc:Int) 5 arg=true):=HD rfl
   go_wp2
   go_ret;exact⟨by rw[e.out];rfl,S.out.bel⟩
  ·have e:Hid (insR m (pc:Int) 6 arg=true):=HD rfl
   go_wp2
   go_ret;exact⟨by rw[e.out];rfl,S.out.bel⟩
  ·have e:Hid (insR m (pc:Int) 7 arg=true):=HD rfl
   go_wp2
   go_ret;exact⟨by rw[e.out];rfl,S.out.bel⟩
  ·have e:Hid (insR m (pc:Int) 8 arg=true):=HD rfl
   go_wp2
   go_ret;exact⟨by rw[e.out];rfl,S.out.bel⟩
  ·have e:Hid (insR m (pc:Int) 9 arg=true):=HD rfl
   go_wp2
   go_ret;exact⟨by rw[e.out];rfl,S.out.bel⟩
  ·have e:Hid (insR m (pc:Int) 10 arg=decide (arg < m.args+m.temps)):=HD rfl
   go_wp2
   go_ret;exact⟨by rw[e.out];rfl,S.out.bel⟩
  ·have e:Hid (insR m (pc:Int) 11 arg=decide (arg < 62)):=HD rfl
   go_wp2
   go_ret;exact⟨by rw[e.out];rfl,S.out.bel⟩
  ·have e:Hid (insR m (pc:Int) 12 arg=hasLit m.lits arg 5):=HD rfl;have PL:=HD (khasLit_c S.out.b.me arg 5 b1.1 b1.2)
   go_wp2_with fail
   with_reducible refine PL.out.mono ?_
   rintro e2 w2' ⟨rfl,hb⟩
   go_wp2
   go_ret;exact⟨by rw[e.out];rfl,(S.out.up hb).bel⟩
  ·have e:Hid (insR m (pc:Int) 13 arg=hasLit m.lits arg 5):=HD rfl;have PL:=HD (khasLit_c S.out.b.me arg 5 b1.1 b1.2)
   go_wp2_with fail
   with_reducible refine PL.out.mono ?_
   rintro e2 w2' ⟨rfl,hb⟩
   go_wp2
   go_ret;exact⟨by rw[e.out];rfl,(S.out.up hb).bel⟩
  ·have e:Hid (insR m (pc:Int) 14 arg=true):=HD rfl
   go_wp2
   go_ret;exact⟨by rw[e.out];rfl,S.out.bel⟩
  ·have e:Hid (insR m (pc:Int) 15 arg=decide ((pc:Int)+2+2*arg < (m.code.length:Int))):=HD rfl
   go_wp2
   go_ret;exact⟨by rw[e.out];rfl,S.out.bel⟩
  ·have e:Hid (insR m (pc:Int) 16 arg=decide (2*arg≤(pc:Int))):=HD rfl
   go_wp2
   go_ret;exact⟨by rw[e.out];rfl,S.out.bel⟩
  ·have e:Hid (insR m (pc:Int) 17 arg=decide ((pc:Int)+2+2*arg < (m.code.length:Int))):=HD rfl
   go_wp2
   go_ret;exact⟨by rw[e.out];rfl,S.out.bel⟩
  ·have e:Hid (insR m (pc:Int) 18 arg=hasLit m.lits arg 7):=HD rfl;have PL:=HD (khasLit_c S.out.b.me arg 7 b1.1 b1.2)
   go_wp2_with fail
   with_reducible refine PL.out.mono ?_
   rintro e2 w2' ⟨rfl,hb⟩
   go_wp2
   go_ret;exact⟨by rw[e.out];rfl,(S.out.up hb).bel⟩
  ·have e:Hid (insR m (pc:Int) 19 arg=true):=HD rfl
   go_wp2
   go_ret;exact⟨by rw[e.out];rfl,S.out.bel⟩
  ·have e:Hid (insR m (pc:Int) 20 arg=(hasLit m.lits arg 6 && decide ((litAt m.lits arg).2 > 1))):=HD rfl;obtain⟨k,rfl⟩:∃ k:Nat,arg=k:=⟨arg.toNat,by omega⟩
   have PL:=HD (khasLit_c S.out.b.me (k:Int) 6 b1.1 b1.2);cases hh:hasLit m.lits (k:Int) 6 with
   | true =>
    have hk:k < m.lits.length:=by
     unfold hasLit at hh;simp only[Bool.and_eq_true,decide_eq_true_eq] at hh;omega
    have k0:(0:Int)≤(k:Int):=by omega
    have k1:(k:Int) < (m.lits.length:Int):=by omega
    obtain⟨_,_,g,off,rfl,c0,c1⟩:=S.out.b.py.1.at (litAt_some hk);rw[hh] at e PL;clear hh;have d2:decide ((litAt m.lits (k:Int)).2 > 1)=decide ((litAt m.lits (k:Int)).2 ≥ 2):=decide_eq_decide.2 (by omega);rw[d2] at e;clear d2;generalize (litAt m.lits (k:Int)).2=x at *
    go_wp2_with fail
    with_reducible refine PL.out.mono ?_
    rintro e2 w2' ⟨rfl,hb⟩;have a0:=cell_up hb a0;have a1:=cell_up hb a1;have a2:=cell_up hb a2;have a3:=cell_up hb a3;have x0:=cell_up hb x0;have x1:=cell_up hb x1;have c1:=cell_up hb c1
    go_wp2
    go_ret;exact⟨by rw[e.out];rfl,(S.out.up hb).bel⟩
   | false =>
    rw[hh] at e PL;clear hh
    go_wp2_with fail
    with_reducible refine PL.out.mono ?_
    rintro e2 w2' ⟨rfl,hb⟩
    go_wp2
    go_ret;exact⟨by rw[e.out];rfl,(S.out.up hb).bel⟩
  ·have e:Hid (insR m (pc:Int) 21 arg=decide (arg≤23)):=HD rfl;have hn:=tak_ne b1.1 b1.2;have PT:=HD (ktakes_c arg (in64_of (by omega) (by omega)) W1);generalize takR arg=tk at *
   go_wp2_with fail
   with_reducible refine PT.out.mono ?_
   rintro e2 w2' ⟨rfl,hb⟩
   go_wp2
   go_ret;exact⟨by rw[e.out];rfl,(S.out.up hb).bel⟩
 ·have e:Hid (insR m (pc:Int) op arg=false):=HD ((ins_other (by omega)).trans (decide_eq_false hop));have f0:(op == 0)=false:=by simp;omega
  have f1:(op == 1)=false:=by simp;omega
  have f2:(op == 2)=false:=by simp;omega
  have f3:(op == 3)=false:=by simp;omega
  have f4:(op == 4)=false:=by simp;omega
  have f5:(op == 5)=false:=by simp;omega
  have f6:(op == 6)=false:=by simp;omega
  have f7:(op == 7)=false:=by simp;omega
  have f8:(op == 8)=false:=by simp;omega
  have f9:(op == 9)=false:=by simp;omega
  have f10:(op == 10)=false:=by simp;omega
  have f11:(op == 11)=false:=by simp;omega
  have f12:(op == 12)=false:=by simp;omega
  have f13:(op == 13)=false:=by simp;omega
  have f14:(op == 14)=false:=by simp;omega
  have f15:(op == 15)=false:=by simp;omega
  have f16:(op == 16)=false:=by simp;omega
  have f17:(op == 17)=false:=by simp;omega
  have f18:(op == 18)=false:=by simp;omega
  have f19:(op == 19)=false:=by simp;omega
  have f20:(op == 20)=false:=by simp;omega
  have f21:(op == 21)=false:=by simp;omega
  clear hop
  go_wp2
  go_ret;exact⟨by rw[e.out];rfl,S.out.bel⟩
structure MeS (w0 wr:World) (q:Nat) (v:Value) (m:MethA) (la ca:Option Addr) (lc cc:Nat):Prop where
 b:MeB wr q v m la ca lc cc
 bel:Below w0.heap.size w0 wr
theorem MeS.up {w0 w w1:World} {q:Nat} {v:Value} {m:MethA} {la ca:Option Addr} {lc cc:Nat} (h:MeS w0 w q v m la ca lc cc) (b:Below w.heap.size w w1):MeS w0 w1 q v m la ca lc cc :=
 ⟨h.b.up b,h.bel.trans (b.mono h.bel.size)⟩
set_option maxHeartbeats 16000000 in
theorem krightCode_c {w:World} {v:Value} {m:MethA} (h:MeV w v m) (h128:m.code.length≤128) (hev:m.code.length % 2=0) (ha:0≤m.args∧m.args≤8) (ht:0≤m.temps∧m.temps≤8) :
  Calls Tryz.prog 115 #[v] w fun e w'=>e=.returned (.bool (insF m (m.code.length / 2) 0))∧Below w.heap.size w w':=by
 obtain⟨la,lc,ca,cc,rfl,hl,hc⟩:=h.ex;have S0:Hid (MeS w (w.alloc (.cells #[.int .i64 m.args,.int .i64 m.temps,.slice la m.lits.length lc,.slice ca m.code.length cc] 63)) w.heap.size _ m la ca lc cc):=HD ⟨MeB.born h,(Below.refl w.heap.size w).alloc (Nat.le_refl _) _⟩;have hle:=len_le hc.le;obtain⟨N,hN⟩:∃ N,N=m.code.length / 2:=⟨_,rfl⟩
 have hN2:m.code.length=2*N:=by omega
 have hst2:Hid (insF m (m.code.length / 2) 0=insF m (N - 0) (2*0)):=HD (by rw[hN];rfl);replace hN2:=HD hN2;replace h128:=HD h128;clear hN hev hl hc h;go_enter Tryz.func115,Tryz.ntmps115
 go_upto_region 1 with fail
 generalize w.alloc (.cells #[.int .i64 m.args,.int .i64 m.temps,.slice la m.lits.length lc,.slice ca m.code.length cc] 63)=W at *
 go_wp2
 go_loopw [3] (fun i3 wr=>∃ t:Nat,t≤N∧i3=.int .i64 ((2*t:Nat):Int)∧Hid (insF m (m.code.length / 2) 0=insF m (N - t) (2*t))∧Hid (MeS w wr w.heap.size (.agg #[.int .i64 m.args,.int .i64 m.temps,.slice la m.lits.length lc,.slice ca m.code.length cc]) m la ca lc cc)) (fun i3 _=>2*N - (intOf i3).toNat)
 case atStart=>exact⟨0,by omega,rfl,hst2,S0⟩
 case round =>
  clear hst2 S0;obtain⟨t,ht2,rfl,hI,S⟩:=hrel;have q0:=S.out.b.c0;have q1:=S.out.b.c1;have q2:=S.out.b.c2;have q3:=S.out.b.c3;by_cases hlt2:t < N
  ·have d2':decide (((2*t:Nat):Int) < (m.code.length:Int))=true:=by have:=hN2.out;simp;omega
   have d3':((2*t:Nat):Int) < (m.code.length:Int):=by have:=hN2.out;omega
   have wt:IntKind.i64.wrap (((2*t:Nat):Int)+2)=((2*(t+1):Nat):Int):=by have:=h128.out;have:=hN2.out;rw[IntKind.wrap_i64];omega
   have PI:=HD (krightAt_c S.out.b.me (2*t) h128.out (by have:=hN2.out;omega) (by omega) ha ht);have hnx:=ins_next (m:=m) hlt2;cases hb:insR m ((2*t:Nat):Int) (byAt m.code (2*t)) (byAt m.code (2*t+1)) with
   | true =>
    rw[hb,Bool.true_and] at hnx;rw[hb] at PI;have hI':=HD (hI.out.trans hnx);clear hnx hb hI;generalize hTT:((2*t:Nat):Int)=tt at *
    go_wp2_with fail
    with_reducible refine PI.out.mono ?_
    rintro e1 w2 ⟨rfl,hb2⟩
    go_wp2
    go_roundw
    case rel=>exact⟨t+1,by omega,rfl,hI',HD (S.out.up hb2)⟩
    case measure=>subst hTT;simp[intOf];have:=hN2.out;omega
   | false =>
    rw[hb,Bool.false_and] at hnx;rw[hb] at PI;have eT:=HD (hI.out.trans hnx);clear hnx hb hI;generalize hTT:((2*t:Nat):Int)=tt at *
    go_wp2_with fail
    with_reducible refine PI.out.mono ?_
    rintro e1 w2 ⟨rfl,hb2⟩
    go_wp2
    go_ret;exact⟨by rw[eT.out];rfl,(S.out.up hb2).bel⟩
  ·have d2':decide (((2*t:Nat):Int) < (m.code.length:Int))=false:=by have:=hN2.out;simp;omega
   have d3':¬ ((2*t:Nat):Int) < (m.code.length:Int):=by have:=hN2.out;omega
   have hI':=hI.out;rw[show N - t=0 by omega,insF] at hI';replace hI':=HD hI';clear hI;generalize hTT:((2*t:Nat):Int)=tt at *
   go_wp2
   go_ret;exact⟨by rw[hI'.out];rfl,S.out.bel⟩
theorem sl_no {m:MethA} (h:slR m=false):m.args < 0∨m.temps < 0∨m.args > 8∨m.temps > 8 - m.args:=by
 unfold slR at h;simp only[Bool.and_eq_false_iff,decide_eq_false_iff_not] at h;omega
theorem sl_yes {m:MethA} (h:slR m=true):0≤m.args∧0≤m.temps∧m.temps≤8 - m.args:=by
 unfold slR at h;simp only[Bool.and_eq_true,decide_eq_true_eq] at h;omega
theorem end_no {C:List Int} (h:endR C=false):(C.length < 2∨C.length % 2≠0)∨¬ (C.length < 2∨C.length % 2≠0)∧(byAt C (C.length - 2)≠14∧byAt C (C.length - 2)≠19∧byAt C (C.length - 2)≠16):=by
 unfold endR at h
 split at h
 ·next g=>exact Or.inl g
 ·next g =>
  unfold endB at h;simp only[Bool.or_eq_false_iff,decide_eq_false_iff_not] at h;exact Or.inr ⟨g,h.1.1,h.1.2,h.2⟩
theorem end_yes {C:List Int} (h:endR C=true):¬ (C.length < 2∨C.length % 2≠0)∧¬ (byAt C (C.length - 2)≠14∧byAt C (C.length - 2)≠19∧byAt C (C.length - 2)≠16):=by
 unfold endR at h
 split at h
 ·cases h
 ·next g =>
  unfold endB at h;simp only[Bool.or_eq_true,decide_eq_true_eq] at h;exact⟨g,by omega⟩
set_option maxHeartbeats 32000000 in
theorem kright_c {w:World} {v u:Value} {m:MethA} {U:UnitA} (h:MeV w v m) (hu:UnK w u U) :
  Calls Tryz.prog 92 #[v,u] w fun e w'=>e=.returned (.int .i64 (metR m U.names.length U.classes.length U.methods.length))∧Below w.heap.size w w':=by
 obtain⟨la,lc,ca,cc,rfl,hl,hc⟩:=h.ex;obtain⟨na,nc,ka,kc,ma,mc,oa,oc,rfl,_⟩:=hu.ex;have hw1:=(Below.refl w.heap.size w).alloc (Nat.le_refl _) (.cells #[.int .i64 m.args,.int .i64 m.temps,.slice la m.lits.length lc,.slice ca m.code.length cc] 63);have S0:Hid (MSt w ((w.alloc (.cells #[.int .i64 m.args,.int .i64 m.temps,.slice la m.lits.length lc,.slice ca m.code.length cc] 63)).alloc (.cells #[.slice na U.names.length nc,.slice ka U.classes.length kc,.slice ma U.methods.length mc,.slice oa U.objects.length oc,.int .i64 U.main] 27)) w.heap.size (w.alloc (.cells #[.int .i64 m.args,.int .i64 m.temps,.slice la m.lits.length lc,.slice ca m.code.length cc] 63)).heap.size _ _ m U la ca na ka ma oa lc cc nc kc mc oc):=HD ⟨(MeB.born h).up ((Below.refl _ _).alloc (Nat.le_refl _) _),UnB.born (hu.up hw1),hw1.trans (((Below.refl _ _).alloc (Nat.le_refl _) _).mono hw1.size)⟩;have hle:=len_le hc.le;have hle2:=len_le hl.le;have i1:(w.alloc (.cells #[.int .i64 m.args,.int .i64 m.temps,.slice la m.lits.length lc,.slice ca m.code.length cc] 63)).heap.size=w.heap.size+1:=by simp
 rw[i1] at S0;clear hl hc h hu hw1 i1;have a0:=S0.out.b.c0;have a1:=S0.out.b.c1;have a2:=S0.out.b.c2;have a3:=S0.out.b.c3;obtain⟨n,hn⟩:∃ n,n=m.code.length:=⟨_,rfl⟩
 obtain⟨nl,hnl⟩:∃ n,n=m.lits.length:=⟨_,rfl⟩
 go_enter Tryz.func92,Tryz.ntmps92
 go_upto_region 1 with fail
 generalize (w.alloc (.cells #[.int .i64 m.args,.int .i64 m.temps,.slice la m.lits.length lc,.slice ca m.code.length cc] 63)).alloc (.cells #[.slice na U.names.length nc,.slice ka U.classes.length kc,.slice ma U.methods.length mc,.slice oa U.objects.length oc,.int .i64 U.main] 27)=W at *;by_cases g1:m.code.length > 128
 ·have dg1:decide ((m.code.length:Int) > 128)=true:=by simp;omega
  have e:=HD (met_long (m:=m) (nn:=U.names.length) (nc:=U.classes.length) (nm:=U.methods.length) (Or.inl g1))
  go_wp2
  go_ret;exact⟨by rw[e.out];rfl,S0.out.bel⟩
 have dg1:decide ((m.code.length:Int) > 128)=false:=by simp;omega
 by_cases g2:m.lits.length > 16
 ·have dg2:decide ((m.lits.length:Int) > 16)=true:=by simp;omega
  have e:=HD (met_long (m:=m) (nn:=U.names.length) (nc:=U.classes.length) (nm:=U.methods.length) (Or.inr (Or.inl g2)))
  go_wp2
  go_ret;exact⟨by rw[e.out];rfl,S0.out.bel⟩
 have dg2:decide ((m.lits.length:Int) > 16)=false:=by simp;omega
 have PS:=kslots_c S0.out.b.me;cases hsl:slR m with
 | false =>
  have e:=HD (met_long (m:=m) (nn:=U.names.length) (nc:=U.classes.length) (nm:=U.methods.length) (Or.inr (Or.inr (sl_no hsl))));rw[hsl] at PS;replace PS:=HD PS;clear hsl
  go_wp2_with fail
  with_reducible refine PS.out.mono ?_
  rintro e1 w1 ⟨rfl,hb⟩
  go_wp2
  go_ret;exact⟨by rw[e.out];rfl,(S0.out.up hb).bel⟩
 | true =>
  have hys:=sl_yes hsl;have G:¬ (m.code.length > 128∨m.lits.length > 16∨m.args < 0∨m.temps < 0∨m.args > 8∨m.temps > 8 - m.args):=by omega
  have ha:0≤m.args∧m.args≤8:=by omega
  have ht:0≤m.temps∧m.temps≤8:=by omega
  have h128:m.code.length≤128:=by omega
  rw[hsl] at PS;replace PS:=HD PS;clear hsl hys
  go_wp2_with fail
  with_reducible refine PS.out.mono ?_
  rintro e1 w1 ⟨rfl,hb⟩;replace S0:=HD (S0.out.up hb);clear hb PS a0 a1 a2 a3;have a0:=S0.out.b.c0;have a1:=S0.out.b.c1;have a2:=S0.out.b.c2;have a3:=S0.out.b.c3;have u0:=S0.out.u.c0;have u1':=S0.out.u.c1;have u2':=S0.out.u.c2;have u3':=S0.out.u.c3;have u4':=S0.out.u.c4
  go_upto_region 3 with fail
  clear dg1 dg2 g1 g2;have PE:=kend_c S0.out.b.py.2;cases hen:endR m.code with
  | false =>
   have e:Hid (metR m U.names.length U.classes.length U.methods.length=12):=HD (by
    rcases end_no hen with g | ⟨g,g'⟩
    ·exact met_len G g
    ·exact met_last G g g')
   rw[hen] at PE;replace PE:=HD PE;clear hen G
   go_wp2_with fail
   with_reducible refine PE.out.mono ?_
   rintro e2 w2 ⟨rfl,hw2⟩;subst w2
   go_wp2
   go_ret;exact⟨by rw[e.out];rfl,S0.out.bel⟩
  | true =>
   obtain⟨H2,H3⟩:=end_yes hen;have e:=HD (met_t (nn:=U.names.length) (nc:=U.classes.length) (nm:=U.methods.length) G H2 H3);have hev:m.code.length % 2=0:=by omega
   rw[hen] at PE;replace PE:=HD PE;clear hen G H2 H3
   go_wp2_with fail
   with_reducible refine PE.out.mono ?_
   rintro e2 w2 ⟨rfl,hw2⟩;subst w2;have PL:=klits_c S0.out.b.py.1 S0.out.u.un;cases hli:m.lits.all (fun x=>litR x U.names.length U.classes.length U.methods.length) with
   | false =>
    have eT:=HD (metT_lit (m:=m) hli);rw[hli] at PL;replace PL:=HD PL;clear hli
    go_wp2_with fail
    with_reducible refine PL.out.mono ?_
    rintro e3 w3 ⟨rfl,hb⟩
    go_wp2
    go_ret;exact⟨by rw[e.out,eT.out];rfl,(S0.out.up hb).bel⟩
   | true =>
    rw[hli] at PL;replace PL:=HD PL;replace hli:=HD hli
    go_wp2_with fail
    with_reducible refine PL.out.mono ?_
    rintro e3 w3 ⟨rfl,hb⟩;replace S0:=HD (S0.out.up hb);clear hb PL a0 a1 a2 a3 PE u0 u1' u2' u3' u4';have a0:=S0.out.b.c0;have a1:=S0.out.b.c1;have a2:=S0.out.b.c2;have a3:=S0.out.b.c3;have PC:=krightCode_c S0.out.b.me h128 hev ha ht;cases hin:insF m (m.code.length / 2) 0 with
    | false =>
     have eT:=HD (metT_ins (m:=m) hli.out hin);rw[hin] at PC;replace PC:=HD PC;clear hin
     go_wp2_with fail
     with_reducible refine PC.out.mono ?_
     rintro e4 w4 ⟨rfl,hb⟩
     go_wp2
     go_ret;exact⟨by rw[e.out,eT.out];rfl,(S0.out.up hb).bel⟩
    | true =>
     have eT:=HD (metT_ok (m:=m) hli.out hin);rw[hin] at PC;replace PC:=HD PC;clear hin
     go_wp2_with fail
     with_reducible refine PC.out.mono ?_
     rintro e4 w4 ⟨rfl,hb⟩
     go_wp2
     go_ret;exact⟨by rw[e.out,eT.out];rfl,(S0.out.up hb).bel⟩
structure ArR (U:UnitA) (B:List (Int × Int)) (k:Nat):Prop where
 mk ::
 all:∀ x∈B.take k,eArg U x=0
theorem ArR.start (U:UnitA) (B:List (Int × Int)):ArR U B 0:=⟨by simp⟩
theorem ArR.step {U:UnitA} {B:List (Int × Int)} {k:Nat} {x:Int × Int} (h:ArR U B k) (hx:B[k]?=some x) (e:eArg U x=0):ArR U B (k+1):=by
 refine⟨fun y hy=>?_⟩;rw[take_next hx] at hy;rcases List.mem_append.1 hy with hy | hy
 ·exact h.all y hy
 ·rw[List.mem_singleton.1 hy];exact e
def argsB (U:UnitA) (B:List (Int × Int)):Bool:=B.all (fun b=>decide (eArg U b=0))
theorem ArR.last {U:UnitA} {B:List (Int × Int)} (h:ArR U B B.length):argsB U B=true:=by
 have:=h.all;rw[List.take_length] at this;exact List.all_eq_true.2 (fun x hx=>decide_eq_true (this x hx))
theorem ar_bad {U:UnitA} {B:List (Int × Int)} {k:Nat} {x:Int × Int} (hx:B[k]?=some x) (e:¬ eArg U x=0):argsB U B=false:=by
 cases h:argsB U B with
 | false=>rfl
 | true=>exact absurd (of_decide_eq_true (List.all_eq_true.1 h x (List.mem_of_getElem? hx))) e
theorem eArg_15 {U:UnitA} {b:Int × Int} (h:¬ eArg U b=0):eArg U b=15:=by
 unfold eArg at h ⊢;by_cases g:argsR (nmAt U.names b.1)=agAt U.methods b.2
 ·rw[if_pos g] at h;exact absurd rfl h
 ·rw[if_neg g]
theorem args_first (U:UnitA):∀ (B:List (Int × Int)) (X:List Int),firstE (B.map (eArg U)++X)=if argsB U B=true then firstE X else 15
 | [],X=>by simp[argsB]
 | b :: B,X=>by
  rw[List.map_cons,List.cons_append,firstE];by_cases h:eArg U b=0
  ·rw[if_pos h,args_first U B X];have:argsB U (b :: B)=argsB U B:=by unfold argsB;rw[List.all_cons,decide_eq_true h,Bool.true_and]
   rw[this]
  ·rw[if_neg h,eArg_15 h];have:argsB U (b :: B)=false:=ar_bad (k:=0) rfl h;rw[this];rfl
structure BdU (U:UnitA) (B:List (Int × Int)):Prop where
 mk ::
 all:∀ (j:Nat) b,B[j]?=some b→0≤b.1∧b.1 < (U.names.length:Int)∧0≤b.2∧b.2 < (U.methods.length:Int)
set_option maxHeartbeats 32000000 in
theorem uargs_c {w:World} {v u:Value} {U:UnitA} {B:List (Int × Int)} (hP:PrV w v B) (hu:UnK w u U) (hr:BdU U B) :
  Calls Tryz.prog 93 #[v,u] w fun e w'=>e=.returned (.bool (argsB U B))∧Below w.heap.size w w':=by
 obtain⟨na,nc,ca,cc,ma,mc,oa,oc,l1,l2,l3,l4,rfl,hS,j1,j2,j3,j4⟩:=hu.v1;clear hu;have gg:=HD hS.lens;obtain⟨ba,bc,rfl,qb1,qb2⟩:=hP.form;have hle:=len_le (Nat.le_trans qb1 qb2);obtain⟨n,hn⟩:∃ n,n=B.length:=⟨_,rfl⟩
 have hn':=HD hn;rw[← hn] at hP hle ⊢;have hP2:=HD (hP.up hS.bel);replace hS:=HD hS;have hst:=HD (ArR.start U B);replace hr:=HD hr;clear hn hP qb1 qb2;go_enter Tryz.func93,Tryz.ntmps93
 go_upto_region 1 with fail
 generalize w.alloc (.cells #[.slice na l1 nc,.slice ca l2 cc,.slice ma l3 mc,.slice oa l4 oc,.int .i64 U.main] 27)=W at *
 go_wp2
 go_loopw [9] (fun i wi=>∃ (j:Nat),j≤n∧i=.int .i64 j∧Hid (ArR U B j)∧Hid (V1 w wi U na nc ca cc ma mc oa oc l1 l2 l3 l4)∧Hid (PrV wi (.slice ba n bc) B)) (fun i _=>n - (intOf i).toNat)
 case atStart=>exact⟨0,by omega,rfl,hst,hS,hP2⟩
 case round =>
  clear hS hst hP2;obtain⟨j,hj,rfl,hT,hS,hP⟩:=hrel;obtain⟨a0,a1,a2,a3,a4⟩:=hS.out.cells;by_cases hjt:j < n
  ·as_aux_lemma =>
   have hjt':decide ((j:Int) < (n:Int))=true:=by simp;omega
   have p0:(0:Int)≤(j:Int):=by omega
   have p1:(j:Int) < (n:Int):=by omega
   obtain⟨b,hb⟩:∃ b,B[j]?=some b:=⟨B[j]'(by have:=hn'.out;omega),by simp⟩
   obtain⟨y1,y2,y3,y4⟩:=hr.out.all j b hb;obtain⟨i1,i2,bg,bo,rfl,e0,e1⟩:=hP.out.at hb;have hbH:=HD hb;obtain⟨z,m⟩:=b;obtain⟨z,rfl⟩:∃ q:Nat,z=q:=⟨z.toNat,by omega⟩
   obtain⟨m,rfl⟩:∃ q:Nat,m=q:=⟨m.toNat,by omega⟩
   simp only at y1 y2 y3 y4 e0 e1;obtain⟨h1,h2,h3,h4⟩:=gg.out;rw[← h1] at y2;rw[← h3] at y4;obtain⟨nm,hnm⟩:∃ q,U.names[z]?=some q:=⟨U.names[z]'(by omega),by simp⟩
   obtain⟨me,hme⟩:∃ q,U.methods[m]?=some q:=⟨U.methods[m]'(by omega),by simp⟩
   obtain⟨ng,noff,rfl,g0⟩:=NmV.at hS.out.views.1 hnm;obtain⟨mg,moff,_,_,_,_,rfl,m0,_,_,_,_⟩:=MtV.at hS.out.views.2.2.1 hme;have eA:Hid (eArg U ((z:Int),(m:Int))=if argsR nm=me.args then 0 else 15):=HD (by
    unfold eArg nmAt agAt;simp only[Int.toNat_natCast,List.getD_eq_getElem?_getD,hnm,hme,Option.getD_some])
   have bx:=(Below.refl wr.heap.size wr).alloc (Nat.le_refl _) (.cells #[.int .i64 z,.int .i64 m] 66);have hSb:=hS.out.up bx;have hPb:=hP.out.up bx;have w0:(wr.alloc (.cells #[.int .i64 z,.int .i64 m] 66)).cell? ⟨wr.heap.size,0,none⟩=some (.int .i64 z):=World.cell?_alloc_new _ _ _ 0;have w1:(wr.alloc (.cells #[.int .i64 z,.int .i64 m] 66)).cell? ⟨wr.heap.size,1,none⟩=some (.int .i64 m):=World.cell?_alloc_new _ _ _ 1;replace g0:=cell_up bx g0;replace m0:=cell_up bx m0;have PA:=HD (kargs_c nm);clear hnm hme hb y1 y3 i1 i2 h1 h2 h3 h4 bx hS hP;obtain⟨c1,c2,c3,c4⟩:=hSb.caps
   go_upto_region 4 with fail
   clear a0 a1 a2 a3 a4 e0 e1;obtain⟨a0,a1,a2,a3,a4⟩:=hSb.cells;replace hSb:=HD hSb.drew;replace hPb:=HD (hPb.up ((Below.refl _ _).drew));generalize wr.alloc (.cells #[.int .i64 z,.int .i64 m] 66)=W3 at *;generalize argsR nm=ar at *;by_cases he:¬ ar=me.args
   ·as_aux_lemma =>
    have e:Hid (argsB U B=false):=HD (ar_bad hbH.out (by rw[eA.out,if_neg he];decide));have he':(ar != me.args)=true:=by simpa using he
    clear he;refine wp_region_still_lit (by kernel_rfl) (by kernel_rfl) ?_
    iterate 6 still_step
    still_call (PA.out _)
    iterate 8 still_step
    refine wpStill_nil ?_;change Exit.then _ _ Exit.normal _ W3.drew
    go_wp2
    go_ret;exact⟨congrArg (fun b=>Ending.returned (Value.bool b)) e.out.symm,hSb.out.bel⟩
   ·as_aux_lemma =>
    replace he:ar=me.args:=Decidable.not_not.1 he;have he':(ar != me.args)=false:=by simpa using he
    have hT':=HD (hT.out.step hbH.out (by rw[eA.out,if_pos he]));clear he;refine wp_region_still_lit (by kernel_rfl) (by kernel_rfl) ?_
    iterate 6 still_step
    still_call (PA.out _)
    iterate 8 still_step
    refine wpStill_nil ?_;change Exit.then _ _ Exit.normal _ W3.drew;clear a0 a1 a2 a3 a4 w0 w1 g0 m0
    go_wp2
    go_roundw
    case rel=>exact⟨j+1,by omega,by go_num,hT',hSb,hPb⟩
    case measure=>simp[intOf];omega
  ·as_aux_lemma =>
   have hjt':decide ((j:Int) < (n:Int))=false:=by simp;omega
   have e:Hid (argsB U B=true):=HD (ArR.last (by have:=hT.out;rw[show j=B.length by have:=hn'.out;omega] at this;exact this))
   go_wp2
   go_ret;exact⟨congrArg (fun b=>Ending.returned (Value.bool b)) e.out.symm,hS.out.bel⟩
def mRest (U:UnitA) (k:Nat):List Int:=(U.methods.drop k).map (fun m=>metR m U.names.length U.classes.length U.methods.length)++eArgs U U.classes
def whyM (U:UnitA):Int:=firstE (mRest U 0)
theorem mRest_next {U:UnitA} {k:Nat} {m:MethA} (h:U.methods[k]?=some m):mRest U k=metR m U.names.length U.classes.length U.methods.length :: mRest U (k+1):=by unfold mRest;rw[drop_next h];rfl
theorem mRest_last {U:UnitA} {k:Nat} (h:k=U.methods.length):mRest U k=eArgs U (U.classes.drop 0):=by unfold mRest;rw[drop_all h];rfl
theorem aRest_next {U:UnitA} {k:Nat} {c:ClassA} (h:U.classes[k]?=some c):eArgs U (U.classes.drop k)=c.binds.map (eArg U)++eArgs U (U.classes.drop (k+1)):=by rw[drop_next h];rfl
theorem aRest_last {U:UnitA} {k:Nat} (h:k=U.classes.length):eArgs U (U.classes.drop k)=[]:=by rw[drop_all h];rfl
set_option maxHeartbeats 32000000 in
theorem uwhyM_c {w:World} {u:Value} {U:UnitA} (hu:UnK w u U) (hs:shapeR U.classes U.names.length U.methods.length=0) :
  Calls Tryz.prog 61 #[u] w fun e w'=>e=.returned (.int .i64 (whyM U))∧Below w.heap.size w w':=by
 obtain⟨na,nc,ca,cc,ma,mc,oa,oc,l1,l2,l3,l4,rfl,hS,j1,j2,j3,j4⟩:=hu.v1;clear hu;have gg:=HD hS.lens;replace hS:=HD hS;replace hs:=HD hs;have T3:Hid (FE (whyM U) (mRest U 0)):=HD ⟨rfl⟩;generalize whyM U=r at *;go_enter Tryz.func61,Tryz.ntmps61
 go_upto_region 1 with fail
 generalize w.alloc (.cells #[.slice na l1 nc,.slice ca l2 cc,.slice ma l3 mc,.slice oa l4 oc,.int .i64 U.main] 27)=W at *;obtain⟨a0,a1,a2,a3,a4⟩:=hS.out.cells
 go_wp2
 clear a0 a1 a2 a3 a4
 go_loopw [11] (fun i wr=>∃ (k:Nat),k≤l3∧i=.int .i64 k∧Hid (FE r (mRest U k))∧Hid (V1 w wr U na nc ca cc ma mc oa oc l1 l2 l3 l4)) (fun i _=>l3 - (intOf i).toNat)
 case atStart=>exact⟨0,by omega,rfl,T3,hS⟩
 case round =>
  clear hS T3;obtain⟨k,hk,rfl,hT,hS⟩:=hrel;obtain⟨a0,a1,a2,a3,a4⟩:=hS.out.cells;by_cases hlt:k < l3
  ·as_aux_lemma =>
   have hlt':decide ((k:Int) < (l3:Int))=true:=by simp;omega
   have p0:(0:Int)≤(k:Int):=by omega
   have p1:(k:Int) < (l3:Int):=by omega
   obtain⟨x,hx⟩:∃ x,U.methods[k]?=some x:=⟨U.methods[k]'(by obtain⟨h1,h2,h3,h4⟩:=gg.out;omega),by simp⟩
   obtain⟨q1,q2,q3,q4⟩:=hS.out.caps;obtain⟨g,off,la,lc,ka,kc,rfl,d0,d1,d2,d3,pm⟩:=MtV.at hS.out.views.2.2.1 hx;have T:=hT.out;rw[mRest_next hx] at T;have hS2:=HD (hS.out.up ((Below.refl _ _).alloc (Nat.le_refl _) (.cells #[.int .i64 x.args,.int .i64 x.temps,.slice la x.lits.length lc,.slice ka x.code.length kc] 63)));have pm2:=HD (pm.up ((Below.refl _ _).alloc (Nat.le_refl _) (.cells #[.int .i64 x.args,.int .i64 x.temps,.slice la x.lits.length lc,.slice ka x.code.length kc] 63)));clear hT pm hx;obtain⟨f0,f1,f2,f3,f4⟩:=hS2.out.cells;obtain⟨s,hs2⟩:∃ s,metR x U.names.length U.classes.length U.methods.length=s:=⟨_,rfl⟩
   rw[hs2] at T;by_cases hz:¬ s=0
   ·as_aux_lemma =>
    have e:Hid (r=s):=HD (T.bad hz);have hz':(s != 0)=true:=by simpa using hz
    replace hs2:=HD hs2;clear T hz
    go_wp2_with fail
    refine (kright_c pm2.out hS2.out.unk).mono ?_;rintro e1 w3 ⟨he1,hb3⟩;rw[hs2.out] at he1;subst he1;replace hS:=HD (hS2.out.up hb3);clear hS2 hb3 pm2 hs2 f0 f1 f2 f3 f4
    go_wp2
    go_ret;exact⟨congrArg (fun b=>Ending.returned (Value.int .i64 b)) e.out.symm,hS.out.bel⟩
   replace hz:s=0:=Decidable.not_not.1 hz;subst hz;have hT':=HD (T.ok rfl);replace hs2:=HD hs2;clear T
   go_wp2_with fail
   refine (kright_c pm2.out hS2.out.unk).mono ?_;rintro e1 w3 ⟨he1,hb3⟩;rw[hs2.out] at he1;subst he1;replace hS:=HD (hS2.out.up hb3);clear hS2 hb3 pm2 hs2 f0 f1 f2 f3 f4
   go_wp2
   go_roundw
   case rel=>exact⟨k+1,by omega,by go_num,hT',hS⟩
   case measure=>simp[intOf];omega
  ·as_aux_lemma =>
   have hlt':decide ((k:Int) < (l3:Int))=false:=by simp;omega
   have hT':=hT.out;rw[mRest_last (by obtain⟨h1,h2,h3,h4⟩:=gg.out;omega)] at hT';clear hT;have hT:=HD hT';clear hT'
   go_wp2
   clear a0 a1 a2 a3 a4;clear hlt hlt' hk
   go_loopw [25] (fun i wr=>∃ (k:Nat),k≤l2∧i=.int .i64 k∧Hid (FE r (eArgs U (U.classes.drop k)))∧Hid (V1 w wr U na nc ca cc ma mc oa oc l1 l2 l3 l4)) (fun i _=>l2 - (intOf i).toNat)
   case atStart=>exact⟨0,by omega,rfl,hT,hS⟩
   case round =>
    clear hS hT;obtain⟨k,hk,rfl,hT,hS⟩:=hrel;obtain⟨a0,a1,a2,a3,a4⟩:=hS.out.cells;by_cases hlt:k < l2
    ·as_aux_lemma =>
     have hlt':decide ((k:Int) < (l2:Int))=true:=by simp;omega
     have p0:(0:Int)≤(k:Int):=by omega
     have p1:(k:Int) < (l2:Int):=by omega
     obtain⟨x,hx⟩:∃ x,U.classes[k]?=some x:=⟨U.classes[k]'(by obtain⟨h1,h2,h3,h4⟩:=gg.out;omega),by simp⟩
     obtain⟨_,_,g,off,bv,rfl,d0,d1,d2,d3,pb⟩:=ClV.at hS.out.views.2.1 hx;obtain⟨ba,bc,rfl,qb1,qb2⟩:=pb.form;have T:=hT.out;rw[aRest_next hx] at T;have hbr:Hid (BdU U x.binds):=HD ⟨fun j b hb=>shape_binds hs.out hx hb⟩;have hS2:=HD (hS.out.up ((Below.refl _ _).alloc (Nat.le_refl _) (.cells #[.string x.nm,.int .i64 x.super,.int .i64 x.fields,.slice ba x.binds.length bc] 60)));have pb2:=HD (pb.up ((Below.refl _ _).alloc (Nat.le_refl _) (.cells #[.string x.nm,.int .i64 x.super,.int .i64 x.fields,.slice ba x.binds.length bc] 60)));obtain⟨f0,f1,f2,f3,f4⟩:=hS2.out.cells;have hE:=T.eq;rw[args_first] at hE;replace hE:=HD hE;have PA:=HD (uargs_c pb2.out hS2.out.unk hbr.out);clear hT T pb hx qb1 qb2;cases q:argsB U x.binds with
     | false =>
      as_aux_lemma =>
      have e:Hid (r=15):=HD (by have h:=hE.out;rw[q] at h;exact h);rw[q] at PA;clear q hE
      go_wp2_with fail
      refine PA.out.mono ?_;rintro e1 w3 ⟨rfl,hb3⟩;replace hS:=HD (hS2.out.up hb3);clear hS2 hb3 pb2 f0 f1 f2 f3 f4
      go_wp2
      go_ret;exact⟨congrArg (fun b=>Ending.returned (Value.int .i64 b)) e.out.symm,hS.out.bel⟩
     | true =>
      as_aux_lemma =>
      have hT':Hid (FE r (eArgs U (U.classes.drop (k+1)))):=HD ⟨by have h:=hE.out;rw[q] at h;exact h⟩;rw[q] at PA;clear q hE
      go_wp2_with fail
      refine PA.out.mono ?_;rintro e1 w3 ⟨rfl,hb3⟩;replace hS:=HD (hS2.out.up hb3);clear hS2 hb3 pb2 f0 f1 f2 f3 f4
      go_wp2
      go_roundw
      case rel=>exact⟨k+1,by omega,by go_num,hT',hS⟩
      case measure=>simp[intOf];omega
    ·as_aux_lemma =>
     have hlt':decide ((k:Int) < (l2:Int))=false:=by simp;omega
     have e:Hid (r=0):=HD (by
      have h:=hT.out;rw[aRest_last (by obtain⟨h1,h2,h3,h4⟩:=gg.out;omega)] at h;exact h.eq)
     go_wp2
     go_ret;exact⟨congrArg (fun b=>Ending.returned (Value.int .i64 b)) e.out.symm,hS.out.bel⟩
end Wd
end Go.Proofs.YtgfnelhbdhbklaaGreat
