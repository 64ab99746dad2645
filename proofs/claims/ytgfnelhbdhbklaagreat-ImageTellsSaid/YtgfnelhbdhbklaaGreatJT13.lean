/- Texts joined: VI, VJ, ILD, ILY. -/
import Derived.Test.YtgfnelhbdhbklaaGreatJT6
import Derived.Test.YtgfnelhbdhbklaaGreatJT10
import Derived.Test.YtgfnelhbdhbklaaGreatJT12
namespace Go.Proofs.YtgfnelhbdhbklaaGreat
open Go.RowKit
set_option linter.unusedVariables false
set_option maxRecDepth 20000
namespace Wd
theorem from_62 {L:List ClassA} {names methods:Int}:∀ (C:List ClassA) (i:Nat),shapeFrom L names methods i C=0→∀ c∈C,c.fields≤62
 | [],_,_,c,h=>by cases h
 | d :: C,i,e,c,h=>by
  rw[shapeFrom] at e
  split at e
  ·cases e
  ·split at e
   ·cases e
   ·split at e
    ·cases e
    ·rename_i hc
     split at e
     ·cases e
     ·rcases List.mem_cons.1 h with rfl | h
      ·have hc':classOk L i c=true:=by simpa using hc
       unfold classOk at hc';simp only[Bool.and_eq_true,decide_eq_true_iff] at hc';exact hc'.1.1.2
      ·exact from_62 C (i+1) e c h
theorem shape_62 {L:List ClassA} {names methods:Int} (e:shapeR L names methods=0):∀ c∈L,c.fields≤62:=by
 unfold shapeR at e
 split at e
 ·cases e
 ·split at e
  ·cases e
  ·exact from_62 L 0 e
def objsB (U:UnitA):Bool:=U.objects.all (fun x=>objB x U.classes U.objects.length)
structure OjR (U:UnitA) (k:Nat):Prop where
 mk ::
 all:∀ x∈U.objects.take k,objB x U.classes U.objects.length=true
theorem OjR.start (U:UnitA):OjR U 0:=⟨by simp⟩
theorem OjR.step {U:UnitA} {k:Nat} {x:ObjA} (h:OjR U k) (hx:U.objects[k]?=some x) (e:objB x U.classes U.objects.length=true):OjR U (k+1):=by
 refine⟨fun y hy=>?_⟩;rw[take_next hx] at hy;rcases List.mem_append.1 hy with hy | hy
 ·exact h.all y hy
 ·rw[List.mem_singleton.1 hy];exact e
theorem OjR.last {U:UnitA} (h:OjR U U.objects.length):objsB U=true:=by
 have:=h.all;rw[List.take_length] at this;exact List.all_eq_true.2 this
theorem oj_bad {U:UnitA} {k:Nat} {x:ObjA} (hx:U.objects[k]?=some x) (e:objB x U.classes U.objects.length=false):objsB U=false:=by
 cases h:objsB U with
 | false=>rfl
 | true=>have:=List.all_eq_true.1 h x (List.mem_of_getElem? hx);rw[e] at this;cases this
set_option maxHeartbeats 32000000 in
theorem uobjects_c {w:World} {u:Value} {U:UnitA} (hu:UnK w u U) (hs:shapeR U.classes U.names.length U.methods.length=0) :
  Calls Tryz.prog 62 #[u] w fun e w'=>e=.returned (.bool (objsB U))∧Below w.heap.size w w':=by
 obtain⟨na,nc,ca,cc,ma,mc,oa,oc,l1,l2,l3,l4,rfl,hS,j1,j2,j3,j4⟩:=hu.v1;clear hu;have gg:=HD hS.lens;replace hS:=HD hS;have h62:=HD (shape_62 hs);have hst:=HD (OjR.start U);clear hs;go_enter Tryz.func62,Tryz.ntmps62
 go_upto_region 1 with fail
 generalize w.alloc (.cells #[.slice na l1 nc,.slice ca l2 cc,.slice ma l3 mc,.slice oa l4 oc,.int .i64 U.main] 27)=W at *;obtain⟨a0,a1,a2,a3,a4⟩:=hS.out.cells
 go_wp2
 clear a0 a1 a2 a3 a4
 go_loopw [8] (fun i wr=>∃ (k:Nat),k≤l4∧i=.int .i64 k∧Hid (OjR U k)∧Hid (V1 w wr U na nc ca cc ma mc oa oc l1 l2 l3 l4)) (fun i _=>l4 - (intOf i).toNat)
 case atStart=>exact⟨0,by omega,rfl,hst,hS⟩
 case round =>
  clear hS hst;obtain⟨k,hk,rfl,hT,hS⟩:=hrel;by_cases hlt:k < l4
  ·as_aux_lemma =>
   have hlt':decide ((k:Int) < (l4:Int))=true:=by simp;omega
   have p0:(0:Int)≤(k:Int):=by omega
   have p1:(k:Int) < (l4:Int):=by omega
   obtain⟨x,hx⟩:∃ x,U.objects[k]?=some x:=⟨U.objects[k]'(by obtain⟨h1,h2,h3,h4⟩:=gg.out;omega),by simp⟩
   obtain⟨i1,g,off,fv,rfl,d0,d1,pf⟩:=ObV.at hS.out.views.2.2.2 hx;obtain⟨fa,fc,rfl,_,_⟩:=pf.form;have hxH:=HD hx;have hS2:=HD (hS.out.up ((Below.refl _ _).alloc (Nat.le_refl _) (.cells #[.int .i64 x.cls,.slice fa x.flds.length fc] 55)));have pk:ObK wr (.agg #[.int .i64 x.cls,.slice fa x.flds.length fc]) x:=⟨i1,fa,fc,rfl,pf⟩
   have pk2:=HD (pk.up ((Below.refl _ _).alloc (Nat.le_refl _) (.cells #[.int .i64 x.cls,.slice fa x.flds.length fc] 55)));have pf2:=HD (pf.up ((Below.refl _ _).alloc (Nat.le_refl _) (.cells #[.int .i64 x.cls,.slice fa x.flds.length fc] 55)));have z0:(wr.alloc (.cells #[.int .i64 x.cls,.slice fa x.flds.length fc] 55)).cell? ⟨wr.heap.size,0,none⟩=some (.int .i64 x.cls):=World.cell?_alloc_new _ _ _ 0;have z1:(wr.alloc (.cells #[.int .i64 x.cls,.slice fa x.flds.length fc] 55)).cell? ⟨wr.heap.size,1,none⟩=some (.slice fa x.flds.length fc):=World.cell?_alloc_new _ _ _ 1;clear hx pf pk i1
   go_upto_region 4 with fail
   generalize wr.alloc (.cells #[.int .i64 x.cls,.slice fa x.flds.length fc] 55)=W3 at *;generalize wr.heap.size=q3 at *;obtain⟨f0,f1,f2,f3,f4⟩:=hS2.out.cells;have PC:=HD (uclass_c pk2.out hS2.out.views.2.1 h62.out);clear d0 d1;have eN:=HD (objB_no (o:=x) (C:=U.classes));have eY:=HD (objB_yes (o:=x) (C:=U.classes));cases q:objHead x U.classes with
   | false =>
    as_aux_lemma =>
    have e:Hid (objsB U=false):=HD (oj_bad hxH.out (eN.out q _));rw[q] at PC;clear q eN eY
    go_wp2_with (first | (go_at_call 94;((with_reducible refine PC.out.mono ?_);rintro e1 w4 ⟨rfl,hb4⟩)))
    go_ret;exact⟨congrArg (fun b=>Ending.returned (Value.bool b)) e.out.symm,hS2.out.bel.trans (hb4.mono hS2.out.bel.size)⟩
   | true =>
    have PF:=HD (fun (w':World) (b:Below W3.heap.size W3 w')=>ufields_c (pf2.out.up b) l4);have eQ:Hid (objB x U.classes U.objects.length=x.flds.all (fldOk · l4)):=HD (by obtain⟨h1,h2,h3,h4⟩:=gg.out;rw[eY.out q,← h4]);rw[q] at PC;clear q eN eY;cases q:x.flds.all (fldOk · l4) with
    | false =>
     as_aux_lemma =>
     have e:Hid (objsB U=false):=HD (oj_bad hxH.out (eQ.out.trans q));rw[q] at PF;clear q eQ
     go_wp2_with (first | (go_at_call 94;((with_reducible refine PC.out.mono ?_);rintro e1 w4 ⟨rfl,hb4⟩;have y0:=cell_up hb4 z1;have y1:=cell_up hb4 f3)) | (go_at_call 95;((with_reducible refine (PF.out _ hb4).mono ?_);rintro e1 w5 ⟨rfl,hb5⟩)))
     go_ret;exact⟨congrArg (fun b=>Ending.returned (Value.bool b)) e.out.symm,hS2.out.bel.trans ((hb4.trans (hb5.mono hb4.size)).mono hS2.out.bel.size)⟩
    | true =>
     as_aux_lemma =>
     have hT':=HD (hT.out.step hxH.out (eQ.out.trans q));rw[q] at PF;clear q eQ
     go_wp2_with (first | (go_at_call 94;((with_reducible refine PC.out.mono ?_);rintro e1 w4 ⟨rfl,hb4⟩;have y0:=cell_up hb4 z1;have y1:=cell_up hb4 f3)) | (go_at_call 95;((with_reducible refine (PF.out _ hb4).mono ?_);rintro e1 w5 ⟨rfl,hb5⟩)))
     go_roundw
     case rel=>exact⟨k+1,by omega,by go_num,hT',HD (hS2.out.up (hb4.trans (hb5.mono hb4.size)))⟩
     case measure=>simp[intOf];omega
  ·as_aux_lemma =>
   have hlt':decide ((k:Int) < (l4:Int))=false:=by simp;omega
   have e:Hid (objsB U=true):=HD (OjR.last (by have:=hT.out;rw[show k=U.objects.length by obtain⟨h1,h2,h3,h4⟩:=gg.out;omega] at this;exact this))
   go_wp2
   go_ret;exact⟨congrArg (fun b=>Ending.returned (Value.bool b)) e.out.symm,hS.out.bel⟩
theorem objs_first:∀ (O:List ObjA) (C:List ClassA) (n:Nat) (X:List Int),firstE (O.map (fun x=>if objB x C n=true then (0:Int) else 16)++X)=if O.all (fun x=>objB x C n)=true then firstE X else 16
 | [],C,n,X=>by simp
 | o :: O,C,n,X=>by
  rw[List.map_cons,List.cons_append,firstE];cases h:objB o C n with
  | true=>rw[if_pos rfl,if_pos rfl,objs_first O C n X,List.all_cons,h,Bool.true_and]
  | false=>simp[h]
theorem unit_eq (U:UnitA):unitR U=if longB U=true then 3 else if namesB U.names=false then 13 else if ¬ whyC U=0 then whyC U else if ¬ whyM U=0 then whyM U else if objsB U=false then 16 else mainE U:=by
 have h1:restC U 0=cRest U 0++(mRest U 0++restO U 0):=by
  unfold restC restM restA cRest mRest;rw[List.drop_zero];simp
 have h2:firstE (restO U 0)=if objsB U=true then mainE U else 16:=by
  unfold restO;rw[List.drop_zero,objs_first];unfold objsB;simp only[firstE];by_cases h:mainE U=0
  ·rw[if_pos h,h]
  ·rw[if_neg h]
 unfold unitR;rw[firstE];by_cases hl:longB U=true
 ·rw[if_pos hl,if_pos hl,if_neg (by decide)]
 rw[if_neg hl,if_neg hl,if_pos rfl,firstE];cases hn:namesB U.names with
 | false=>rfl
 | true =>
 rw[if_pos rfl,if_pos rfl,if_neg (by decide),h1,← List.cons_append,firstE_app];unfold whyM;change (if whyC U=0 then _ else whyC U)=_;by_cases hc:whyC U=0
 ·rw[if_pos hc,if_neg (fun h=>h hc),firstE_app];by_cases hm:firstE (mRest U 0)=0
  ·rw[if_pos hm,if_neg (fun h=>h hm),h2];cases objsB U <;> rfl
  ·rw[if_neg hm,if_pos hm]
 ·rw[if_neg hc,if_pos hc]
theorem whyC_0 {U:UnitA} (h:whyC U=0):shapeR U.classes U.names.length U.methods.length=0:=by
 unfold whyC at h;rw[firstE] at h;by_cases g:shapeR U.classes U.names.length U.methods.length=0
 ·exact g
 ·rw[if_neg g] at h;exact absurd h g
theorem main_no {U:UnitA} (h:¬ (0≤U.main∧U.main < (U.methods.length:Int))):mainE U=15:=by
 unfold mainE;rw[if_neg (fun g=>h ⟨g.1,g.2.1⟩)]
theorem umain_at {U:UnitA} {q:Nat} {x:MethA} (e:U.main=(q:Int)) (hx:U.methods[q]?=some x):mainE U=if x.args=0 then 0 else 15:=by
 have hq:=(List.getElem?_eq_some_iff.1 hx).1;have ha:agAt U.methods U.main=x.args:=by unfold agAt;rw[e,Int.toNat_natCast,hx]
 unfold mainE;rw[ha];by_cases h:x.args=0
 ·rw[if_pos h,if_pos ⟨by omega,by omega,h⟩]
 ·rw[if_neg h,if_neg (fun g=>h g.2.2)]
set_option maxHeartbeats 32000000 in
theorem uright_c {w:World} {u:Value} {U:UnitA} (hu:UnK w u U) :
  Calls Tryz.prog 30 #[u] w fun e w'=>e=.returned (.int .i64 (unitR U))∧Below w.heap.size w w':=by
 obtain⟨na,nc,ca,cc,ma,mc,oa,oc,l1,l2,l3,l4,rfl,hS,j1,j2,j3,j4⟩:=hu.v1;clear hu;have gg:=HD hS.lens;have eU:=HD (unit_eq U);generalize unitR U=r at *;replace hS:=HD hS;have PL:=HD (fun (w':World) (h:UnK w' (.agg #[.slice na l1 nc,.slice ca l2 cc,.slice ma l3 mc,.slice oa l4 oc,.int .i64 U.main]) U)=>ulengths_c h);have PN:=HD (fun (w':World) (h:NmV w' (.slice na l1 nc) U.names)=>unames_c h);have PC:=HD (fun (w':World) (h:UnK w' (.agg #[.slice na l1 nc,.slice ca l2 cc,.slice ma l3 mc,.slice oa l4 oc,.int .i64 U.main]) U)=>uwhyC_c h);go_enter Tryz.func30,Tryz.ntmps30
 go_upto_region 1 with fail
 generalize w.alloc (.cells #[.slice na l1 nc,.slice ca l2 cc,.slice ma l3 mc,.slice oa l4 oc,.int .i64 U.main] 27)=W at *;obtain⟨a0,a1,a2,a3,a4⟩:=hS.out.cells
 go_wp2_with fail
 refine (PL.out _ hS.out.unk).mono ?_;rintro e w2 ⟨rfl,hb2⟩;replace hS:=HD (hS.out.up hb2);clear hb2 a0 a1 a2 a3 a4 PL;obtain⟨a0,a1,a2,a3,a4⟩:=hS.out.cells;cases q:longB U with
 | true =>
  as_aux_lemma =>
  have e:Hid (r=3):=HD (by rw[eU.out,if_pos q]);clear q eU
  go_wp2
  go_ret;exact⟨congrArg (fun b=>Ending.returned (Value.int .i64 b)) e.out.symm,hS.out.bel⟩
 | false =>
 replace eU:=HD (eU.out.trans (if_neg (by rw[q];decide)));clear q
 go_wp2_with fail
 refine (PN.out _ hS.out.views.1).mono ?_;rintro e w3 ⟨rfl,rfl⟩;cases q:namesB U.names with
 | false =>
  as_aux_lemma =>
  have e:Hid (r=13):=HD (by rw[eU.out,if_pos q]);clear q eU
  go_wp2
  go_ret;exact⟨congrArg (fun b=>Ending.returned (Value.int .i64 b)) e.out.symm,hS.out.bel⟩
 | true =>
 replace eU:=HD (eU.out.trans (if_neg (by rw[q];decide)));clear q PN
 go_wp2_with fail
 refine (PC.out _ hS.out.unk).mono ?_;rintro e w2 ⟨rfl,hb2⟩;replace hS:=HD (hS.out.up hb2);clear hb2 a0 a1 a2 a3 a4 PC;obtain⟨a0,a1,a2,a3,a4⟩:=hS.out.cells;have hs0:=HD (fun h=>whyC_0 (U:=U) h);generalize whyC U=s at *;by_cases hz:¬ s=0
 ·as_aux_lemma =>
  have e:Hid (r=s):=HD (by rw[eU.out,if_pos hz]);have hz':(s != 0)=true:=by simpa using hz
  clear eU hz
  go_wp2
  go_ret;exact⟨congrArg (fun b=>Ending.returned (Value.int .i64 b)) e.out.symm,hS.out.bel⟩
 replace eU:=HD (eU.out.trans (if_neg hz));replace hz:s=0:=Decidable.not_not.1 hz;replace hs0:=HD (hs0.out hz);subst hz;have PM:=HD (fun (w':World) (h:UnK w' (.agg #[.slice na l1 nc,.slice ca l2 cc,.slice ma l3 mc,.slice oa l4 oc,.int .i64 U.main]) U)=>uwhyM_c h hs0.out);have PO:=HD (fun (w':World) (h:UnK w' (.agg #[.slice na l1 nc,.slice ca l2 cc,.slice ma l3 mc,.slice oa l4 oc,.int .i64 U.main]) U)=>uobjects_c h hs0.out);clear hs0
 go_wp2_with fail
 refine (PM.out _ hS.out.unk).mono ?_;rintro e w2 ⟨rfl,hb2⟩;replace hS:=HD (hS.out.up hb2);clear hb2 a0 a1 a2 a3 a4 PM;obtain⟨a0,a1,a2,a3,a4⟩:=hS.out.cells;generalize whyM U=s at *;by_cases hz:¬ s=0
 ·as_aux_lemma =>
  have e:Hid (r=s):=HD (by rw[eU.out,if_pos hz]);have hz':(s != 0)=true:=by simpa using hz
  clear eU hz
  go_wp2
  go_ret;exact⟨congrArg (fun b=>Ending.returned (Value.int .i64 b)) e.out.symm,hS.out.bel⟩
 replace eU:=HD (eU.out.trans (if_neg hz));replace hz:s=0:=Decidable.not_not.1 hz;subst hz
 go_wp2_with fail
 refine (PO.out _ hS.out.unk).mono ?_;rintro e w2 ⟨rfl,hb2⟩;replace hS:=HD (hS.out.up hb2);clear hb2 a0 a1 a2 a3 a4 PO;obtain⟨a0,a1,a2,a3,a4⟩:=hS.out.cells;cases q:objsB U with
 | false =>
  as_aux_lemma =>
  have e:Hid (r=16):=HD (by rw[eU.out,if_pos q]);clear q eU
  go_wp2
  go_ret;exact⟨congrArg (fun b=>Ending.returned (Value.int .i64 b)) e.out.symm,hS.out.bel⟩
 | true =>
 replace eU:=HD (eU.out.trans (if_neg (by rw[q];decide)));clear q;have PI:=HD (uisOne_c U.main (l3:Int));by_cases hm:0≤U.main∧U.main < (l3:Int)
 ·obtain⟨q,hq⟩:∃ q:Nat,U.main=(q:Int):=⟨U.main.toNat,by omega⟩
  obtain⟨h1,h2,h3,h4⟩:=gg.out;obtain⟨x,hx⟩:∃ x,U.methods[q]?=some x:=⟨U.methods[q]'(by omega),by simp⟩
  have eM:=HD (eU.out.trans (umain_at hq hx));obtain⟨mg,moff,_,_,_,_,rfl,m0,_,_,_,_⟩:=MtV.at hS.out.views.2.2.1 hx;rw[decide_eq_true hm.1,decide_eq_true hm.2] at PI;have q0:(0:Int)≤(q:Int):=by omega
  have q1:(q:Int) < (l3:Int):=by omega
  rw[hq] at PI a4;clear eU h1 h2 h3 h4 hx hq hm;by_cases hz:x.args=0
  ·as_aux_lemma =>
   have e:Hid (r=0):=HD (by rw[eM.out,if_pos hz]);have hz':(x.args != 0)=false:=by simpa using hz
   clear eM hz
   go_wp2_with (first | (go_at_call 63;((with_reducible refine (PI.out _).mono ?_);rintro e1 w2 ⟨rfl,hw2⟩;subst w2)))
   go_ret;exact⟨congrArg (fun b=>Ending.returned (Value.int .i64 b)) e.out.symm,hS.out.bel⟩
  ·as_aux_lemma =>
   have e:Hid (r=15):=HD (by rw[eM.out,if_neg hz]);have hz':(x.args != 0)=true:=by simpa using hz
   clear eM hz
   go_wp2_with (first | (go_at_call 63;((with_reducible refine (PI.out _).mono ?_);rintro e1 w2 ⟨rfl,hw2⟩;subst w2)))
   go_ret;exact⟨congrArg (fun b=>Ending.returned (Value.int .i64 b)) e.out.symm,hS.out.bel⟩
 ·as_aux_lemma =>
  have e:Hid (r=15):=HD (by rw[eU.out];exact main_no (by obtain⟨h1,h2,h3,h4⟩:=gg.out;rw[← h3];exact hm));have hx:(decide (0≤U.main) && decide (U.main < (l3:Int)))=false:=by
   rw[Bool.and_eq_false_iff,decide_eq_false_iff_not,decide_eq_false_iff_not];omega
  rw[hx] at PI;clear eU hm hx
  go_wp2_with (first | (go_at_call 63;((with_reducible refine (PI.out _).mono ?_);rintro e1 w2 ⟨rfl,hw2⟩;subst w2)))
  go_ret;exact⟨congrArg (fun b=>Ending.returned (Value.int .i64 b)) e.out.symm,hS.out.bel⟩
theorem code_some {U:UnitA} (h:unitR U=0):∀ m∈U.methods,0 < m.code.length:=by
 intro m hm;have h0:=first_0 h;have e:metR m U.names.length U.classes.length U.methods.length=0:=by
  refine h0 _ (List.mem_cons_of_mem _ (List.mem_cons_of_mem _ (List.mem_cons_of_mem _ ?_)));unfold restC;refine List.mem_append_right _ ?_;unfold restM;rw[List.drop_zero];exact List.mem_append_left _ (List.mem_map_of_mem hm)
 unfold metR at e
 split at e
 ·cases e
 ·split at e
  ·cases e
  ·omega
theorem mark_rb {w:World}:RB (w.alloc (.cells #[.int .u8 84,.int .u8 87,.int .u8 49,.int .u8 0] 5 (4,5))) w.heap.size 5 (.slice (some ⟨w.heap.size,0,none⟩) 4 4) (bys [84,87,49,0]) :=
 ⟨w.heap.size,4,#[.int .u8 84,.int .u8 87,.int .u8 49,.int .u8 0],(4,5),rfl,Nat.le_refl _,heap_alloc_new _ _,Or.inl (by decide),by decide,by decide,rfl,rfl⟩
structure BW (w2 y:World) (v:Value) (L:List Int):Prop where
 rb:RB y w2.heap.size 5 v (bys L)
 bel:Below w2.heap.size w2 y
theorem BW.step {w2 y y1:World} {v v1:Value} {L M:List Int} (h:BW w2 y v L) (g:Wr w2.heap.size y y1 v v1 M):BW w2 y1 v1 M :=
 ⟨g.rb,wr_bel g.cg (fun k hk=>(h.rb.lt k hk).1) (Nat.le_refl _) h.bel⟩
theorem len_four (U:UnitA):(bytesU U).length=4+(rowB txt U.names).length+(rowB clB U.classes).length+(rowB mtB U.methods).length+(rowB obB U.objects).length+4:=by
 unfold bytesU bodyU;simp only[List.length_append,b4_len,List.length_cons,List.length_nil];omega
set_option maxHeartbeats 32000000 in
theorem ibytes_c {w:World} {u:Value} {U:UnitA} (hu:UnK w u U) :
  Calls Tryz.prog 17 #[u] w fun e w'=>(unitR U=0→∃ v',e=.returned (.tuple #[v',.int .i64 0])∧RB w' (w.heap.size+1) 5 v' (bys (bytesU U)))∧(unitR U≠0→e=.returned (.tuple #[.slice none 0 0,.int .i64 (unitR U)]))∧Below w.heap.size w w':=by
 obtain⟨na,nc,ca,cc,ma,mc,oa,oc,l1,l2,l3,l4,rfl,hS,j1,j2,j3,j4⟩:=hu.v1;clear hu;have PR:=HD (fun (w':World) (h:UnK w' (.agg #[.slice na l1 nc,.slice ca l2 cc,.slice ma l3 mc,.slice oa l4 oc,.int .i64 U.main]) U)=>uright_c h);have hsW:w.heap.size+1=(w.alloc (.cells #[.slice na l1 nc,.slice ca l2 cc,.slice ma l3 mc,.slice oa l4 oc,.int .i64 U.main] 27)).heap.size:=by simp
 replace hS:=HD hS;go_enter Tryz.func17,Tryz.ntmps17
 go_upto_region 1 with fail
 generalize w.alloc (.cells #[.slice na l1 nc,.slice ca l2 cc,.slice ma l3 mc,.slice oa l4 oc,.int .i64 U.main] 27)=W at *;obtain⟨a0,a1,a2,a3,a4⟩:=hS.out.cells
 go_upto_region 2 with (first | (go_at_call 30;((with_reducible refine (PR.out _ hS.out.unk).mono ?_);rintro e1 w2 ⟨rfl,hb2⟩)))
 have hsz2:w.heap.size+1≤w2.heap.size:=by have:=hb2.size;omega
 replace hS:=HD (hS.out.up hb2);clear hb2 a0 a1 a2 a3 a4 PR hsW;by_cases hr:unitR U=0
 ·have hz:=bytes_le (right_u hr);have h0:=HD (code_some hr);rw[len_four] at hz;rw[hr];have hr':=HD hr;clear hr;have hY:=HD (show BW w2 _ _ _ from ⟨mark_rb (w:=w2),(Below.refl w2.heap.size w2).alloc (Nat.le_refl _) _⟩);have PCV:(convert 36 36 (.slice (some ⟨w2.heap.size,0,none⟩) 4 4)).run Tryz.prog (w2.alloc (.cells #[.int .u8 84,.int .u8 87,.int .u8 49,.int .u8 0] 5))=_:=cv_at _ 36 5 _ 4 4 w2.heap.size rfl Tryz.underlying36 Tryz.underlying5;obtain⟨a0,a1,a2,a3,a4⟩:=(hS.out.up hY.out.bel).cells;have P:=HD (prows_c (Nat.le_refl _) hS.out.views.1 hY.out.bel hY.out.rb hY.out.bel.size (by simp only[List.length_cons,List.length_nil];omega))
  go_upto_region 5 with (first | (go_at_call 31;((with_reducible refine P.out.mono ?_);rintro e1 w3 ⟨v3,rfl,hw3⟩)))
  replace hY:=HD (hY.out.step hw3);clear P hw3 a0 a1 a2 a3 a4 PCV;obtain⟨a0,a1,a2,a3,a4⟩:=(hS.out.up hY.out.bel).cells;have P:=HD (prowc_c (Nat.le_refl _) hS.out.views.2.1 hY.out.bel hY.out.rb hY.out.bel.size (by simp only[List.length_append,List.length_cons,List.length_nil];omega))
  go_upto_region 6 with (first | (go_at_call 33;((with_reducible refine P.out.mono ?_);rintro e1 w4 ⟨v4,rfl,hw4⟩)))
  replace hY:=HD (hY.out.step hw4);clear P hw4 a0 a1 a2 a3 a4;obtain⟨a0,a1,a2,a3,a4⟩:=(hS.out.up hY.out.bel).cells;have P:=HD (prowm_c (Nat.le_refl _) hS.out.views.2.2.1 hY.out.bel hY.out.rb hY.out.bel.size h0.out (by simp only[List.length_append,List.length_cons,List.length_nil];omega))
  go_upto_region 7 with (first | (go_at_call 35;((with_reducible refine P.out.mono ?_);rintro e1 w5 ⟨v5,rfl,hw5⟩)))
  replace hY:=HD (hY.out.step hw5);clear P hw5 a0 a1 a2 a3 a4;obtain⟨a0,a1,a2,a3,a4⟩:=(hS.out.up hY.out.bel).cells;have P:=HD (prowo_c (Nat.le_refl _) hS.out.views.2.2.2 hY.out.bel hY.out.rb hY.out.bel.size (by simp only[List.length_append,List.length_cons,List.length_nil];omega))
  go_upto_region 8 with (first | (go_at_call 37;((with_reducible refine P.out.mono ?_);rintro e1 w6 ⟨v6,rfl,hw6⟩)))
  replace hY:=HD (hY.out.step hw6);clear P hw6 a0 a1 a2 a3 a4;obtain⟨a0,a1,a2,a3,a4⟩:=(hS.out.up hY.out.bel).cells;have P:=HD (pnum_c hY.out.rb hY.out.bel.size (by simp only[List.length_append,List.length_cons,List.length_nil];omega) U.main)
  go_wp2_with (first | (go_at_call 39;((with_reducible refine P.out.mono ?_);rintro e1 w7 ⟨v7,rfl,hw7⟩)))
  replace hY:=HD (hY.out.step hw7);clear P hw7 a0 a1 a2 a3 a4
  go_ret2
  have hf:=hY.out;refine⟨fun _=>⟨_,rfl,?_⟩,fun h=>(h hr'.out).elim,hS.out.bel.trans (hf.bel.mono hS.out.bel.size)⟩;obtain⟨g,cap,cur,fr,e,q1,q2⟩:=hf.rb.ex;have hfin:RB w7 (w.heap.size+1) 5 v7 (bys (bytesU U)):=by
   have e2:bytesU U=[84,87,49,0]++rowB txt U.names++rowB clB U.classes++rowB mtB U.methods++rowB obB U.objects++b4 U.main:=by
    unfold bytesU bodyU;simp only[List.append_assoc]
   rw[e2];exact⟨g,cap,cur,fr,e,Nat.le_trans hsz2 q1,q2⟩
  exact hfin
 ·have d1:(unitR U != 0)=true:=by simpa using hr
  have hr':=HD hr;clear hr
  go_wp2
  go_ret2
  exact⟨fun h=>absurd h hr'.out,fun _=>rfl,hS.out.bel⟩
def szU (U:UnitA):Int:=if unitR U=0 then ((bytesU U).length:Int) else 0
theorem szU_y {U:UnitA} (h:unitR U=0):szU U=(bytesU U).length:=if_pos h
theorem szU_n {U:UnitA} (h:unitR U≠0):szU U=0:=if_neg h
set_option maxHeartbeats 16000000 in
theorem isize_c {w:World} {u:Value} {U:UnitA} (hu:UnK w u U) :
  Calls Tryz.prog 20 #[u] w fun e w'=>e=.returned (.int .i64 (szU U))∧Below w.heap.size w w':=by
 obtain⟨na,nc,ca,cc,ma,mc,oa,oc,l1,l2,l3,l4,rfl,hS,j1,j2,j3,j4⟩:=hu.v1;clear hu;have PR:=HD (fun (w':World) (h:UnK w' (.agg #[.slice na l1 nc,.slice ca l2 cc,.slice ma l3 mc,.slice oa l4 oc,.int .i64 U.main]) U)=>ibytes_c h);replace hS:=HD hS;go_enter Tryz.func20,Tryz.ntmps20
 go_upto_region 1 with fail
 generalize w.alloc (.cells #[.slice na l1 nc,.slice ca l2 cc,.slice ma l3 mc,.slice oa l4 oc,.int .i64 U.main] 27)=W at *;obtain⟨a0,a1,a2,a3,a4⟩:=hS.out.cells
 go_wp2_with fail
 with_reducible refine (PR.out _ hS.out.unk).mono ?_
 rintro e1 w2 ⟨h1,h2,hb2⟩;replace hS:=HD (hS.out.up hb2);clear hb2 a0 a1 a2 a3 a4 PR;by_cases hr:unitR U=0
 ·obtain⟨v',rfl,hrb⟩:=h1 hr;have e:=HD (szU_y hr);obtain⟨g,cap,cur,fr,rfl,q1,q2,q3,q4,q5,q6⟩:=hrb.ex;have hbl:=bys_ln (bytesU U);clear h1 h2 hr hrb
  go_wp2
  go_ret;rw[e.out];exact⟨rfl,hS.out.bel⟩
 ·have e:=HD (szU_n hr);obtain rfl:=h2 hr;clear h1 h2 hr
  go_wp2
  go_ret;rw[e.out];exact⟨rfl,hS.out.bel⟩
abbrev zUv:Value:=.agg #[.slice none 0 0,.slice none 0 0,.slice none 0 0,.slice none 0 0,.int .i64 0]
def errB (b:List Int):Int:=if 65536 < b.length then 3 else 12
def RdA (w':World) (b:List Int) (e:Ending):Prop:=(∃ U v,Good b U∧e=.returned (.tuple #[v,.int .i64 0])∧UnK w' v U)∨((∀ U,¬ Good b U)∧e=.returned (.tuple #[zUv,.int .i64 (errB b)]))
theorem rdA_no {w':World} {b:List Int} {m:Int} (h:∀ U,¬ Good b U) (hm:errB b=m):RdA w' b (.returned (.tuple #[zUv,.int .i64 m])):=Or.inr ⟨h,by rw[hm]⟩
theorem errB_long {b:List Int} (h:65536 < b.length):errB b=3:=if_pos h
theorem errB_short {b:List Int} (h:¬ 65536 < b.length):errB b=12:=if_neg h
theorem read_res {ts:Array Value} {w:World} {q:Nat} {v0 v1 v2 v3 v4 x:Value} (h8:ts.getD 2 undef=.pointer (some ⟨q,0,none⟩)) (h9:ts.getD 3 undef=x) (r0:w.cell? ⟨q,0,none⟩=some v0) (r1:w.cell? ⟨q,1,none⟩=some v1) (r2:w.cell? ⟨q,2,none⟩=some v2) (r3:w.cell? ⟨q,3,none⟩=some v3) (r4:w.cell? ⟨q,4,none⟩=some v4) :
  (results Tryz.f18 ts).run Tryz.prog w=.ok (.tuple #[.agg #[v0,v1,v2,v3,v4],x]) w:=by
 have h8':ts[2]?.getD undef=.pointer (some ⟨q,0,none⟩):=by rw[← Array.getD_eq_getD_getElem?];exact h8
 have h9':ts[3]?.getD undef=x:=by rw[← Array.getD_eq_getD_getElem?];exact h9
 simp[results,Tryz.results18,go_sem,h8',h9',r0,r1,r2,r3,r4]
theorem Good.no {b:List Int} (h:∀ U,unL (markL b)=(U,([],false))→¬ unitR U=0):∀ U,¬ Good b U:=fun U g=>h U (of_good g) g.1
theorem dbl5 {w:World} {E:Nat} {C:Array Value} {a0 a1 a2 a3 a4:Value} (h:w.heap[E]?=some (.cells C 27 (0,0))) (h0:C=#[a0,a1,a2,a3,a4]):w.cell? ⟨E,0,none⟩=some a0∧w.cell? ⟨E,1,none⟩=some a1∧w.cell? ⟨E,2,none⟩=some a2∧w.cell? ⟨E,3,none⟩=some a3∧w.cell? ⟨E,4,none⟩=some a4:=by
 subst h0;exact⟨cells_at h rfl,cells_at h rfl,cells_at h rfl,cells_at h rfl,cells_at h rfl⟩
set_option maxHeartbeats 32000000 in
theorem iread_c {w:World} {bv:Value} {b:List Int} (hb:ByV w bv b) (hf:SlF bv) :
  Calls Tryz.prog 18 #[bv] w fun e w'=>RdA w' b e∧Below w.heap.size w w':=by
 obtain⟨ad,cap,rfl,hcap,hmx⟩:=hb.form;have hmx':maxLen≤9223372036854775807:=by decide
 have b0:=(Below.refl w.heap.size w).alloc (Nat.le_refl _) (.cells z5U 27);by_cases hl:65536 < b.length
 ·have d0:decide ((65536:Int) < (b.length:Int))=true:=by simp;omega
  have hno:=HD (show ∀ U,¬ Good b U from fun U h=>by have:=good_le h;omega);have hm:=HD (errB_long hl);clear hb hf hl;go_enter Tryz.func18,Tryz.ntmps18
  go_wp2
  have hh:(w.alloc (.cells #[.slice none 0 0,.slice none 0 0,.slice none 0 0,.slice none 0 0,.int .i64 0] 27)).heap[w.heap.size]?=some (.cells #[.slice none 0 0,.slice none 0 0,.slice none 0 0,.slice none 0 0,.int .i64 0] 27 (0,0)):=heap_alloc_new _ _;obtain⟨c0,c1,c2,c3,c4⟩:=dbl5 hh rfl;refine bodyPost_ret (read_res rfl rfl c0 c1 c2 c3 c4) rfl ?_;exact⟨rdA_no hno.out hm.out,b0⟩
 ·have d0:decide ((65536:Int) < (b.length:Int))=false:=by simp;omega
  have hm:=HD (errB_short hl);have hs:b.length≤100000:=by omega
  have hB8:Bd8 b:=fun x hx=>by
   obtain⟨k,hk⟩:=List.getElem?_of_mem hx;obtain⟨ad',cap',e,h1,h2,h3⟩:=hb.ex;exact (h3 k x hk).1
  have hgo:=HD (fun U h=>good_of (b:=b) (U:=U) hB8 h);have hno:=HD (fun h=>Good.no (b:=b) h);have hs0:(w.alloc (.cells #[.slice none 0 0,.slice none 0 0,.slice none 0 0,.slice none 0 0,.int .i64 0] 27)).heap.size=w.heap.size+1:=by simp
  obtain⟨W0,hW0⟩:∃ W,w.alloc (.cells #[.slice none 0 0,.slice none 0 0,.slice none 0 0,.slice none 0 0,.int .i64 0] 27)=W:=⟨_,rfl⟩
  have hz0:W0.heap[w.heap.size]?=some (.cells #[.slice none 0 0,.slice none 0 0,.slice none 0 0,.slice none 0 0,.int .i64 0] 27 (0,0)):=by rw[← hW0];exact heap_alloc_new _ _
  have hbW:Below w.heap.size w W0:=by rw[← hW0];exact b0
  rw[hW0] at hs0;have hR:RI w (W0.alloc (.cells #[.slice ad b.length cap,.bool false] 85)) (w.heap.size+1) (.slice ad b.length cap) (b,false):=by
   have h1:=heap_alloc_new W0 (.cells #[.slice ad b.length cap,.bool false] 85);rw[hs0] at h1;exact⟨h1,hb,hbW.alloc hbW.size _,by omega,hf⟩
  have hz1:(W0.alloc (.cells #[.slice ad b.length cap,.bool false] 85)).heap[w.heap.size]?=some (.cells #[.slice none 0 0,.slice none 0 0,.slice none 0 0,.slice none 0 0,.int .i64 0] 27 (0,0)):=by
   rw[← hz0];exact ((Below.refl W0.heap.size W0).alloc (Nat.le_refl _) _).block _ (by omega)
  have hs1:(W0.alloc (.cells #[.slice ad b.length cap,.bool false] 85)).heap.size=w.heap.size+2:=by simp only[World.size_alloc];omega
  have P1:=HD (program_c hR hs);generalize unL (markL b)=q at P1 hgo hno;obtain⟨V,M,f⟩:=q;simp only at P1;clear hb hf hl hs hB8 b0 hR hz0 hcap;go_enter Tryz.func18,Tryz.ntmps18
  go_upto_region 3 with fail
  try simp only[hW0]
  clear hW0
  go_wp2_with fail
  try simp only[hs0]
  obtain⟨W1,hW1⟩:∃ W,W0.alloc (.cells #[.slice ad b.length cap,.bool false] 85)=W:=⟨_,rfl⟩
  rw[hW1] at P1 hz1 hs1
  try simp only[hW1]
  with_reducible refine P1.out.mono ?_
  rintro e1 y2 ⟨⟨u,J,rfl,hL⟩,⟨v2,hR⟩,hc⟩;have hz2:y2.heap[w.heap.size]?=some (.cells #[.slice none 0 0,.slice none 0 0,.slice none 0 0,.slice none 0 0,.int .i64 0] 27 (0,0)):=(hc.block _ (by omega) (by omega)).trans hz1;have hu:=hL.1.now;have hs2:=hc.size;replace hL:=HD hL;clear P1 hc hz1 hW1 hs0 hbW;obtain⟨na,nc,ca,cc,ma,mc,oa,oc,l1,l2,l3,l4,rfl,hS,j1,j2,j3,j4⟩:=hu.v1;have hsy:y2.heap.size < (y2.alloc (.cells #[.slice na l1 nc,.slice ca l2 cc,.slice ma l3 mc,.slice oa l4 oc,.int .i64 V.main] 27)).heap.size:=by simp
  replace hz2:=(((Below.refl y2.heap.size y2).alloc (Nat.le_refl _) (.cells #[.slice na l1 nc,.slice ca l2 cc,.slice ma l3 mc,.slice oa l4 oc,.int .i64 V.main] 27)).block w.heap.size (by omega)).trans hz2;replace hR:=hR.up ((Below.refl y2.heap.size y2).alloc (Nat.le_refl _) (.cells #[.slice na l1 nc,.slice ca l2 cc,.slice ma l3 mc,.slice oa l4 oc,.int .i64 V.main] 27));replace hL:=HD (hL.out.cg (Cg.below (fun _=>False) ((Below.refl y2.heap.size y2).alloc (Nat.le_refl _) (.cells #[.slice na l1 nc,.slice ca l2 cc,.slice ma l3 mc,.slice oa l4 oc,.int .i64 V.main] 27))) (fun k e=>e.elim))
  go_upto_region 5 with fail
  generalize y2.alloc (.cells #[.slice na l1 nc,.slice ca l2 cc,.slice ma l3 mc,.slice oa l4 oc,.int .i64 V.main] 27)=y3 at *;replace hS:=HD hS;replace hR:=HD hR;replace hz2:=HD hz2;clear hu;obtain⟨a0,a1,a2,a3,a4⟩:=hS.out.cells;have c0:=hR.out.c0;have c1:=hR.out.c1;simp only at c1;obtain⟨ma',mcap,rfl,hmc,hmm⟩:=hR.out.b.form;simp only at hmc;have hE:=HD (And.intro hgo.out hno.out);clear hgo hno;have hbad:Hid (∀ U,(V,M,f)=(U,([],false))→¬ unitR U=0)→Hid (∀ U,¬ Good b U):=fun h=>HD (hE.out.2 h.out);obtain⟨d1,d2,d3,d4,d5⟩:=dbl5 hz2.out rfl;have t0:y3.frozen? ⟨w.heap.size,0,none⟩=false:=loose_at hz2.out 0;have t1:y3.frozen? ⟨w.heap.size,1,none⟩=false:=loose_at hz2.out 1;have t2:y3.frozen? ⟨w.heap.size,2,none⟩=false:=loose_at hz2.out 2;have t3:y3.frozen? ⟨w.heap.size,3,none⟩=false:=loose_at hz2.out 3;have t4:y3.frozen? ⟨w.heap.size,4,none⟩=false:=loose_at hz2.out 4;cases f with
  | true =>
   replace hbad:=hbad (HD (fun U e=>by cases e));clear hE
   go_wp2
   obtain⟨e1,e2,e3,e4,e5⟩:=set5_at (v0:=.slice none 0 0) (v1:=.slice none 0 0) (v2:=.slice none 0 0) (v3:=.slice none 0 0) (v4:=.int .i64 0) d1 d2 d3 d4 d5;refine bodyPost_ret (read_res rfl rfl e1 e2 e3 e4 e5) rfl ?_;exact⟨rdA_no hbad.out hm.out,((((hR.out.bel.setCell (Nat.le_refl _) _).setCell (Nat.le_refl _) _).setCell (Nat.le_refl _) _).setCell (Nat.le_refl _) _).setCell (Nat.le_refl _) _⟩
  | false =>
   have hl0:=HD (List.length_eq_zero_iff (l:=M));obtain⟨m,hm2⟩:∃ m,m=M.length:=⟨_,rfl⟩
   rw[← hm2] at hmc hl0;simp only[← hm2] at c0;by_cases hM:m=0
   ·obtain rfl:M=[]:=hl0.out.1 hM;subst hM;have PR:=HD (uright_c hS.out.unk);clear hm2 hl0;by_cases hr:unitR V=0
    ·have hg:=HD (hE.out.1 V rfl hr);rw[hr] at PR;clear hbad hE hr
     go_wp2_with (first | (go_at_call 30;((with_reducible refine PR.out.mono ?_);rintro e1 y4 ⟨rfl,hb4⟩;replace hS:=HD (hS.out.up hb4);replace hR:=HD (hR.out.up hb4);replace hz2:=HD ((hb4.block w.heap.size (by omega)).trans hz2.out);replace hL:=HD (hL.out.cg (Cg.below (fun _=>False) hb4) (fun k e=>e.elim));clear PR hb4 a0 a1 a2 a3 a4 c0 c1 d1 d2 d3 d4 d5 t0 t1 t2 t3 t4;obtain⟨a0,a1,a2,a3,a4⟩:=hS.out.cells;obtain⟨d1,d2,d3,d4,d5⟩:=dbl5 hz2.out rfl;have t0:=loose_at hz2.out 0;have t1:=loose_at hz2.out 1;have t2:=loose_at hz2.out 2;have t3:=loose_at hz2.out 3;have t4:=loose_at hz2.out 4)))
     obtain⟨e1,e2,e3,e4,e5⟩:=set5_at (v0:=.slice na l1 nc) (v1:=.slice ca l2 cc) (v2:=.slice ma l3 mc) (v3:=.slice oa l4 oc) (v4:=.int .i64 V.main) d1 d2 d3 d4 d5;refine bodyPost_ret (read_res rfl rfl e1 e2 e3 e4 e5) rfl ?_;refine⟨Or.inl ⟨V,_,hg.out,rfl,?_⟩,((((hR.out.bel.setCell (Nat.le_refl _) _).setCell (Nat.le_refl _) _).setCell (Nat.le_refl _) _).setCell (Nat.le_refl _) _).setCell (Nat.le_refl _) _⟩;exact (((((hL.out.set (E:=w.heap.size) (o:=0) (by omega) _).set (E:=w.heap.size) (o:=1) (by omega) _).set (E:=w.heap.size) (o:=2) (by omega) _).set (E:=w.heap.size) (o:=3) (by omega) _).set (E:=w.heap.size) (o:=4) (by omega) _).1.now
    ·have q0:(unitR V != 0)=true:=by simpa using hr
     replace hbad:=hbad (HD (fun U e=>by cases e;exact hr));clear hE hr
     go_wp2_with (first | (go_at_call 30;((with_reducible refine PR.out.mono ?_);rintro e1 y4 ⟨rfl,hb4⟩;replace hR:=HD (hR.out.up hb4);replace hz2:=HD ((hb4.block w.heap.size (by omega)).trans hz2.out);clear PR hb4 a0 a1 a2 a3 a4 c0 c1 d1 d2 d3 d4 d5 t0 t1 t2 t3 t4;obtain⟨d1,d2,d3,d4,d5⟩:=dbl5 hz2.out rfl;have t0:=loose_at hz2.out 0;have t1:=loose_at hz2.out 1;have t2:=loose_at hz2.out 2;have t3:=loose_at hz2.out 3;have t4:=loose_at hz2.out 4)))
     obtain⟨e1,e2,e3,e4,e5⟩:=set5_at (v0:=.slice none 0 0) (v1:=.slice none 0 0) (v2:=.slice none 0 0) (v3:=.slice none 0 0) (v4:=.int .i64 0) d1 d2 d3 d4 d5;refine bodyPost_ret (read_res rfl rfl e1 e2 e3 e4 e5) rfl ?_;exact⟨rdA_no hbad.out hm.out,((((hR.out.bel.setCell (Nat.le_refl _) _).setCell (Nat.le_refl _) _).setCell (Nat.le_refl _) _).setCell (Nat.le_refl _) _).setCell (Nat.le_refl _) _⟩
   ·have e0:decide ((0:Int) < (m:Int))=true:=by simp;omega
    have e1:decide (0 < m)=true:=by simp;omega
    have e2:0 < m:=by omega
    replace hbad:=hbad (HD (fun U e=>by cases e;exact absurd hm2 hM));clear hE hM hm2 hl0
    go_wp2
    obtain⟨e1,e2,e3,e4,e5⟩:=set5_at (v0:=.slice none 0 0) (v1:=.slice none 0 0) (v2:=.slice none 0 0) (v3:=.slice none 0 0) (v4:=.int .i64 0) d1 d2 d3 d4 d5;refine bodyPost_ret (read_res rfl rfl e1 e2 e3 e4 e5) rfl ?_;exact⟨rdA_no hbad.out hm.out,((((hR.out.bel.setCell (Nat.le_refl _) _).setCell (Nat.le_refl _) _).setCell (Nat.le_refl _) _).setCell (Nat.le_refl _) _).setCell (Nat.le_refl _) _⟩
end Wd
end Go.Proofs.YtgfnelhbdhbklaaGreat
