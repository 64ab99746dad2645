/- Texts joined: SShape, UND, KR, KL, KG, KP, KM0, KU0, KU1. -/
import Derived.Test.YtgfnelhbdhbklaaGreatJT1
import Derived.Deep.DeepCutAuto
import Derived.Deep.RegionHeld3
import Derived.Deep.CutBlock
namespace Go.Proofs.YtgfnelhbdhbklaaGreat
open Go.RowKit
set_option linter.unusedVariables false
set_option maxRecDepth 20000
namespace Wd
theorem take_next {A:Type} {L:List A} {k:Nat} {c:A} (h:L[k]?=some c):L.take (k+1)=L.take k++[c]:=by rw[List.take_add_one,h];rfl
theorem drop_next {A:Type} {L:List A} {k:Nat} {c:A} (h:L[k]?=some c):L.drop k=c :: L.drop (k+1):=by
 obtain⟨hk,e⟩:=List.getElem?_eq_some_iff.1 h;rw[← e];exact List.drop_eq_getElem_cons hk
structure ShR (L:List ClassA) (names methods:Int) (k:Nat):Prop where
 eq:shapeR L names methods=shapeFrom L names methods k (L.drop k)
 down:Down L k
theorem ShR.start {L:List ClassA} {names methods:Int} (h1:2≤L.length) (h2:L.length≤12) (h3:headOk L=true):ShR L names methods 0 :=
 ⟨by unfold shapeR;rw[if_neg (by omega),if_neg (by rw[h3];decide)];rfl,fun k c hk=>by omega⟩
theorem ShR.last {L:List ClassA} {names methods:Int} (h:ShR L names methods L.length):shapeR L names methods=0:=by
 rw[h.eq,List.drop_length];rfl
section
variable {L:List ClassA} {names methods:Int} {k:Nat} {c:ClassA}
theorem ShR.name (h:ShR L names methods k) (hc:L[k]?=some c) (e:textOk c.nm=false):shapeR L names methods=13:=by
 rw[h.eq,drop_next hc,shapeFrom,if_pos e]
theorem ShR.twice (h:ShR L names methods k) (hc:L[k]?=some c) {j:Nat} {x:ClassA} (hj:j < k) (hx:L[j]?=some x) (e:x.nm=c.nm):shapeR L names methods=13:=by
 rw[h.eq,drop_next hc,shapeFrom];have ha:(L.take k).any (fun x=>decide (x.nm=c.nm))=true:=by
  rw[List.any_eq_true];refine⟨x,?_,by simpa using e⟩;refine List.mem_of_getElem? (i:=j) ?_;rw[List.getElem?_take,if_pos hj];exact hx
 rw[if_pos ha]
 split <;> rfl
theorem anyNot (h:∀ x∈L.take k,x.nm≠c.nm):(L.take k).any (fun x=>decide (x.nm=c.nm))=false:=by
 rw[Bool.eq_false_iff];intro ha;obtain⟨x,hx,e⟩:=List.any_eq_true.1 ha;exact h x hx (by simpa using e)
theorem ShR.cls (h:ShR L names methods k) (hc:L[k]?=some c) (e:textOk c.nm=true) (hn:∀ x∈L.take k,x.nm≠c.nm) (hk:classOk L k c=false):shapeR L names methods=14:=by
 rw[h.eq,drop_next hc,shapeFrom,if_neg (by rw[e];decide),if_neg (by rw[anyNot hn];decide),if_pos hk]
theorem ShR.bnd (h:ShR L names methods k) (hc:L[k]?=some c) (e:textOk c.nm=true) (hn:∀ x∈L.take k,x.nm≠c.nm) (hk:classOk L k c=true) (hb:bindsOk c.binds names methods=false):shapeR L names methods=15:=by
 rw[h.eq,drop_next hc,shapeFrom,if_neg (by rw[e];decide),if_neg (by rw[anyNot hn];decide),if_neg (by rw[hk];decide),if_pos hb]
theorem classOk_down (hk:classOk L k c=true):-1≤c.super∧c.super < k:=by
 unfold classOk at hk;simp only[Bool.and_eq_true,decide_eq_true_eq] at hk;obtain⟨⟨⟨⟨⟨h1,h2⟩,_⟩,_⟩,_⟩,_⟩:=hk;exact⟨h1,h2⟩
theorem ShR.step (h:ShR L names methods k) (hc:L[k]?=some c) (e:textOk c.nm=true) (hn:∀ x∈L.take k,x.nm≠c.nm) (hk:classOk L k c=true) (hb:bindsOk c.binds names methods=true):ShR L names methods (k+1):=by
 refine⟨by rw[h.eq,drop_next hc,shapeFrom,if_neg (by rw[e];decide),if_neg (by rw[anyNot hn];decide),if_neg (by rw[hk];decide),if_neg (by rw[hb];decide)],fun j x hj hx=>?_⟩;rcases (show j < k∨j=k by omega) with hj | rfl
 ·exact h.down j x hj hx
 ·rw[hc] at hx;cases hx;exact classOk_down hk
end
theorem head_at {L:List ClassA} {a b:ClassA} (ha:L[0]?=some a) (hb:L[1]?=some b):headOk L=(decide (a.super=-1) && decide (b.super=-1) && decide (a.fields=4) && decide (b.fields=0)):=by
 match L,ha,hb with
 | x :: y :: R,ha,hb =>
  simp only[List.getElem?_cons_zero,Option.some.injEq] at ha;simp only[List.getElem?_cons_succ,List.getElem?_cons_zero,Option.some.injEq] at hb;subst ha;subst hb;rfl
theorem shape_short {L:List ClassA} {names methods:Int} (h:L.length < 2∨12 < L.length):shapeR L names methods=3:=by unfold shapeR;rw[if_pos h]
theorem shape_head {L:List ClassA} {names methods:Int} (h1:2≤L.length) (h2:L.length≤12) (h:headOk L=false):shapeR L names methods=14:=by unfold shapeR;rw[if_neg (by omega),if_pos h]
set_option maxHeartbeats 16000000 in
theorem shape_c {w:World} {v:Value} {L:List ClassA} (h:ClV w v L) (names methods:Int) (hn:In64 names) (hm:In64 methods) :
  Calls Tryz.prog 48 #[v,.int .i64 names,.int .i64 methods] w fun e w'=>e=.returned (.int .i64 (shapeR L names methods))∧Below w.heap.size w w':=by
 obtain⟨ad,cap,rfl,hcap,hmx⟩:=h.form;obtain⟨n,hnn⟩:∃ n,n=L.length:=⟨_,rfl⟩
 rw[← hnn] at h hcap ⊢;replace h:=HD h;have hn':=HD hnn;by_cases q0:n < 2
 ·have e:=HD (shape_short (names:=names) (methods:=methods) (Or.inl (by omega:L.length < 2)));have q0':(n:Int) < 2:=by omega
  go_enter Tryz.func48,Tryz.ntmps48
  go_wp2
  go_ret;exact⟨congrArg (fun b=>Ending.returned (Value.int .i64 b)) e.out.symm,Below.refl _ _⟩
 by_cases q1:12 < n
 ·have e:=HD (shape_short (names:=names) (methods:=methods) (Or.inr (by omega:12 < L.length)));have q0':¬ (n:Int) < 2:=by omega
  have q1':(12:Int) < (n:Int):=by omega
  go_enter Tryz.func48,Tryz.ntmps48
  go_wp2
  go_ret;exact⟨congrArg (fun b=>Ending.returned (Value.int .i64 b)) e.out.symm,Below.refl _ _⟩
 have q0':¬ (n:Int) < 2:=by omega
 have q1':¬ (12:Int) < (n:Int):=by omega
 have q2':(0:Int) < (n:Int):=by omega
 have q3':(1:Int) < (n:Int):=by omega
 obtain⟨a,ha⟩:∃ x,L[0]?=some x:=⟨L[0]'(by omega),by simp⟩
 obtain⟨b,hb⟩:∃ x,L[1]?=some x:=⟨L[1]'(by omega),by simp⟩
 have hh:=head_at ha hb;obtain⟨⟨s0,s1⟩,⟨f0,f1⟩,g,off,bv,rfl,_,c1,c2,_,_⟩:=h.out.at ha;obtain⟨⟨t0,t1⟩,⟨v0,v1⟩,g',off',bv',eg,_,d1,d2,_,_⟩:=h.out.at hb;cases eg;clear hmx;obtain⟨an,sa,af,ab⟩:=a;obtain⟨bn,sb,bf,bb⟩:=b;simp only at s0 s1 f0 f1 t0 t1 v0 v1 c1 c2 d1 d2 hh;by_cases z0:¬ sa=-1
 ·have e:=HD (shape_head (L:=L) (names:=names) (methods:=methods) (by omega) (by omega) (by rw[hh];simp[z0]));have z0':(sa != -1)=true:=by simpa using z0
  clear hh hnn ha hb;go_enter Tryz.func48,Tryz.ntmps48
  go_wp2
  go_ret;exact⟨congrArg (fun b=>Ending.returned (Value.int .i64 b)) e.out.symm,Below.refl _ _⟩
 have z0':sa=-1:=by omega
 subst z0';by_cases z1:¬ sb=-1
 ·have e:=HD (shape_head (L:=L) (names:=names) (methods:=methods) (by omega) (by omega) (by rw[hh];simp[z1]));have z1':(sb != -1)=true:=by simpa using z1
  clear hh hnn ha hb;go_enter Tryz.func48,Tryz.ntmps48
  go_wp2
  go_ret;exact⟨congrArg (fun b=>Ending.returned (Value.int .i64 b)) e.out.symm,Below.refl _ _⟩
 have z1':sb=-1:=by omega
 subst z1';by_cases z2:¬ af=4
 ·have e:=HD (shape_head (L:=L) (names:=names) (methods:=methods) (by omega) (by omega) (by rw[hh];simp[z2]));have z2':(af != 4)=true:=by simpa using z2
  clear hh hnn ha hb;go_enter Tryz.func48,Tryz.ntmps48
  go_wp2
  go_ret;exact⟨congrArg (fun b=>Ending.returned (Value.int .i64 b)) e.out.symm,Below.refl _ _⟩
 have z2':af=4:=by omega
 subst z2';by_cases z3:¬ bf=0
 ·have e:=HD (shape_head (L:=L) (names:=names) (methods:=methods) (by omega) (by omega) (by rw[hh];simp[z3]));have z3':(bf != 0)=true:=by simpa using z3
  clear hh hnn ha hb;go_enter Tryz.func48,Tryz.ntmps48
  go_wp2
  go_ret;exact⟨congrArg (fun b=>Ending.returned (Value.int .i64 b)) e.out.symm,Below.refl _ _⟩
 have z3':bf=0:=by omega
 subst z3';have hst:Hid (ShR L names methods 0):=HD (ShR.start (by omega) (by omega) (by rw[hh];rfl));have hn12:n≤12:=by omega
 clear hh hnn ha hb z0 z1 z2 z3 s0 s1 f0 f1 t0 t1 v0 v1;go_enter Tryz.func48,Tryz.ntmps48
 go_wp2
 clear c1 c2 d1 d2
 go_loopw [47] (fun i47 wr=>∃ (k:Nat),k≤n∧i47=.int .i64 k∧Hid (ShR L names methods k)∧Hid (Below w.heap.size w wr)) (fun i47 _=>n - (intOf i47).toNat)
 case atStart=>exact⟨0,by omega,rfl,hst,HD (Below.refl _ _)⟩
 case round =>
  obtain⟨k,hk,rfl,hR,hB⟩:=hrel;by_cases hlt:k < n
  ·have hlt':decide ((k:Int) < (n:Int))=true:=by simp;omega
   have p0:(0:Int)≤(k:Int):=by omega
   have p1:(k:Int) < (n:Int):=by omega
   have p2:(k:Int)≤(cap:Int):=by omega
   obtain⟨⟨nm,s,fl,bds⟩,hc⟩:∃ x,L[k]?=some x:=⟨L[k]'(by have:=hn'.out;omega),by simp⟩
   obtain⟨_,_,g',off',bv,eg,c0,c1,c2,c3,hbv⟩:=(h.out.up hB.out).at hc;cases eg;obtain⟨ba,bc,rfl,_⟩:=hbv.form;simp only at c0 c1 c2 c3 hbv;generalize bds.length=bm at *;have hc':=HD hc;have hs0:=hB.out.size;have hb1:=(Below.refl w.heap.size wr).alloc hs0 (.cells #[.string nm,.int .i64 s,.int .i64 fl,.slice ba bm bc] 60);have hb1':=(Below.refl wr.heap.size wr).alloc (Nat.le_refl _) (.cells #[.string nm,.int .i64 s,.int .i64 fl,.slice ba bm bc] 60);have hB':=HD (hB.out.trans hb1);have hbv':=HD (hbv.up hb1');have h':=HD (h.out.up hB'.out);have k0:Hid ((wr.alloc (.cells #[.string nm,.int .i64 s,.int .i64 fl,.slice ba bm bc] 60)).cell? ⟨wr.heap.size,0,none⟩=some (.string nm)):=HD (by simp);have k3:Hid ((wr.alloc (.cells #[.string nm,.int .i64 s,.int .i64 fl,.slice ba bm bc] 60)).cell? ⟨wr.heap.size,3,none⟩=some (.slice ba bm bc)):=HD (by simp);clear hbv hc hb1 hb1';by_cases ht:textOk nm=false
   ·have e:=HD (hR.out.name hc'.out ht);have PT:=HD (text_c nm);rw[ht] at PT
    go_wp2_with (first | (go_at_call 78;((with_reducible refine (PT.out _).mono ?_);rintro e1 w2 ⟨rfl,hw2⟩;subst w2)))
    go_ret;exact⟨congrArg (fun b=>Ending.returned (Value.int .i64 b)) e.out.symm,hB'.out⟩
   have ht':textOk nm=true:=by simpa using ht
   have PT:=HD (text_c nm);rw[ht'] at PT
   go_upto_region 10 with (first | (go_at_call 78;((with_reducible refine (PT.out _).mono ?_);rintro e1 w2 ⟨rfl,hw2⟩;subst w2)))
   generalize wr.alloc (.cells #[.string nm,.int .i64 s,.int .i64 fl,.slice ba bm bc] 60)=w1 at *;generalize wr.heap.size=B8 at *;have hdl:Hid (∀ x∈L.take 0,x.nm≠nm):=HD (by simp);clear h hB hs0 c0 c1 c2 c3 hst PT
   go_wp2
   go_loopw [60] (fun i60 wi=>∃ (j:Nat),j≤k∧i60=.int .i64 j∧Hid (∀ x∈L.take j,x.nm≠nm)∧Hid (Below w1.heap.size w1 wi)) (fun i60 _=>k - (intOf i60).toNat)
   case atStart=>exact⟨0,by omega,rfl,hdl,HD (Below.refl _ _)⟩
   case round =>
    obtain⟨j,hj,rfl,hD,hBi⟩:=hrel;have d8:=cell_up hBi.out k0.out;have hlt8:=World.block_lt_of_cell? _ _ d8;by_cases hjt:j < k
    ·have hjt':decide ((j:Int) < (k:Int))=true:=by simp;omega
     have r0:(0:Int)≤(j:Int):=by omega
     have r1:(j:Int) < (k:Int):=by omega
     obtain⟨⟨xn,xs,xf,xb⟩,hx⟩:∃ x,L[j]?=some x:=⟨L[j]'(by have:=hn'.out;omega),by simp⟩
     obtain⟨_,_,g',off',xv,eg,d0,d1,d2,d3,xbv⟩:=(h'.out.up hBi.out).at hx;cases eg;obtain⟨xa,xc,rfl,_⟩:=xbv.form;simp only at d0 d1 d2 d3 xbv;generalize xb.length=xm at *;have hx':=HD hx;have d8':(wr.alloc (.cells #[.string xn,.int .i64 xs,.int .i64 xf,.slice xa xm xc] 60)).cell? ⟨B8,0,none⟩=some (.string nm):=(World.cell?_alloc_old _ _ _ (Nat.ne_of_lt hlt8)).trans d8;clear hx xbv;by_cases he:xn=nm
     ·have e:=HD (hR.out.twice hc'.out hjt hx'.out he);have he':(xn.toList == nm.toList)=true:=bl_eq he;clear he
      go_wp2
      go_ret;exact⟨congrArg (fun b=>Ending.returned (Value.int .i64 b)) e.out.symm,(hB'.out.trans (hBi.out.mono (by have:=hB'.out.size;omega))).alloc (by have:=hB'.out.size;have:=hBi.out.size;omega) _⟩
     ·have he':(xn.toList == nm.toList)=false:=bl_ne he;have hD':Hid (∀ x∈L.take (j+1),x.nm≠nm):=HD (fun x hx=>by
       rw[take_next hx'.out] at hx;rcases List.mem_append.1 hx with hx | hx
       ·exact hD.out x hx
       ·rw[List.mem_singleton.1 hx];exact he)
      go_wp2
      go_roundw
      case rel=>exact⟨j+1,by omega,by go_num,hD',HD (hBi.out.alloc hBi.out.size _)⟩
      case measure=>simp[intOf];omega
    ·have hDk:=hD.out;rw[show j=k by omega] at hDk;have hB2:=HD (hB'.out.trans (hBi.out.mono (by have:=hB'.out.size;omega)));have PC:=HD (class_c (h'.out.up hBi.out) hc'.out hR.out.down (by have:=hn'.out;omega));have d3:=cell_up hBi.out k3.out;have hlt3:=World.block_lt_of_cell? _ _ d3;by_cases hk1:classOk L k ⟨nm,s,fl,bds⟩=false
     ·have e:=HD (hR.out.cls hc'.out ht' hDk hk1);rw[hk1] at PC;clear hDk
      go_wp2_with (first | (go_at_call 79;((with_reducible refine PC.out.mono ?_);rintro e1 w2 ⟨rfl,hw2⟩)))
      go_ret;exact⟨congrArg (fun b=>Ending.returned (Value.int .i64 b)) e.out.symm,hB2.out.trans (hw2.mono (by have:=hB2.out.size;omega))⟩
     have hk2:classOk L k ⟨nm,s,fl,bds⟩=true:=by simpa using hk1
     rw[hk2] at PC
     go_wp2_with (first | (go_at_call 79;((with_reducible refine PC.out.mono ?_);rintro e1 w2 ⟨rfl,hw2⟩;have d3':=cell_up hw2 d3;clear d3;go_wp2_with fail)))
     have PB:=HD (binds_c ((hbv'.out.up hBi.out).up hw2) names methods hn hm);have hB3:=HD (hB2.out.trans (hw2.mono (by have:=hB2.out.size;omega)));by_cases hb1:bindsOk bds names methods=false
     ·have e:=HD (hR.out.bnd hc'.out ht' hDk hk2 hb1);rw[hb1] at PB;clear hDk
      go_wp2_with (first | (go_at_call 80;((with_reducible refine PB.out.mono ?_);rintro e1 w3 ⟨rfl,hw3⟩)))
      go_ret;exact⟨congrArg (fun b=>Ending.returned (Value.int .i64 b)) e.out.symm,hB3.out.trans (hw3.mono (by have:=hB3.out.size;omega))⟩
     have hb2:bindsOk bds names methods=true:=by simpa using hb1
     rw[hb2] at PB;have hR':=HD (hR.out.step hc'.out ht' hDk hk2 hb2);clear hDk
     go_wp2_with (first | (go_at_call 80;((with_reducible refine PB.out.mono ?_);rintro e1 w3 ⟨rfl,hw3⟩)))
     go_roundw
     case rel=>exact⟨k+1,by omega,by go_num,hR',HD (hB3.out.trans (hw3.mono (by have:=hB3.out.size;omega)))⟩
     case measure=>simp[intOf];omega
  ·have e:Hid (shapeR L names methods=0):=HD (ShR.last (by have:=hR.out;rw[show k=L.length by have:=hn'.out;omega] at this;exact this))
   go_wp2
   go_ret;exact⟨congrArg (fun b=>Ending.returned (Value.int .i64 b)) e.out.symm,hB.out⟩
def DK (k:Nat):Dst:=List.replicate k (-1,0)++List.replicate (16 - k) (0,0)
theorem DK_all:DK 16=D0:=rfl
theorem DK_next {k:Nat} (hk:k < 16):(DK k).set k (-1,metA (DK k) k)=DK (k+1):=by
 rcases (show k=0∨k=1∨k=2∨k=3∨k=4∨k=5∨k=6∨k=7∨k=8∨k=9∨k=10∨k=11∨k=12∨k=13∨k=14∨k=15 by omega) with rfl | rfl | rfl | rfl | rfl | rfl | rfl | rfl | rfl | rfl | rfl | rfl | rfl | rfl | rfl | rfl <;> rfl
theorem zero_ref (w:World):RefD (w.alloc (.cells #[.int .i64 0,.int .i64 0,.int .i64 0,.int .i64 0,.int .i64 0,.int .i64 0,.int .i64 0,.int .i64 0,.int .i64 0,.int .i64 0,.int .i64 0,.int .i64 0,.int .i64 0,.int .i64 0,.int .i64 0,.int .i64 0,.int .i64 0,.int .i64 0,.int .i64 0,.int .i64 0,.int .i64 0,.int .i64 0,.int .i64 0,.int .i64 0,.int .i64 0,.int .i64 0,.int .i64 0,.int .i64 0,.int .i64 0,.int .i64 0,.int .i64 0,.int .i64 0] 142)) w.heap.size (DK 0):=by
 have hh:(w.alloc (.cells #[.int .i64 0,.int .i64 0,.int .i64 0,.int .i64 0,.int .i64 0,.int .i64 0,.int .i64 0,.int .i64 0,.int .i64 0,.int .i64 0,.int .i64 0,.int .i64 0,.int .i64 0,.int .i64 0,.int .i64 0,.int .i64 0,.int .i64 0,.int .i64 0,.int .i64 0,.int .i64 0,.int .i64 0,.int .i64 0,.int .i64 0,.int .i64 0,.int .i64 0,.int .i64 0,.int .i64 0,.int .i64 0,.int .i64 0,.int .i64 0,.int .i64 0,.int .i64 0] 142)).heap[w.heap.size]?=some (.cells #[.int .i64 0,.int .i64 0,.int .i64 0,.int .i64 0,.int .i64 0,.int .i64 0,.int .i64 0,.int .i64 0,.int .i64 0,.int .i64 0,.int .i64 0,.int .i64 0,.int .i64 0,.int .i64 0,.int .i64 0,.int .i64 0,.int .i64 0,.int .i64 0,.int .i64 0,.int .i64 0,.int .i64 0,.int .i64 0,.int .i64 0,.int .i64 0,.int .i64 0,.int .i64 0,.int .i64 0,.int .i64 0,.int .i64 0,.int .i64 0,.int .i64 0,.int .i64 0] 142 (0,0)):=heap_alloc_new _ _;generalize w.alloc (.cells #[.int .i64 0,.int .i64 0,.int .i64 0,.int .i64 0,.int .i64 0,.int .i64 0,.int .i64 0,.int .i64 0,.int .i64 0,.int .i64 0,.int .i64 0,.int .i64 0,.int .i64 0,.int .i64 0,.int .i64 0,.int .i64 0,.int .i64 0,.int .i64 0,.int .i64 0,.int .i64 0,.int .i64 0,.int .i64 0,.int .i64 0,.int .i64 0,.int .i64 0,.int .i64 0,.int .i64 0,.int .i64 0,.int .i64 0,.int .i64 0,.int .i64 0,.int .i64 0] 142)=W at hh ⊢;generalize w.heap.size=b at hh ⊢;have hs:∀ k,k < 16→selA (DK 0) k=0:=fun k hk=>by rcases (show k=0∨k=1∨k=2∨k=3∨k=4∨k=5∨k=6∨k=7∨k=8∨k=9∨k=10∨k=11∨k=12∨k=13∨k=14∨k=15 by omega) with rfl | rfl | rfl | rfl | rfl | rfl | rfl | rfl | rfl | rfl | rfl | rfl | rfl | rfl | rfl | rfl <;> rfl
 have hm:∀ k,k < 16→metA (DK 0) k=0:=fun k hk=>by rcases (show k=0∨k=1∨k=2∨k=3∨k=4∨k=5∨k=6∨k=7∨k=8∨k=9∨k=10∨k=11∨k=12∨k=13∨k=14∨k=15 by omega) with rfl | rfl | rfl | rfl | rfl | rfl | rfl | rfl | rfl | rfl | rfl | rfl | rfl | rfl | rfl | rfl <;> rfl
 refine⟨rfl,fun k hk=>by rw[hs k hk];constructor <;> omega,fun k hk=>by rw[hm k hk];constructor <;> omega,fun k hk=>?_,fun k hk=>?_,fun k=>by simp[World.frozen?,hh]⟩
 ·rw[hs k hk];rcases (show k=0∨k=1∨k=2∨k=3∨k=4∨k=5∨k=6∨k=7∨k=8∨k=9∨k=10∨k=11∨k=12∨k=13∨k=14∨k=15 by omega) with rfl | rfl | rfl | rfl | rfl | rfl | rfl | rfl | rfl | rfl | rfl | rfl | rfl | rfl | rfl | rfl <;> simp[World.cell?,hh]
 ·rw[hm k hk];rcases (show k=0∨k=1∨k=2∨k=3∨k=4∨k=5∨k=6∨k=7∨k=8∨k=9∨k=10∨k=11∨k=12∨k=13∨k=14∨k=15 by omega) with rfl | rfl | rfl | rfl | rfl | rfl | rfl | rfl | rfl | rfl | rfl | rfl | rfl | rfl | rfl | rfl <;> simp[World.cell?,hh]
set_option maxHeartbeats 8000000 in
theorem new_c (w:World) :
  Calls Tryz.prog 81 #[] w fun e w'=>∃ b,e=.returned (.pointer (some ⟨b,0,none⟩))∧RefD w' b D0∧w.heap.size≤b∧Below w.heap.size w w':=by
 go_enter Tryz.func81,Tryz.ntmps81
 go_upto_region 2 with fail
 have hR:=HD (zero_ref w);have hB:=HD ((Below.refl w.heap.size w).alloc (Nat.le_refl _) (.cells #[.int .i64 0,.int .i64 0,.int .i64 0,.int .i64 0,.int .i64 0,.int .i64 0,.int .i64 0,.int .i64 0,.int .i64 0,.int .i64 0,.int .i64 0,.int .i64 0,.int .i64 0,.int .i64 0,.int .i64 0,.int .i64 0,.int .i64 0,.int .i64 0,.int .i64 0,.int .i64 0,.int .i64 0,.int .i64 0,.int .i64 0,.int .i64 0,.int .i64 0,.int .i64 0,.int .i64 0,.int .i64 0,.int .i64 0,.int .i64 0,.int .i64 0,.int .i64 0] 142));generalize w.alloc (.cells #[.int .i64 0,.int .i64 0,.int .i64 0,.int .i64 0,.int .i64 0,.int .i64 0,.int .i64 0,.int .i64 0,.int .i64 0,.int .i64 0,.int .i64 0,.int .i64 0,.int .i64 0,.int .i64 0,.int .i64 0,.int .i64 0,.int .i64 0,.int .i64 0,.int .i64 0,.int .i64 0,.int .i64 0,.int .i64 0,.int .i64 0,.int .i64 0,.int .i64 0,.int .i64 0,.int .i64 0,.int .i64 0,.int .i64 0,.int .i64 0,.int .i64 0,.int .i64 0] 142)=W at *;obtain⟨b,hb⟩:∃ b,w.heap.size=b:=⟨_,rfl⟩
 rw[hb] at hR hB ⊢
 go_wp2
 go_loopw [5] (fun i5 wr=>∃ k:Nat,k≤16∧i5=.int .i64 k∧Hid (RefD wr b (DK k))∧Hid (Below b w wr)) (fun i5 _=>16 - (intOf i5).toNat)
 case atStart=>exact⟨0,by omega,rfl,hR,hB⟩
 case round =>
  clear hR hB;obtain⟨k,hk,rfl,hR,hB⟩:=hrel;by_cases hlt:k < 16
  ·have d1:decide ((k:Int) < 16)=true:=by simp;omega
   have i0:(0:Int)≤(k:Int):=by omega
   have i1:(k:Int) < 16:=by omega
   have c1:=hR.out.cs k hlt;have z1:=hR.out.z k;have h1:=hR.out.set1 hlt (x:=-1) ⟨by omega,by omega⟩;rw[DK_next hlt] at h1;have hR':=HD h1;have hB':Hid (Below b w (wr.setCell ⟨b,k,none⟩ (.int .i64 (-1)))):=HD (hB.out.setCell (p:=⟨b,k,none⟩) (Nat.le_refl _) _);clear h1
   go_wp2
   go_roundw
   case rel=>exact⟨k+1,by omega,by go_num,hR',hB'⟩
   case measure=>simp[intOf];omega
  ·have d1:decide ((k:Int) < 16)=false:=by simp;omega
   have hR':RefD wr b D0:=by rw[← DK_all,← show k=16 by omega];exact hR.out
   go_wp2
   go_ret;exact⟨b,rfl,hR',by rw[hb];exact Nat.le_refl _,by rw[hb];exact hB.out⟩
theorem of_step {B:List (Int × Int)} {D:Dst} {k:Nat} {x:Int × Int} (h:B[k]?=some x) (hb:putB D x.1=true):ofD (B.drop k) D=ofD (B.drop (k+1)) (putD D x.1 x.2):=by
 rw[drop_next h,ofD,if_pos hb]
theorem of_stop {B:List (Int × Int)} {D:Dst} {k:Nat} {x:Int × Int} (h:B[k]?=some x) (hb:putB D x.1=false):ofD (B.drop k) D=none:=by
 rw[drop_next h,ofD,if_neg (by rw[hb];decide)]
theorem rel_below {w0 wr w1:World} {b:Nat} (h:Below w0.heap.size w0 wr) (c:Ch (fun k=>k=b) wr w1) (hb:w0.heap.size≤b):Below w0.heap.size w0 w1:=below_ch h c (fun k hk=>by subst hk;exact hb)
set_option maxHeartbeats 8000000 in
theorem rof_c {w:World} {v:Value} {B:List (Int × Int)} (h:PrV w v B) :
  Calls Tryz.prog 49 #[v] w fun e w'=>((∃ D b,ofD B D0=some D∧e=.returned (.tuple #[.pointer (some ⟨b,0,none⟩),.bool true])∧RefD w' b D∧w.heap.size≤b)∨(ofD B D0=none∧e=.returned (.tuple #[.pointer none,.bool false])))∧Below w.heap.size w w':=by
 obtain⟨ad,cap,rfl,hcap,hmx⟩:=h.form;obtain⟨n,hn⟩:∃ n,n=B.length:=⟨_,rfl⟩
 rw[← hn] at h hcap ⊢;replace h:=HD h;have hn':=HD hn
 have hnm:n≤9223372036854775807:=by have:maxLen≤9223372036854775807:=by decide
                                    omega
 clear hmx hn;go_enter Tryz.func49,Tryz.ntmps49
 go_upto_region 2 with (first | (go_at_call 81;((with_reducible refine (new_c _).mono ?_);rintro e1 w1 ⟨b,rfl,hR,hb,hB⟩)))
 replace hR:=HD hR;replace hB:=HD hB;have hst:Hid (ofD B D0=ofD (B.drop 0) D0):=HD (by simp)
 go_wp2
 go_loopw [10] (fun i10 wr=>∃ (k:Nat) (D:Dst),k≤n∧i10=.int .i64 k∧Hid (RefD wr b D)∧Hid (ofD B D0=ofD (B.drop k) D)∧Hid (Below w.heap.size w wr)) (fun i10 _=>n - (intOf i10).toNat)
 case atStart=>exact⟨0,D0,by omega,rfl,hR,hst,hB⟩
 case round =>
  clear hR hst hB;obtain⟨k,D,hk,rfl,hR,hO,hB⟩:=hrel;by_cases hlt:k < n
  ·have d1:decide ((k:Int) < (n:Int))=true:=by simp;omega
   have p0:(0:Int)≤(k:Int):=by omega
   have p1:(k:Int) < (n:Int):=by omega
   obtain⟨⟨bs,bm⟩,hx⟩:∃ x,B[k]?=some x:=⟨B[k]'(by have:=hn'.out;omega),by simp⟩
   obtain⟨s64,m64,g,off,rfl,c0,c1⟩:=(h.out.up hB.out).at hx;simp only at s64 m64 c0 c1;have hB1:=HD (hB.out.alloc hB.out.size (.cells #[.int .i64 bs,.int .i64 bm] 66));have hR1:=hR.out.keep ((Below.refl wr.heap.size wr).alloc (Nat.le_refl _) (.cells #[.int .i64 bs,.int .i64 bm] 66));have PP:=put_c hR1 bs bm s64 m64;have hs:=fun h=>of_step (D:=D) hx h;have ht:=fun h=>of_stop (D:=D) hx h;clear hx;cases hpb:putB D bs with
   | true =>
    rw[hpb] at PP;replace PP:=HD PP;have hO':=HD (hO.out.trans (hs hpb));clear hpb hs ht hR1
    go_wp2_with (first | (go_at_call 82;((with_reducible refine PP.out.mono ?_);rintro e1 w2 ⟨rfl,hR2,hc2⟩)))
    go_roundw
    case rel=>exact⟨k+1,_,by omega,by go_num,HD hR2,hO',HD (rel_below hB1.out hc2 hb)⟩
    case measure=>simp[intOf];omega
   | false =>
    rw[hpb] at PP;replace PP:=HD PP;have hO':=HD (hO.out.trans (ht hpb));clear hpb hs ht hR1
    go_wp2_with (first | (go_at_call 82;((with_reducible refine PP.out.mono ?_);rintro e1 w2 ⟨rfl,hR2,hc2⟩)))
    go_ret2
    exact⟨Or.inr ⟨hO'.out,rfl⟩,rel_below hB1.out hc2 hb⟩
  ·have d1:decide ((k:Int) < (n:Int))=false:=by simp;omega
   have e:=hO.out;rw[show k=B.length by have:=hn'.out;omega,List.drop_length,ofD] at e;replace e:=HD e
   go_wp2
   go_ret2
   exact⟨Or.inl ⟨D,b,e.out,rfl,hR.out,hb⟩,hB.out⟩
structure Rw (w0 w wr:World) (p n:Nat) (ad:Option Addr) (v0 v:Value) (T:TypeId) (sz len:Nat) (xs:List Value):Prop where
 ks:Ks w0 wr p n ad
 cd:wr.ownsRow w0.heap.size T sz v len xs
 cg:Cg (fun k=>k=p∨v0.ownBlock=some k) w wr
 ob:∀ k,v.ownBlock=some k→v0.ownBlock=some k∨w.heap.size≤k
 b0:∀ k,v0.ownBlock=some k→w0.heap.size≤k
 s0:w0.heap.size≤w.heap.size
section
variable {w0 w w1 w2:World} {p n sz len len':Nat} {ad:Option Addr} {v v' v0:Value} {T:TypeId} {xs xs':List Value}
theorem Rw.start (ks:Ks w0 w p n ad) (cd:w.ownsRow w0.heap.size T sz v len xs):Rw w0 w w p n ad v v T sz len xs :=
 ⟨ks,cd,Cg.refl _ _,fun k hk=>Or.inl hk,fun k hk=>(cd.lt k hk).1,ks.cg.size⟩
theorem Rw.nil (ks:Ks w0 w p n ad) (T:TypeId) (sz:Nat):Rw w0 w w p n ad (.slice none 0 0) (.slice none 0 0) T sz 0 []:=Rw.start ks (World.ownsRow_nil _ _ _ _)
theorem Rw.keep (h:Rw w0 w w1 p n ad v0 v T sz len xs) (b:Below w1.heap.size w1 w2):Rw w0 w w2 p n ad v0 v T sz len xs :=
 ⟨h.ks.keep b,row_cg (F:=fun _=>False) h.cd (Cg.below _ b) (fun _ _ hf=>hf),h.cg.trans (Cg.below _ b),h.ob,h.b0,h.s0⟩
theorem Rw.next (h:Rw w0 w w1 p n ad v0 v T sz len xs) (t:Tp w2 p ad n) (c:Cg (fun k=>k=p) w1 w2):Rw w0 w w2 p n ad v0 v T sz len xs :=
 ⟨h.ks.step t c,row_cg h.cd c (fun k hk e=>by have:=(h.cd.lt k hk).1;have:=h.ks.p0;omega),h.cg.trans (c.mono (fun k hk=>Or.inl hk)),h.ob,h.b0,h.s0⟩
theorem Rw.grow (h:Rw w0 w w1 p n ad v0 v T sz len xs) {wA:World} (hA:Below w1.heap.size w1 wA) (hown:w2.ownsRow w0.heap.size T sz v' len' xs') (hg:wA.grownBy w2 v.ownBlock) (hob:∀ k,v'.ownBlock=some k→v.ownBlock=some k∨k=wA.heap.size):Rw w0 w w2 p n ad v0 v' T sz len' xs':=by
 have hs:w1.heap.size≤wA.heap.size:=hA.size;have hc:Cg (fun k=>v.ownBlock=some k) w1 w2:=(Cg.below _ hA).grown hg (fun k e=>Or.inl e);refine⟨h.ks.other hc (fun k hk=>(h.cd.lt k hk).1),hown,h.cg.trans' hc (fun k hk=>?_),fun k hk=>?_,h.b0,h.s0⟩
 ·rcases h.ob k hk with e | e
  ·exact Or.inl (Or.inr e)
  ·exact Or.inr e
 ·rcases hob k hk with e | e
  ·exact h.ob k e
  ·have:=h.cg.size;exact Or.inr (by omega)
end
theorem row_shape {w:World} {base size n:Nat} {e:TypeId} {v:Value} {xs:List Value} (h:w.ownsRow base e size v n xs):∃ a c,v=.slice a n c:=by
 rcases h.2 with ⟨rfl,h0⟩ | ⟨g,cap,cur,rfl,_⟩
 ·exact⟨_,_,by rw[h0]⟩
 ·exact⟨_,_,rfl⟩
theorem at_hat {a:Option Addr} {m c g1 n1 c1 H:Nat} (hat:(Value.slice a m c).ownBlock=some g1∨g1=H):∀ k,(Value.slice (some ⟨g1,0,none⟩) n1 c1).ownBlock=some k→(Value.slice a m c).ownBlock=some k∨k=H:=by
 intro k hk;have:g1=k:=by simpa [Value.ownBlock] using hk
 subst this;exact hat
theorem infoVal:(Tryz.prog.info? 68).map (fun i=>(i.zero,i.size,i.bytes))=some (some (.agg #[.int .i64 0,.int .i64 0]),2,16):=by kernel_rfl
theorem pair_at {w:World} {g:Nat} {x y:Int} (h0:w.cell? ⟨g,0,none⟩=some (.int .i64 x)) (h1:w.cell? ⟨g,1,none⟩=some (.int .i64 y)):∀ j u,(pr2 [(x,y)])[j]?=some u→w.cell? ((⟨g,0,none⟩:Addr).add j)=some u:=by
 intro j u hu
 match j,hu with
 | 0,hu =>
  simp[pr2] at hu;subst hu;rw[Addr.add_lit];exact h0
 | 1,hu =>
  simp[pr2] at hu;subst hu;rw[Addr.add_lit];exact h1
def argOf (s:Nat):Int:=[0,1,1,2,0,0].getD s 0
theorem argOf_le (s:Nat):0≤argOf s∧argOf s≤2:=by
 unfold argOf
 match s with
 | 0 | 1 | 2 | 3 | 4 | 5=>decide
 | s+6=>simp
theorem args_c (s:Nat) (hs:s < 6) (w:World) :
  Calls Tryz.prog 24 #[.int .i64 s] w fun e w'=>e=.returned (.int .i64 (argOf s))∧Below w.heap.size w w':=by
 rcases (show s=0∨s=1∨s=2∨s=3∨s=4∨s=5 by omega) with rfl | rfl | rfl | rfl | rfl | rfl
 all_goals
  go_enter Tryz.func24,Tryz.ntmps24
  go_wp2
  go_ret;exact⟨rfl,(Below.refl _ _).alloc (Nat.le_refl _) _⟩
def nameL:List ByteArray:=[⟨#[103,111]⟩,⟨#[100,111,58]⟩,⟨#[43]⟩,⟨#[97,116,58,112,117,116,58]⟩,⟨#[120]⟩,⟨#[121,57]⟩]
def strs (L:List ByteArray):List Value:=L.map Value.string
theorem names_c (w:World) :
  Calls Tryz.prog 21 #[] w fun e w'=>e=.returned (.slice (some ⟨w.heap.size,0,none⟩) 6 6)∧w'=w.alloc (.cells (strs nameL).toArray 9):=by
 go_enter Tryz.func21,Tryz.ntmps21
 go_wp2
 go_ret;exact⟨rfl,rfl⟩
def numLit (x:Int × Int):Prop:=x.1=3∧(x.2=0∨x.2=7∨x.2=1073741823∨x.2=-1073741824∨x.2=100000)
def sels (k:Nat):List (Int × Int):=(List.range k).map (fun (i:Nat)=>((5:Int),(i:Int)))
theorem sels_succ (k:Nat):sels (k+1)=sels k++[(5,(k:Int))]:=by simp[sels,List.range_succ]
def clsLit (c:Int) (x:Int × Int):Prop:=x.1=6∧2≤x.2∧x.2 < c
def litsOk (c:Int) (X:List (Int × Int)):Prop:=∃ A B,X=A++sels 6++B++[(7,7),(7,8)]∧A.length=4∧B.length=2∧(∀ x∈A,numLit x)∧∀ x∈B,clsLit c x
theorem quad_at {w:World} {g:Nat} {x y z u:Int} (h0:w.cell? ⟨g,0,none⟩=some (.int .i64 x)) (h1:w.cell? ⟨g,1,none⟩=some (.int .i64 y)) (h2:w.cell? ⟨g,2,none⟩=some (.int .i64 z)) (h3:w.cell? ⟨g,3,none⟩=some (.int .i64 u)):∀ j v,(pr2 [(x,y),(z,u)])[j]?=some v→w.cell? ((⟨g,0,none⟩:Addr).add j)=some v:=by
 intro j v hu
 match j,hu with
 | 0,hu =>
  simp[pr2] at hu;subst hu;rw[Addr.add_lit];exact h0
 | 1,hu =>
  simp[pr2] at hu;subst hu;rw[Addr.add_lit];exact h1
 | 2,hu =>
  simp[pr2] at hu;subst hu;rw[Addr.add_lit];exact h2
 | 3,hu =>
  simp[pr2] at hu;subst hu;rw[Addr.add_lit];exact h3
set_option maxHeartbeats 64000000 in
theorem lits_c {w0 w:World} {p n:Nat} {ad:Option Addr} (h:Ks w0 w p n ad) (c:Int) (hc0:3≤c) (hc1:c≤100) :
  Calls Tryz.prog 44 #[.pointer (some ⟨p,0,none⟩),.int .i64 c] w fun e w'=>∃ v' X,e=.returned v'∧litsOk c X∧Rw w0 w w' p n ad (.slice none 0 0) v' 68 2 14 (pr2 X):=by
 obtain⟨i0,hi0,hz0,hz1,hz2⟩:=info_parts infoVal;have hmx:100000≤maxLen:=by decide
 have hst:=HD (Rw.nil h 68 2);have hsz0:=h.cg.size;clear h;go_enter Tryz.func44,Tryz.ntmps44
 go_wp2
 go_loopw [5,6] (fun i5 i6 wr=>∃ (k:Nat) (X:List (Int × Int)) (a:Option Addr) (cp:Nat),k≤4∧i6=.int .i64 k∧i5=.slice a k cp∧Hid (X.length=k∧(∀ x∈X,numLit x)∧Rw w0 w wr p n ad (.slice none 0 0) (.slice a k cp) 68 2 k (pr2 X))) (fun _ i6 _=>4 - (intOf i6).toNat)
 case atStart=>exact⟨0,[],none,0,by omega,rfl,rfl,HD ⟨rfl,by simp,hst.out⟩⟩
 case round =>
  obtain⟨k,X,a,cp,hk,rfl,rfl,hX⟩:=hrel;by_cases hk4:k < 4
  ·have hk4':(k:Int) < 4:=by omega
   have hb1:=(Below.refl wr.heap.size wr).alloc (Nat.le_refl _) (.cells #[.int .i64 0,.int .i64 7,.int .i64 1073741823,.int .i64 (-1073741824),.int .i64 100000] 3);have h1:=HD (hX.out.2.2.keep hb1);clear hb1
   go_wp2_with fail
   refine (next_c 5 (by omega) (by omega) h1.out.ks.tp).mono ?_;rintro e w2 ⟨x,rfl,⟨x0,x1⟩,t1,c1⟩;have h2:=HD (h1.out.next t1 c1);have hsz:=hX.out.2.2.ks.cg.size;have hp0:=hX.out.2.2.ks.p0;have hne:wr.heap.size≠p:=by omega
   have kb:=c1.block wr.heap.size (by simp) hne;obtain⟨s,hs,j,rfl,hj,hc⟩:∃ s:Int,(s=0∨s=7∨s=1073741823∨s=-1073741824∨s=100000)∧∃ j:Nat,x=j∧j < 5∧w2.cell? ⟨wr.heap.size,j,none⟩=some (.int .i64 s):=by
    rcases (show x=0∨x=1∨x=2∨x=3∨x=4 by omega) with rfl | rfl | rfl | rfl | rfl
    ·exact⟨0,by omega,0,rfl,by omega,(World.cell?_of_block (a:=⟨wr.heap.size,0,none⟩) kb).trans (by simp)⟩
    ·exact⟨7,by omega,1,rfl,by omega,(World.cell?_of_block (a:=⟨wr.heap.size,1,none⟩) kb).trans (by simp)⟩
    ·exact⟨1073741823,by omega,2,rfl,by omega,(World.cell?_of_block (a:=⟨wr.heap.size,2,none⟩) kb).trans (by simp)⟩
    ·exact⟨-1073741824,by omega,3,rfl,by omega,(World.cell?_of_block (a:=⟨wr.heap.size,3,none⟩) kb).trans (by simp)⟩
    ·exact⟨100000,by omega,4,rfl,by omega,(World.cell?_of_block (a:=⟨wr.heap.size,4,none⟩) kb).trans (by simp)⟩
   have hj1:(j:Int) < 5:=by omega
   have hX1:=HD (And.intro hX.out.1 hX.out.2.1);have hcd:=HD h2.out.cd;have hs0:Hid (w0.heap.size≤w2.heap.size):=HD h2.out.ks.cg.size;clear t1 c1 kb h1 hX hsz hp0 hne
   go_wp2_with (first | (at_builtin;refine wpList_append_lies _ rfl (.tmp 13) (.tmp 20) 53 rfl w0.heap.size 68 i0 (.agg #[.int .i64 0,.int .i64 0]) 2 16 Tryz.underlying53 hi0 hz0 hz1 hz2 rfl (by decide) (.slice a k cp) k _ (by simp[Act.eval]) (hcd.out.alloc _) ⟨w2.heap.size,0,none⟩ 1 1 (pr2 [(3,s)]) (by simp[Act.eval]) (by simp[pr2]) (pair_at ((World.cell?_alloc_new _ _ _ 0).trans rfl) ((World.cell?_alloc_new _ _ _ 1).trans rfl)) (pr2_one _) (by omega) (by omega) (by omega) (by have:=hs0.out;simp;omega) _ rfl ?_;intro g1 cap1 w3 hown1 hgrow1 hat1 hlt1))
   have h3:=HD (h2.out.grow ((Below.refl _ w2).alloc (Nat.le_refl _) _) (by rw[← pr2_app] at hown1;exact hown1) hgrow1 (at_hat hat1));clear hown1 hgrow1 hat1 hlt1
   go_roundw
   case rel=>exact⟨k+1,X++[(3,s)],_,_,by omega,by go_num,rfl,HD ⟨by simp[hX1.out.1],fun y hy=>by
    rcases List.mem_append.1 hy with hy | hy
    ·exact hX1.out.2 y hy
    ·rw[List.mem_singleton.1 hy];exact⟨rfl,hs⟩,h3.out⟩⟩
   case measure=>simp[intOf];omega
  ·obtain rfl:k=4:=by omega
   go_wp2_with fail
   refine (names_c _).mono ?_;rintro e w2 ⟨rfl,hw2⟩;have h2:=HD (hX.out.2.2.keep (by rw[hw2];exact (Below.refl _ _).alloc (Nat.le_refl _) _:Below wr.heap.size wr w2));have hA:=HD (And.intro hX.out.1 hX.out.2.1);clear hX hw2 hst hsz0
   go_wp2
   go_loopw [5,24] (fun i5 i24 wr=>∃ (k:Nat) (a:Option Addr) (cp m:Nat),k≤6∧m≤14∧Hid (m=4+k)∧i24=.int .i64 k∧i5=.slice a m cp∧Hid (Rw w0 w wr p n ad (.slice none 0 0) (.slice a m cp) 68 2 m (pr2 (X++sels k)))) (fun _ i24 _=>6 - (intOf i24).toNat)
   case atStart=>exact⟨0,_,_,4,by omega,by omega,HD rfl,rfl,rfl,HD (by rw[show sels 0=[] from rfl,List.append_nil];exact h2.out)⟩
   case round =>
    clear h2;obtain⟨k,a,cp,m,hk,hm14,hm,rfl,rfl,hR⟩:=hrel;by_cases hk6:k < 6
    ·have hk6':(k:Int) < 6:=by omega
     have hcd:=HD hR.out.cd;have hs0:Hid (w0.heap.size≤wr.heap.size):=HD hR.out.ks.cg.size
     go_wp2_with (first | (at_builtin;refine wpList_append_lies _ rfl (.tmp 27) (.tmp 30) 53 rfl w0.heap.size 68 i0 (.agg #[.int .i64 0,.int .i64 0]) 2 16 Tryz.underlying53 hi0 hz0 hz1 hz2 rfl (by decide) (.slice a m cp) m _ (by simp[Act.eval]) (hcd.out.alloc _) ⟨wr.heap.size,0,none⟩ 1 1 (pr2 [(5,(k:Int))]) (by simp[Act.eval]) (by simp[pr2]) (pair_at ((World.cell?_alloc_new _ _ _ 0).trans rfl) ((World.cell?_alloc_new _ _ _ 1).trans rfl)) (pr2_one _) (by omega) (by omega) (by omega) (by have:=hs0.out;simp;omega) _ rfl ?_;intro g1 cap1 w3 hown1 hgrow1 hat1 hlt1))
     have h3:=HD (hR.out.grow ((Below.refl _ wr).alloc (Nat.le_refl _) _) (by rw[← pr2_app,List.append_assoc,← sels_succ] at hown1;exact hown1) hgrow1 (at_hat hat1));clear hown1 hgrow1 hat1 hlt1 hR hcd
     go_roundw
     case rel=>exact⟨k+1,_,_,m+1,by omega,by have:=hm.out;omega,HD (by have:=hm.out;omega),by go_num,rfl,h3⟩
     case measure=>simp[intOf];omega
    ·obtain rfl:k=6:=by omega
     obtain rfl:m=10:=by have:=hm.out;omega
     clear hm hk hm14;rw[show ((6:Nat):Int)=6 from rfl]
     go_wp2
     go_loopw [5,8] (fun i5 i8 wr=>∃ (k:Nat) (B:List (Int × Int)) (a:Option Addr) (cp m:Nat),k≤2∧m≤14∧Hid (m=10+k)∧i8=.int .i64 k∧i5=.slice a m cp∧Hid (B.length=k∧(∀ x∈B,clsLit c x)∧Rw w0 w wr p n ad (.slice none 0 0) (.slice a m cp) 68 2 m (pr2 (X++sels 6++B)))) (fun _ i8 _=>2 - (intOf i8).toNat)
     case atStart=>exact⟨0,[],_,_,10,by omega,by omega,HD rfl,rfl,rfl,HD ⟨rfl,by simp,by rw[List.append_nil];exact hR.out⟩⟩
     case round =>
      clear hR;obtain⟨k,B,a,cp,m,hk,hm14,hm,rfl,rfl,hB⟩:=hrel;by_cases hk2:k < 2
      ·have hk2':(k:Int) < 2:=by omega
       have hw1:IntKind.i64.wrap (c - 2)=c - 2:=by rw[IntKind.wrap_i64];omega
       go_wp2_with fail
       refine (next_c (c - 2) (by omega) (by omega) hB.out.2.2.ks.tp).mono ?_;rintro e w2 ⟨x,rfl,⟨x0,x1⟩,t1,c1⟩;have h2:=HD (hB.out.2.2.next t1 c1);have hcd:=HD h2.out.cd;have hs0:Hid (w0.heap.size≤w2.heap.size):=HD h2.out.ks.cg.size;have hw3:IntKind.i64.wrap (2+x)=2+x:=by rw[IntKind.wrap_i64];omega
       clear t1 c1
       go_wp2_with (first | (at_builtin;refine wpList_append_lies _ rfl (.tmp 37) (.tmp 44) 53 rfl w0.heap.size 68 i0 (.agg #[.int .i64 0,.int .i64 0]) 2 16 Tryz.underlying53 hi0 hz0 hz1 hz2 rfl (by decide) (.slice a m cp) m _ (by simp[Act.eval]) (hcd.out.alloc _) ⟨w2.heap.size,0,none⟩ 1 1 (pr2 [(6,2+x)]) (by simp[Act.eval]) (by simp[pr2]) (pair_at ((World.cell?_alloc_new _ _ _ 0).trans rfl) ((World.cell?_alloc_new _ _ _ 1).trans rfl)) (pr2_one _) (by omega) (by omega) (by omega) (by have:=hs0.out;simp;omega) _ rfl ?_;intro g1 cap1 w3 hown1 hgrow1 hat1 hlt1))
       have h3:=HD (h2.out.grow ((Below.refl _ w2).alloc (Nat.le_refl _) _) (by rw[← pr2_app,List.append_assoc] at hown1;exact hown1) hgrow1 (at_hat hat1));clear hown1 hgrow1 hat1 hlt1 hcd
       go_roundw
       case rel=>exact⟨k+1,B++[(6,2+x)],_,_,m+1,by omega,by have:=hm.out;omega,HD (by have:=hm.out;omega),by go_num,rfl,HD ⟨by simp[hB.out.1],fun y hy=>by
        rcases List.mem_append.1 hy with hy | hy
        ·exact hB.out.2.1 y hy
        ·rw[List.mem_singleton.1 hy];exact⟨rfl,by simp only;omega,by simp only;omega⟩,h3.out⟩⟩
       case measure=>simp[intOf];omega
      ·obtain rfl:k=2:=by omega
       obtain rfl:m=12:=by have:=hm.out;omega
       have hcd:=HD hB.out.2.2.cd;have hs0:Hid (w0.heap.size≤wr.heap.size):=HD hB.out.2.2.ks.cg.size
       go_wp2_with (first | (at_builtin;refine wpList_append_lies _ rfl (.tmp 46) (.tmp 49) 53 rfl w0.heap.size 68 i0 (.agg #[.int .i64 0,.int .i64 0]) 2 16 Tryz.underlying53 hi0 hz0 hz1 hz2 rfl (by decide) (.slice a 12 cp) 12 _ (by simp[Act.eval]) (hcd.out.alloc _) ⟨wr.heap.size,0,none⟩ 2 2 (pr2 [(7,7),(7,8)]) (by simp[Act.eval]) (by simp[pr2]) (quad_at ((World.cell?_alloc_new _ _ _ 0).trans rfl) ((World.cell?_alloc_new _ _ _ 1).trans rfl) ((World.cell?_alloc_new _ _ _ 2).trans rfl) ((World.cell?_alloc_new _ _ _ 3).trans rfl)) (pr2_one _) (by omega) (by omega) (by omega) (by have:=hs0.out;simp;omega) _ rfl ?_;intro g1 cap1 w3 hown1 hgrow1 hat1 hlt1))
       have h3:=HD (hB.out.2.2.grow ((Below.refl _ wr).alloc (Nat.le_refl _) _) (by rw[← pr2_app] at hown1;exact hown1) hgrow1 (at_hat hat1));go_ret;exact⟨_,rfl,_,⟨X,B,rfl,hA.out.1,hB.out.1,hA.out.2,hB.out.2.1⟩,h3.out⟩
structure Pd (w0 w wr:World) (p n:Nat) (ad:Option Addr) (v0 v:Value) (C:List Int) (B:Nat):Prop where
 pc:Pc w0 w wr p n ad v0 v C
 q0:wr.cell? ⟨B,0,none⟩=some (.int .i64 7)
 q1:wr.cell? ⟨B,1,none⟩=some (.int .i64 0)
 np:B≠p
 nv:v.ownBlock≠some B
section
variable {w0 w w1 w2 wX:World} {p n B:Nat} {ad:Option Addr} {v0 v v':Value} {C:List Int}
theorem Pd.lt (h:Pd w0 w w1 p n ad v0 v C B):B < w1.heap.size:=World.block_lt_of_cell? w1 _ h.q0
theorem Pd.keep (h:Pd w0 w w1 p n ad v0 v C B) (b:Below w1.heap.size w1 w2):Pd w0 w w2 p n ad v0 v C B :=
 ⟨h.pc.keep b,(World.cell?_of_block (a:=⟨B,0,none⟩) (b.block B h.lt)).trans h.q0,(World.cell?_of_block (a:=⟨B,1,none⟩) (b.block B h.lt)).trans h.q1,h.np,h.nv⟩
theorem Pd.born (h:Pc w0 w w1 p n ad v0 v C) (hX:wX=w1.alloc (.cells #[.int .i64 7,.int .i64 0] 3)∨wX=(w1.alloc (.cells #[.int .i64 7,.int .i64 0] 3)).drew):Pd w0 w wX p n ad v0 v C w1.heap.size:=by
 have h1:Pd w0 w (w1.alloc (.cells #[.int .i64 7,.int .i64 0] 3)) p n ad v0 v C w1.heap.size :=
  ⟨h.keep ((Below.refl _ _).alloc (Nat.le_refl _) _),by simp,by simp,fun e=>by have:=h.ks.p0;have:=h.ks.cg.size;omega,fun e=>by have:=(h.cd.lt _ e).2;omega⟩
 rcases hX with rfl | rfl
 ·exact h1
 ·exact h1.keep (Below.refl _ _).drew
theorem nx_a (m:Int) (h:Hid (Pc w0 w w1 p n ad v0 v C)) (hb:Below w1.heap.size w1 wX) (m1:1≤m) (m2:m≤1000000) :
  Calls Tryz.prog 22 #[.pointer (some ⟨p,0,none⟩),.int .i64 m] wX fun e w'=>∃ x:Int,e=.returned (.int .i64 x)∧(0≤x∧x < m)∧Hid (Pc w0 w w' p n ad v0 v C):=by
 have h1:=h.out.keep hb;refine (next_c m m1 m2 h1.ks.tp).mono ?_;rintro e w' ⟨x,he,hx,t,c⟩;exact⟨x,he,hx,HD (h1.next t c)⟩
theorem nx_d (m:Int) (h:Hid (Pd w0 w w1 p n ad v0 v C B)) (hb:Below w1.heap.size w1 wX) (m1:1≤m) (m2:m≤1000000) :
  Calls Tryz.prog 22 #[.pointer (some ⟨p,0,none⟩),.int .i64 m] wX fun e w'=>∃ x:Int,e=.returned (.int .i64 x)∧(0≤x∧x < m)∧Hid (Pd w0 w w' p n ad v0 v C B):=by
 have h1:=h.out.keep hb;refine (next_c m m1 m2 h1.pc.ks.tp).mono ?_;rintro e w' ⟨x,he,hx,t,c⟩;have hk:=c.block B h1.lt h1.np;exact⟨x,he,hx,HD ⟨h1.pc.next t c,(World.cell?_of_block (a:=⟨B,0,none⟩) hk).trans h1.q0,(World.cell?_of_block (a:=⟨B,1,none⟩) hk).trans h1.q1,h1.np,h1.nv⟩⟩
theorem nx_b (m:Int) (h:Hid (Pc w0 w w1 p n ad v0 v C)) (hX:wX=w1.alloc (.cells #[.int .i64 7,.int .i64 0] 3)∨wX=(w1.alloc (.cells #[.int .i64 7,.int .i64 0] 3)).drew) (m1:1≤m) (m2:m≤1000000) :
  Calls Tryz.prog 22 #[.pointer (some ⟨p,0,none⟩),.int .i64 m] wX fun e w'=>∃ x:Int,e=.returned (.int .i64 x)∧(0≤x∧x < m)∧Hid (Pd w0 w w' p n ad v0 v C w1.heap.size) :=
 nx_d m (HD (Pd.born h.out hX)) (Below.refl _ _) m1 m2
theorem opx_a (h:Hid (Pc w0 w w1 p n ad v0 v C)) (hb:Below w1.heap.size w1 wX) (hl:C.length≤100000) (o a:Int) :
  Calls Tryz.prog 46 #[v,.int .i64 o,.int .i64 a] wX fun e w'=>∃ v',e=.returned v'∧Hid (Pc w0 w w' p n ad v0 v' (C++[wr8 o,wr8 a])):=by
 refine (op_c (h.out.keep hb) hl o a).mono ?_;rintro e w' ⟨v',he,h'⟩;exact⟨v',he,HD h'⟩
theorem opx_d (h:Hid (Pd w0 w w1 p n ad v0 v C B)) (hb:Below w1.heap.size w1 wX) (hl:C.length≤100000) (o a:Int) :
  Calls Tryz.prog 46 #[v,.int .i64 o,.int .i64 a] wX fun e w'=>∃ v',e=.returned v'∧Hid (Pd w0 w w' p n ad v0 v' (C++[wr8 o,wr8 a]) B):=by
 have h1:=h.out.keep hb;refine (op_c2 h1.pc hl o a).mono ?_;rintro e w' ⟨v',he,h',c,ob⟩;have hk:=c.block B h1.lt (fun e=>h1.nv e);refine⟨v',he,HD ⟨h',(World.cell?_of_block (a:=⟨B,0,none⟩) hk).trans h1.q0,(World.cell?_of_block (a:=⟨B,1,none⟩) hk).trans h1.q1,h1.np,fun e=>?_⟩⟩;rcases ob B e with e | e
 ·exact h1.nv e
 ·have:=h1.lt;omega
theorem opx_b (h:Hid (Pc w0 w w1 p n ad v0 v C)) (hX:wX=w1.alloc (.cells #[.int .i64 7,.int .i64 0] 3)∨wX=(w1.alloc (.cells #[.int .i64 7,.int .i64 0] 3)).drew) (hl:C.length≤100000) (o a:Int) :
  Calls Tryz.prog 46 #[v,.int .i64 o,.int .i64 a] wX fun e w'=>∃ v',e=.returned v'∧Hid (Pd w0 w w' p n ad v0 v' (C++[wr8 o,wr8 a]) w1.heap.size) :=
 opx_d (HD (Pd.born h.out hX)) (Below.refl _ _) hl o a
def sel70 (j:Nat):Int:=if j=0 then 7 else 0
theorem sel70_or (j:Nat):sel70 j=7∨sel70 j=0:=by unfold sel70;split <;> simp
theorem Pd.sel (h:Pd w0 w w1 p n ad v0 v C B) {j:Nat} (hj:j < 2):w1.cell? ⟨B,j,none⟩=some (.int .i64 (sel70 j)):=by
 rcases (show j=0∨j=1 by omega) with rfl | rfl
 ·exact h.q0
 ·exact h.q1
theorem born_sel (w1:World) {j:Nat} (hj:j < 2):(w1.alloc (.cells #[.int .i64 7,.int .i64 0] 3)).cell? ⟨w1.heap.size,j,none⟩=some (.int .i64 (sel70 j)):=by
 rcases (show j=0∨j=1 by omega) with rfl | rfl <;> simp[sel70]
theorem nx3_a (h:Hid (Pc w0 w w1 p n ad v0 v C)) (hb:Below w1.heap.size w1 wX) :
  Calls Tryz.prog 22 #[.pointer (some ⟨p,0,none⟩),.int .i64 2] wX fun e w'=>∃ j:Nat,e=.returned (.int .i64 (j:Int))∧j < 2∧Hid (Pc w0 w w' p n ad v0 v C)∧(w'.alloc (.cells #[.int .i64 7,.int .i64 0] 3)).cell? ⟨w'.heap.size,j,none⟩=some (.int .i64 (sel70 j)):=by
 refine (nx_a 2 h hb (by omega) (by omega)).mono ?_;rintro e w' ⟨x,he,hx,h'⟩;have ex:x=((x.toNat:Nat):Int):=by omega
 exact⟨x.toNat,by rw[← ex];exact he,by omega,h',born_sel _ (by omega)⟩
theorem nx3_d (h:Hid (Pd w0 w w1 p n ad v0 v C B)) (hb:Below w1.heap.size w1 wX) :
  Calls Tryz.prog 22 #[.pointer (some ⟨p,0,none⟩),.int .i64 2] wX fun e w'=>∃ j:Nat,e=.returned (.int .i64 (j:Int))∧j < 2∧Hid (Pd w0 w w' p n ad v0 v C B)∧w'.cell? ⟨B,j,none⟩=some (.int .i64 (sel70 j)):=by
 refine (nx_d 2 h hb (by omega) (by omega)).mono ?_;rintro e w' ⟨x,he,hx,h'⟩;have ex:x=((x.toNat:Nat):Int):=by omega
 exact⟨x.toNat,by rw[← ex];exact he,by omega,h',h'.out.sel (by omega)⟩
theorem nx3_b (h:Hid (Pc w0 w w1 p n ad v0 v C)) (hX:wX=w1.alloc (.cells #[.int .i64 7,.int .i64 0] 3)∨wX=(w1.alloc (.cells #[.int .i64 7,.int .i64 0] 3)).drew) :
  Calls Tryz.prog 22 #[.pointer (some ⟨p,0,none⟩),.int .i64 2] wX fun e w'=>∃ j:Nat,e=.returned (.int .i64 (j:Int))∧j < 2∧Hid (Pd w0 w w' p n ad v0 v C w1.heap.size)∧w'.cell? ⟨w1.heap.size,j,none⟩=some (.int .i64 (sel70 j)) :=
 nx3_d (HD (Pd.born h.out hX)) (Below.refl _ _)
theorem arr_sel {j:Nat} (hj:j < 2):(#[Value.int .i64 7,Value.int .i64 0]:Array Value)[j]?=some (.int .i64 (sel70 j)):=by
 rcases (show j=0∨j=1 by omega) with rfl | rfl <;> simp[sel70]
theorem lst_sel {j:Nat} (hj:j < 2):([Value.int .i64 7,Value.int .i64 0]:List Value)[j]?=some (.int .i64 (sel70 j)):=by
 rcases (show j=0∨j=1 by omega) with rfl | rfl <;> simp[sel70]
def Mark (j:Nat):Prop:=j < 2
theorem fin_G {x k z:Int} {j:Nat} (h:Hid (Pd w0 w w1 p n ad v0 v (((((C++[wr8 0,wr8 x])++[wr8 7,wr8 k])++[wr8 (sel70 j),wr8 z])++[wr8 21,wr8 9])++[wr8 8,wr8 0]) B)):Pc w0 w w1 p n ad v0 v (C++[wr8 0,wr8 x,wr8 7,wr8 k,wr8 (sel70 j),wr8 z,wr8 21,wr8 9,wr8 8,wr8 0]):=by
 have:=h.out.pc;simpa using this
end
def flat (l:List (Int × Int)):List Int:=l.flatMap (fun x=>[x.1,x.2])
def pkA (l:List (Int × Int)):Prop:=∃ a:Int,(0≤a∧a < 20)∧l=[(wr8 7,wr8 a),(wr8 21,wr8 10),(wr8 8,wr8 0)]
def pkB (l:List (Int × Int)):Prop:=∃ s:Int,(s=4∨s=8∨s=9)∧l=[(wr8 3,wr8 0),(wr8 12,wr8 s),(wr8 8,wr8 0)]
def pkC (l:List (Int × Int)):Prop:=∃ a:Int,∃ x:Int,(0≤a∧a < 20)∧(0≤x∧x < 2)∧l=[(wr8 3,wr8 0),(wr8 7,wr8 a),(wr8 12,wr8 (5+x)),(wr8 21,wr8 10),(wr8 8,wr8 0)]
def pkD (l:List (Int × Int)):Prop:=∃ i:Int,∃ a:Int,∃ q:Int,(0≤i∧i < 4)∧(0≤a∧a < 20)∧(0≤q∧q < 6)∧l=[(wr8 2,wr8 i),(wr8 7,wr8 (a - 9)),(wr8 21,wr8 q),(wr8 21,wr8 10),(wr8 8,wr8 0)]
def pkE (l:List (Int × Int)):Prop:=∃ x:Int,∃ y:Int,(0≤x∧x < 2)∧(0≤y∧y < 2)∧l=[(wr8 20,wr8 (10+x)),(wr8 10,wr8 y),(wr8 8,wr8 0)]
def pkF (l:List (Int × Int)):Prop:=∃ a:Int,∃ y:Int,(0≤a∧a < 20)∧(0≤y∧y < 2)∧l=[(wr8 7,wr8 a),(wr8 21,wr8 18),(wr8 10,wr8 y),(wr8 8,wr8 0)]
def pkG (l:List (Int × Int)):Prop:=∃ x:Int,∃ k:Int,∃ s:Int,∃ z:Int,(0≤x∧x < 2)∧(0≤k∧k < 5)∧(s=7∨s=0)∧(0≤z∧z < 2)∧l=[(wr8 0,wr8 x),(wr8 7,wr8 k),(wr8 s,wr8 z),(wr8 21,wr8 9),(wr8 8,wr8 0)]
def pkH (l:List (Int × Int)):Prop:=∃ x:Int,∃ k:Int,(0≤x∧x < 2)∧(0≤k∧k < 4)∧l=[(wr8 0,wr8 x),(wr8 7,wr8 k),(wr8 21,wr8 8),(wr8 21,wr8 10)]
def pkI (l:List (Int × Int)):Prop:=l=[(wr8 18,wr8 12),(wr8 21,wr8 11),(wr8 8,wr8 0)]
def pkJ (l:List (Int × Int)):Prop:=∃ a:Int,(0≤a∧a < 20)∧l=[(wr8 18,wr8 13),(wr8 7,wr8 a),(wr8 21,wr8 12),(wr8 8,wr8 0)]
def pkK (l:List (Int × Int)):Prop:=∃ k:Int,(0≤k∧k < 4)∧l=[(wr8 18,wr8 12),(wr8 7,wr8 k),(wr8 21,wr8 13),(wr8 8,wr8 0)]
def pkL (l:List (Int × Int)):Prop:=∃ k:Int,∃ x:Int,(0≤k∧k < 4)∧(0≤x∧x < 2)∧l=[(wr8 7,wr8 k),(wr8 21,wr8 (15+x)),(wr8 8,wr8 0)]
def pkM (l:List (Int × Int)):Prop:=∃ s:Int,(s=14∨s=21∨s=23)∧l=[(wr8 21,wr8 s),(wr8 8,wr8 0)]
def pkN (l:List (Int × Int)):Prop:=∃ x:Int,∃ a:Int,(0≤x∧x < 2)∧(0≤a∧a < 20)∧l=[(wr8 (5+x),wr8 0),(wr8 17,wr8 1),(wr8 7,wr8 a),(wr8 8,wr8 0)]
def pkO (l:List (Int × Int)):Prop:=∃ k:Int,(0≤k∧k < 9)∧l=[(wr8 0,wr8 0),(wr8 0,wr8 1),(wr8 7,wr8 k),(wr8 21,wr8 19),(wr8 8,wr8 0)]
def pkP (l:List (Int × Int)):Prop:=∃ s:Int,(s=20∨s=5)∧l=[(wr8 0,wr8 0),(wr8 0,wr8 1),(wr8 21,wr8 s),(wr8 8,wr8 0)]
def pkQ (l:List (Int × Int)):Prop:=∃ x:Int,∃ y:Int,(0≤x∧x < 3)∧(0≤y∧y < 3)∧l=[(wr8 1,wr8 x),(wr8 11,wr8 y),(wr8 8,wr8 0)]
def pkR (l:List (Int × Int)):Prop:=∃ x:Int,∃ y:Int,(0≤x∧x < 2)∧(0≤y∧y < 4)∧l=[(wr8 0,wr8 x),(wr8 11,wr8 y)]
def pieceOk (l:List (Int × Int)):Prop:=pkA l∨pkB l∨pkC l∨pkD l∨pkE l∨pkF l∨pkG l∨pkH l∨pkI l∨pkJ l∨pkK l∨pkL l∨pkM l∨pkN l∨pkO l∨pkP l∨pkQ l∨pkR l
theorem pk_A {l:List (Int × Int)} (h:pkA l):pieceOk l:=Or.inl h
theorem pk_B {l:List (Int × Int)} (h:pkB l):pieceOk l:=Or.inr (Or.inl h)
theorem pk_C {l:List (Int × Int)} (h:pkC l):pieceOk l:=Or.inr (Or.inr (Or.inl h))
theorem pk_D {l:List (Int × Int)} (h:pkD l):pieceOk l:=Or.inr (Or.inr (Or.inr (Or.inl h)))
theorem pk_E {l:List (Int × Int)} (h:pkE l):pieceOk l:=Or.inr (Or.inr (Or.inr (Or.inr (Or.inl h))))
theorem pk_F {l:List (Int × Int)} (h:pkF l):pieceOk l:=Or.inr (Or.inr (Or.inr (Or.inr (Or.inr (Or.inl h)))))
theorem pk_G {l:List (Int × Int)} (h:pkG l):pieceOk l:=Or.inr (Or.inr (Or.inr (Or.inr (Or.inr (Or.inr (Or.inl h))))))
theorem pk_H {l:List (Int × Int)} (h:pkH l):pieceOk l:=Or.inr (Or.inr (Or.inr (Or.inr (Or.inr (Or.inr (Or.inr (Or.inl h)))))))
theorem pk_I {l:List (Int × Int)} (h:pkI l):pieceOk l:=Or.inr (Or.inr (Or.inr (Or.inr (Or.inr (Or.inr (Or.inr (Or.inr (Or.inl h))))))))
theorem pk_J {l:List (Int × Int)} (h:pkJ l):pieceOk l:=Or.inr (Or.inr (Or.inr (Or.inr (Or.inr (Or.inr (Or.inr (Or.inr (Or.inr (Or.inl h)))))))))
theorem pk_K {l:List (Int × Int)} (h:pkK l):pieceOk l:=Or.inr (Or.inr (Or.inr (Or.inr (Or.inr (Or.inr (Or.inr (Or.inr (Or.inr (Or.inr (Or.inl h))))))))))
theorem pk_L {l:List (Int × Int)} (h:pkL l):pieceOk l:=Or.inr (Or.inr (Or.inr (Or.inr (Or.inr (Or.inr (Or.inr (Or.inr (Or.inr (Or.inr (Or.inr (Or.inl h)))))))))))
theorem pk_M {l:List (Int × Int)} (h:pkM l):pieceOk l:=Or.inr (Or.inr (Or.inr (Or.inr (Or.inr (Or.inr (Or.inr (Or.inr (Or.inr (Or.inr (Or.inr (Or.inr (Or.inl h))))))))))))
theorem pk_N {l:List (Int × Int)} (h:pkN l):pieceOk l:=Or.inr (Or.inr (Or.inr (Or.inr (Or.inr (Or.inr (Or.inr (Or.inr (Or.inr (Or.inr (Or.inr (Or.inr (Or.inr (Or.inl h)))))))))))))
theorem pk_O {l:List (Int × Int)} (h:pkO l):pieceOk l:=Or.inr (Or.inr (Or.inr (Or.inr (Or.inr (Or.inr (Or.inr (Or.inr (Or.inr (Or.inr (Or.inr (Or.inr (Or.inr (Or.inr (Or.inl h))))))))))))))
theorem pk_P {l:List (Int × Int)} (h:pkP l):pieceOk l:=Or.inr (Or.inr (Or.inr (Or.inr (Or.inr (Or.inr (Or.inr (Or.inr (Or.inr (Or.inr (Or.inr (Or.inr (Or.inr (Or.inr (Or.inr (Or.inl h)))))))))))))))
theorem pk_Q {l:List (Int × Int)} (h:pkQ l):pieceOk l:=Or.inr (Or.inr (Or.inr (Or.inr (Or.inr (Or.inr (Or.inr (Or.inr (Or.inr (Or.inr (Or.inr (Or.inr (Or.inr (Or.inr (Or.inr (Or.inr (Or.inl h))))))))))))))))
theorem pk_R {l:List (Int × Int)} (h:pkR l):pieceOk l:=Or.inr (Or.inr (Or.inr (Or.inr (Or.inr (Or.inr (Or.inr (Or.inr (Or.inr (Or.inr (Or.inr (Or.inr (Or.inr (Or.inr (Or.inr (Or.inr (Or.inr (h)))))))))))))))))
structure PieceC:Prop where
 c:∀ {w0 w wr:World} {p n:Nat} {ad:Option Addr} {v0 v:Value} {C:List Int} (h:Pc w0 w wr p n ad v0 v C) (hl:C.length≤90000),
  Calls Tryz.prog 45 #[.pointer (some ⟨p,0,none⟩),v] wr fun e w'=>∃ v' l,e=.returned v'∧pieceOk l∧Pc w0 w w' p n ad v0 v' (C++flat l)
theorem pieceOk_len {l:List (Int × Int)} (h:pieceOk l):l.length≤5:=by
 unfold pieceOk at h;rcases h with h | h | h | h | h | h | h | h | h | h | h | h | h | h | h | h | h | h
 ·obtain⟨_,_,rfl⟩:=h;simp
 ·obtain⟨_,_,rfl⟩:=h;simp
 ·obtain⟨_,_,_,_,rfl⟩:=h;simp
 ·obtain⟨_,_,_,_,_,_,rfl⟩:=h;simp
 ·obtain⟨_,_,_,_,rfl⟩:=h;simp
 ·obtain⟨_,_,_,_,rfl⟩:=h;simp
 ·obtain⟨_,_,_,_,_,_,_,_,rfl⟩:=h;simp
 ·obtain⟨_,_,_,_,rfl⟩:=h;simp
 ·cases h;simp
 ·obtain⟨_,_,rfl⟩:=h;simp
 ·obtain⟨_,_,rfl⟩:=h;simp
 ·obtain⟨_,_,_,_,rfl⟩:=h;simp
 ·obtain⟨_,_,rfl⟩:=h;simp
 ·obtain⟨_,_,_,_,rfl⟩:=h;simp
 ·obtain⟨_,_,rfl⟩:=h;simp
 ·obtain⟨_,_,rfl⟩:=h;simp
 ·obtain⟨_,_,_,_,rfl⟩:=h;simp
 ·obtain⟨_,_,_,_,rfl⟩:=h;simp
theorem flat_len (l:List (Int × Int)):(flat l).length=2*l.length:=by
 unfold flat
 induction l with
 | nil=>rfl
 | cons x l ih=>simp only[List.flatMap_cons,List.length_append,List.length_cons,List.length_nil,ih];omega
theorem flat_app (a b:List (Int × Int)):flat (a++b)=flat a++flat b:=by simp[flat]
structure codeOk (block:Bool) (I:List (Int × Int)):Prop where
 mk ::
 ex:∃ (P:List (List (Int × Int))) (S:List (Int × Int)) (q r l:Int),I=P.flatten++S++[(wr8 q,wr8 r),(wr8 l,wr8 0)]∧1≤P.length∧P.length≤5∧(∀ x∈P,pieceOk x)∧(S=[]∨S=[(wr8 3,wr8 0),(wr8 13,wr8 4)])∧(q=7∨q=3∨q=4∨q=0)∧(r=0∨r=1)∧(l=14∨(block=true∧l=19))
theorem flatten_len (P:List (List (Int × Int))) (h:∀ x∈P,pieceOk x):P.flatten.length≤5*P.length:=by
 induction P with
 | nil=>simp
 | cons x P ih =>
  have:=ih (fun y hy=>h y (by simp[hy]));have:=pieceOk_len (h x (by simp));simp only[List.flatten_cons,List.length_append,List.length_cons];omega
structure Md (w0 w wr:World) (p n:Nat) (ad:Option Addr) (B:Nat) (args:Int) (lv:Value) (X:List (Int × Int)) (v3 v:Value) (C:List Int):Prop where
 ks:Ks w0 wr p n ad
 cg:Cg (fun k=>k=p) w wr
 s0:w0.heap.size≤w.heap.size
 cd:wr.ownsRow w.heap.size 5 1 v C.length (bys C)
 lr:wr.ownsRow w.heap.size 68 2 lv 14 (pr2 X)
 c0:wr.cell? ⟨B,0,none⟩=some (.int .i64 args)
 c1:wr.cell? ⟨B,1,none⟩=some (.int .i64 2)
 c2:wr.cell? ⟨B,2,none⟩=some lv
 c3:wr.cell? ⟨B,3,none⟩=some v3
 z:∀ j,wr.frozen? ⟨B,j,none⟩=false
 bB:w.heap.size≤B
 nl:lv.ownBlock≠some B
 nv:v.ownBlock≠some B
 nn:∀ k,lv.ownBlock=some k→v.ownBlock≠some k
section
variable {w0 w w1 w2:World} {p n B:Nat} {ad:Option Addr} {args:Int} {lv v3 v v':Value} {X:List (Int × Int)} {C C':List Int}
theorem Md.lt (h:Md w0 w w1 p n ad B args lv X v3 v C):B < w1.heap.size:=World.block_lt_of_cell? w1 _ h.c0
theorem Md.np (h:Md w0 w w1 p n ad B args lv X v3 v C):B≠p:=by have:=h.bB;have:=h.s0;have:=h.ks.p0;omega
theorem Md.far (h:Md w0 w w1 p n ad B args lv X v3 v C) (ks:Ks w0 w2 p n ad) (cg:Cg (fun k=>k=p) w w2) (cd:w2.ownsRow w.heap.size 5 1 v' C'.length (bys C')) (hB:w2.heap[B]?=w1.heap[B]?) (hl:∀ k,lv.ownBlock=some k→w2.heap[k]?=w1.heap[k]?) (nv:v'.ownBlock≠some B) (nn:∀ k,lv.ownBlock=some k→v'.ownBlock≠some k):Md w0 w w2 p n ad B args lv X v3 v' C':=by
 refine⟨ks,cg,h.s0,cd,?_,(World.cell?_of_block (a:=⟨B,0,none⟩) hB).trans h.c0,(World.cell?_of_block (a:=⟨B,1,none⟩) hB).trans h.c1,(World.cell?_of_block (a:=⟨B,2,none⟩) hB).trans h.c2,(World.cell?_of_block (a:=⟨B,3,none⟩) hB).trans h.c3,fun j=>(World.frozen?_of_block (a:=⟨B,j,none⟩) hB).trans (h.z j),h.bB,h.nl,nv,nn⟩;obtain⟨h1,h2⟩:=h.lr;refine⟨h1,?_⟩;rcases h2 with hh | ⟨g,cap,cur,e1,e2,e3,e4⟩
 ·exact Or.inl hh
 ·exact Or.inr ⟨g,cap,cur,e1,e2,(hl g (by rw[e1];rfl)).trans e3,e4⟩
theorem Md.next (h:Md w0 w w1 p n ad B args lv X v3 v C) (t:Tp w2 p ad n) (c:Cg (fun k=>k=p) w1 w2):Md w0 w w2 p n ad B args lv X v3 v C:=by
 have hp:∀ k,w.heap.size≤k→k < w1.heap.size→w2.heap[k]?=w1.heap[k]?:=fun k h1 h2=>c.block k h2 (fun e=>by have:=h.s0;have:=h.ks.p0;omega);refine h.far (h.ks.step t c) (h.cg.trans c) ?_ (hp B h.bB h.lt) (fun k hk=>hp k (h.lr.lt k hk).1 (h.lr.lt k hk).2) h.nv h.nn;exact row_cg h.cd c (fun k hk e=>by have:=(h.cd.lt k hk).1;have:=h.s0;have:=h.ks.p0;omega)
theorem Md.keep (h:Md w0 w w1 p n ad B args lv X v3 v C) (b:Below w1.heap.size w1 w2):Md w0 w w2 p n ad B args lv X v3 v C :=
 h.far (h.ks.keep b) (h.cg.trans (Cg.below _ b)) (row_cg (F:=fun _=>False) h.cd (Cg.below _ b) (fun _ _ hf=>hf)) (b.block B h.lt) (fun k hk=>b.block k (h.lr.lt k hk).2) h.nv h.nn
theorem Md.pc (h:Md w0 w w1 p n ad B args lv X v3 v C):Pc w0 w1 w1 p n ad v v C :=
 Pc.start h.ks (by
  obtain⟨h1,h2⟩:=h.cd;refine⟨h1,?_⟩;rcases h2 with hh | ⟨g,cap,cur,e1,e2,e3⟩
  ·exact Or.inl hh
  ·exact Or.inr ⟨g,cap,cur,e1,Nat.le_trans h.s0 e2,e3⟩)
theorem row_base {w:World} {b b' size len:Nat} {e:TypeId} {v:Value} {xs:List Value} (h:w.ownsRow b e size v len xs) (hb:∀ k,v.ownBlock=some k→b'≤k):w.ownsRow b' e size v len xs:=by
 obtain⟨h1,h2⟩:=h;refine⟨h1,?_⟩;rcases h2 with hh | ⟨g,cap,cur,e1,e2,e3⟩
 ·exact Or.inl hh
 ·exact Or.inr ⟨g,cap,cur,e1,hb g (by rw[e1];rfl),e3⟩
theorem Md.code (h:Md w0 w w1 p n ad B args lv X v3 v C) (q:Pc w0 w1 w2 p n ad v v' C'):Md w0 w w2 p n ad B args lv X v3 v' C':=by
 have hb:∀ k,v'.ownBlock=some k→v.ownBlock=some k∨w1.heap.size≤k:=q.ob;have hs:=h.cg.size;refine h.far q.ks (h.cg.trans' q.cg (fun k hk=>?_)) (row_base q.cd (fun k hk=>?_)) (q.cg.block B h.lt (fun e=>?_)) (fun k hk=>q.cg.block k (h.lr.lt k hk).2 (fun e=>?_)) (fun e=>?_) (fun k hk e=>?_)
 ·rcases hk with e | e
  ·exact Or.inl e
  ·exact Or.inr (h.cd.lt k e).1
 ·rcases hb k hk with e | e
  ·exact (h.cd.lt k e).1
  ·omega
 ·rcases e with e | e
  ·exact h.np e
  ·exact h.nv e
 ·rcases e with e | e
  ·have:=(h.lr.lt k hk).1;have:=h.s0;have:=h.ks.p0;omega
  ·exact h.nn k hk e
 ·rcases hb B e with e | e
  ·exact h.nv e
  ·have:=h.lt;omega
 ·rcases hb k e with e | e
  ·exact h.nn k hk e
  ·have:=(h.lr.lt k hk).2;omega
theorem Md.put (h:Md w0 w w1 p n ad B args lv X v3 v C):Md w0 w (w1.setCell ⟨B,3,none⟩ v) p n ad B args lv X v v C:=by
 have hfar:∀ k,k≠B→(w1.setCell ⟨B,3,none⟩ v).heap[k]?=w1.heap[k]?:=fun k hk=>Below.heap_setCell _ _ _ _ hk;have hr:∀ {e:TypeId} {sz len:Nat} {u:Value} {xs:List Value},w1.ownsRow w.heap.size e sz u len xs→u.ownBlock≠some B→(w1.setCell ⟨B,3,none⟩ v).ownsRow w.heap.size e sz u len xs:=by
  intro e sz len u xs ho hu;obtain⟨h1,h2⟩:=ho;refine⟨h1,?_⟩;rcases h2 with hh | ⟨g,cap,cur,e1,e2,e3,e4⟩
  ·exact Or.inl hh
  ·exact Or.inr ⟨g,cap,cur,e1,e2,(hfar g (fun e=>hu (by rw[e1,← e];rfl))).trans e3,e4⟩
 have hc:∀ j,j≠3→(w1.setCell ⟨B,3,none⟩ v).cell? ⟨B,j,none⟩=w1.cell? ⟨B,j,none⟩:=fun j hj=>World.cell?_setCell_other _ _ _ _ (by intro e;injection e with _ h2;exact hj (by omega));have hsz:(w1.setCell ⟨B,3,none⟩ v).heap.size=w1.heap.size:=by simp
 refine⟨h.ks.other (F:=fun k=>k=B) ((Cg.refl (fun k=>k=B) w1).set ⟨B,3,none⟩ rfl v) (fun k hk=>by have:=h.bB;have:=h.s0;omega),h.cg.trans' ((Cg.refl (fun k=>k=B) w1).set ⟨B,3,none⟩ rfl v) (fun k hk=>Or.inr (by have:=h.bB;omega)),h.s0,hr h.cd h.nv,hr h.lr h.nl,(hc 0 (by decide)).trans h.c0,(hc 1 (by decide)).trans h.c1,(hc 2 (by decide)).trans h.c2,World.cell?_setCell_same _ _ _ h.c3,fun j=>(World.frozen?_setCell _ _ _ _).trans (h.z j),h.bB,h.nl,h.nv,h.nn⟩
theorem Md.start {wA:World} (h:Rw w0 w w1 p n ad (.slice none 0 0) lv 68 2 14 (pr2 X)) (hA:wA=w1.alloc (.cells #[.int .i64 args,.int .i64 2,lv,.slice none 0 0] 63)):Md w0 w wA p n ad w1.heap.size args lv X (.slice none 0 0) (.slice none 0 0) []:=by
 subst hA;have hb:=(Below.refl w1.heap.size w1).alloc (Nat.le_refl _) (.cells #[.int .i64 args,.int .i64 2,lv,.slice none 0 0] 63);have hn:(Value.slice none 0 0).ownBlock=none:=rfl;have hcg:Cg (fun k=>k=p) w w1:=h.cg.mono (fun k hk=>by
  rcases hk with e | e
  ·exact e
  ·rw[hn] at e;cases e)
 have hlv:∀ k,lv.ownBlock=some k→w.heap.size≤k:=fun k hk=>by
  rcases h.ob k hk with e | e
  ·rw[hn] at e;cases e
  ·exact e
 have hlt:∀ k,lv.ownBlock=some k→k < w1.heap.size:=fun k hk=>(h.cd.lt k hk).2;refine⟨h.ks.keep hb,hcg.trans (Cg.below _ hb),h.s0,World.ownsRow_nil _ _ _ _,row_base ((h.keep hb).cd) hlv,by simp,by simp,by simp,by simp,fun j=>?_,hcg.size,fun e=>?_,fun e=>?_,fun k hk e=>?_⟩
 ·exact World.frozen?_alloc_new _ _ _ _
 ·have:=hlt _ e;omega
 ·rw[hn] at e;cases e
 ·rw[hn] at e;cases e
theorem cell_in {w:World} {q k:Nat} {C:Array Value} {T:TypeId} {v:Value} (h:w.heap[q]?=some (.cells C T (0,0))) (hk:C[k]?=some v):w.cell? ⟨q,k,none⟩=some v:=by
 simp[World.cell?,h,hk]
theorem loose_in {w:World} {q k:Nat} {C:Array Value} {T:TypeId} (h:w.heap[q]?=some (.cells C T (0,0))):w.frozen? ⟨q,k,none⟩=false:=by
 simp[World.frozen?,h]
abbrev set4 (w:World) (q:Nat) (v0 v1 v2 v3:Value):World:=(((w.setCell ⟨q,0,none⟩ v0).setCell ⟨q,1,none⟩ v1).setCell ⟨q,2,none⟩ v2).setCell ⟨q,3,none⟩ v3
theorem set4_far (w:World) (q k:Nat) (v0 v1 v2 v3:Value) (hk:k≠q):(set4 w q v0 v1 v2 v3).heap[k]?=w.heap[k]?:=by
 unfold set4;rw[Below.heap_setCell _ _ _ _ hk,Below.heap_setCell _ _ _ _ hk,Below.heap_setCell _ _ _ _ hk,Below.heap_setCell _ _ _ _ hk]
theorem set4_at {w:World} {q:Nat} {v0 v1 v2 v3 u0 u1 u2 u3:Value} (c0:w.cell? ⟨q,0,none⟩=some u0) (c1:w.cell? ⟨q,1,none⟩=some u1) (c2:w.cell? ⟨q,2,none⟩=some u2) (c3:w.cell? ⟨q,3,none⟩=some u3):(set4 w q v0 v1 v2 v3).cell? ⟨q,0,none⟩=some v0∧(set4 w q v0 v1 v2 v3).cell? ⟨q,1,none⟩=some v1∧(set4 w q v0 v1 v2 v3).cell? ⟨q,2,none⟩=some v2∧(set4 w q v0 v1 v2 v3).cell? ⟨q,3,none⟩=some v3:=by
 have far:∀ {w:World} {i j:Nat} {v:Value},i≠j→(w.setCell ⟨q,i,none⟩ v).cell? ⟨q,j,none⟩=w.cell? ⟨q,j,none⟩:=fun hij=>World.cell?_setCell_other _ _ _ _ (by intro e;injection e with _ h2;omega);unfold set4;refine⟨?_,?_,?_,?_⟩
 ·rw[far (by decide),far (by decide),far (by decide)];exact World.cell?_setCell_same _ _ _ c0
 ·rw[far (by decide),far (by decide)];exact World.cell?_setCell_same _ _ _ ((far (by decide)).trans c1)
 ·rw[far (by decide)];exact World.cell?_setCell_same _ _ _ ((far (by decide)).trans ((far (by decide)).trans c2))
 ·exact World.cell?_setCell_same _ _ _ ((far (by decide)).trans ((far (by decide)).trans ((far (by decide)).trans c3)))
theorem Md.fin (h:Md w0 w w1 p n ad B args lv X v3 v C) {wb:World} (hw:Cg (fun k=>k=p) wb w) (hs:w0.heap.size≤wb.heap.size) (hB0:wb.heap.size < w.heap.size) (u0 u1 u2 u3:Value):Ks w0 (set4 w1 wb.heap.size u0 u1 u2 u3) p n ad∧Cg (fun k=>k=p) wb (set4 w1 wb.heap.size u0 u1 u2 u3)∧(set4 w1 wb.heap.size u0 u1 u2 u3).ownsRow wb.heap.size 68 2 lv 14 (pr2 X)∧(set4 w1 wb.heap.size u0 u1 u2 u3).ownsRow wb.heap.size 5 1 v C.length (bys C):=by
 have hfar:=fun k (hk:k≠wb.heap.size)=>set4_far w1 wb.heap.size k u0 u1 u2 u3 hk;have hg:Cg (fun k=>k=wb.heap.size) w1 (set4 w1 wb.heap.size u0 u1 u2 u3):=⟨rfl,rfl,rfl,by simp[set4],fun k _ hk=>hfar k hk⟩
 have hr:∀ {e:TypeId} {sz len:Nat} {u:Value} {xs:List Value},w1.ownsRow w.heap.size e sz u len xs→(set4 w1 wb.heap.size u0 u1 u2 u3).ownsRow wb.heap.size e sz u len xs:=by
  intro e sz len u xs ho;obtain⟨h1,h2⟩:=ho;refine⟨h1,?_⟩;rcases h2 with hh | ⟨g,cap,cur,e1,e2,e3,e4⟩
  ·exact Or.inl hh
  ·exact Or.inr ⟨g,cap,cur,e1,by omega,(hfar g (by omega)).trans e3,e4⟩
 exact⟨h.ks.other hg (fun k hk=>by omega),(hw.trans h.cg).trans' hg (fun k hk=>Or.inr (by omega)),hr h.lr,hr h.cd⟩
def sel4 (j:Nat):Int:=[7,3,4,0].getD j 0
theorem sel4_or (j:Nat) (hj:j < 4):sel4 j=7∨sel4 j=3∨sel4 j=4∨sel4 j=0:=by
 rcases (show j=0∨j=1∨j=2∨j=3 by omega) with rfl | rfl | rfl | rfl <;> simp[sel4]
theorem born4 (w:World) {j:Nat} (hj:j < 4):(w.alloc (.cells #[.int .i64 7,.int .i64 3,.int .i64 4,.int .i64 0] 3)).cell? ⟨w.heap.size,j,none⟩=some (.int .i64 (sel4 j)):=by
 rcases (show j=0∨j=1∨j=2∨j=3 by omega) with rfl | rfl | rfl | rfl <;> simp[sel4]
theorem arr4 {j:Nat} (hj:j < 4):(#[Value.int .i64 7,Value.int .i64 3,Value.int .i64 4,Value.int .i64 0]:Array Value)[j]?=some (.int .i64 (sel4 j)):=by
 rcases (show j=0∨j=1∨j=2∨j=3 by omega) with rfl | rfl | rfl | rfl <;> simp[sel4]
theorem lst4 {j:Nat} (hj:j < 4):([Value.int .i64 7,Value.int .i64 3,Value.int .i64 4,Value.int .i64 0]:List Value)[j]?=some (.int .i64 (sel4 j)):=by
 rcases (show j=0∨j=1∨j=2∨j=3 by omega) with rfl | rfl | rfl | rfl <;> simp[sel4]
structure Me (w0 w wr:World) (p n:Nat) (ad:Option Addr) (B:Nat) (args:Int) (lv:Value) (X:List (Int × Int)) (v3 v:Value) (C:List Int) (Bq:Nat):Prop where
 md:Md w0 w wr p n ad B args lv X v3 v C
 q:∀ j:Nat,j < 4→wr.cell? ⟨Bq,j,none⟩=some (.int .i64 (sel4 j))
 qp:Bq≠p
section
variable {wX:World} {Bq:Nat}
theorem Me.lt (h:Me w0 w w1 p n ad B args lv X v3 v C Bq):Bq < w1.heap.size:=World.block_lt_of_cell? w1 _ (h.q 0 (by omega))
theorem Me.keep (h:Me w0 w w1 p n ad B args lv X v3 v C Bq) (b:Below w1.heap.size w1 w2):Me w0 w w2 p n ad B args lv X v3 v C Bq :=
 ⟨h.md.keep b,fun j hj=>(World.cell?_of_block (a:=⟨Bq,j,none⟩) (b.block Bq h.lt)).trans (h.q j hj),h.qp⟩
theorem Me.next (h:Me w0 w w1 p n ad B args lv X v3 v C Bq) (t:Tp w2 p ad n) (c:Cg (fun k=>k=p) w1 w2):Me w0 w w2 p n ad B args lv X v3 v C Bq :=
 ⟨h.md.next t c,fun j hj=>(World.cell?_of_block (a:=⟨Bq,j,none⟩) (c.block Bq h.lt h.qp)).trans (h.q j hj),h.qp⟩
theorem Me.born (h:Md w0 w w1 p n ad B args lv X v3 v C) (hX:wX=w1.alloc (.cells #[.int .i64 7,.int .i64 3,.int .i64 4,.int .i64 0] 3)∨wX=(w1.alloc (.cells #[.int .i64 7,.int .i64 3,.int .i64 4,.int .i64 0] 3)).drew):Me w0 w wX p n ad B args lv X v3 v C w1.heap.size:=by
 have h1:Me w0 w (w1.alloc (.cells #[.int .i64 7,.int .i64 3,.int .i64 4,.int .i64 0] 3)) p n ad B args lv X v3 v C w1.heap.size :=
  ⟨h.keep ((Below.refl _ _).alloc (Nat.le_refl _) _),fun j hj=>born4 _ hj,fun e=>by have:=h.ks.p0;have:=h.ks.cg.size;omega⟩
 rcases hX with rfl | rfl
 ·exact h1
 ·exact h1.keep (Below.refl _ _).drew
theorem m4_a (h:Hid (Md w0 w w1 p n ad B args lv X v3 v C)) (hb:Below w1.heap.size w1 wX):Calls Tryz.prog 22 #[.pointer (some ⟨p,0,none⟩),.int .i64 4] wX fun e w'=>∃ j:Nat,e=.returned (.int .i64 (j:Int))∧j < 4∧Hid (Md w0 w w' p n ad B args lv X v3 v C):=by
 have h1:=h.out.keep hb;refine (next_c 4 (by omega) (by omega) h1.ks.tp).mono ?_;rintro e w' ⟨x,he,hx,t,c⟩;have ex:x=((x.toNat:Nat):Int):=by omega
 exact⟨x.toNat,by rw[← ex];exact he,by omega,HD (h1.next t c)⟩
theorem m4_d (h:Hid (Me w0 w w1 p n ad B args lv X v3 v C Bq)) (hb:Below w1.heap.size w1 wX):Calls Tryz.prog 22 #[.pointer (some ⟨p,0,none⟩),.int .i64 4] wX fun e w'=>∃ j:Nat,e=.returned (.int .i64 (j:Int))∧j < 4∧Hid (Me w0 w w' p n ad B args lv X v3 v C Bq):=by
 have h1:=h.out.keep hb;refine (next_c 4 (by omega) (by omega) h1.md.ks.tp).mono ?_;rintro e w' ⟨x,he,hx,t,c⟩;have ex:x=((x.toNat:Nat):Int):=by omega
 exact⟨x.toNat,by rw[← ex];exact he,by omega,HD (h1.next t c)⟩
theorem m4_b (h:Hid (Md w0 w w1 p n ad B args lv X v3 v C)) (hX:wX=w1.alloc (.cells #[.int .i64 7,.int .i64 3,.int .i64 4,.int .i64 0] 3)∨wX=(w1.alloc (.cells #[.int .i64 7,.int .i64 3,.int .i64 4,.int .i64 0] 3)).drew):Calls Tryz.prog 22 #[.pointer (some ⟨p,0,none⟩),.int .i64 4] wX fun e w'=>∃ j:Nat,e=.returned (.int .i64 (j:Int))∧j < 4∧Hid (Me w0 w w' p n ad B args lv X v3 v C w1.heap.size) :=
 m4_d (HD (Me.born h.out hX)) (Below.refl _ _)
theorem m2_a (h:Hid (Md w0 w w1 p n ad B args lv X v3 v C)) (hb:Below w1.heap.size w1 wX):Calls Tryz.prog 22 #[.pointer (some ⟨p,0,none⟩),.int .i64 2] wX fun e w'=>∃ r:Int,e=.returned (.int .i64 r)∧(0≤r∧r < 2)∧Hid (Md w0 w w' p n ad B args lv X v3 v C):=by
 have h1:=h.out.keep hb;refine (next_c 2 (by omega) (by omega) h1.ks.tp).mono ?_;rintro e w' ⟨x,he,hx,t,c⟩;exact⟨x,he,hx,HD (h1.next t c)⟩
theorem m2_d (h:Hid (Me w0 w w1 p n ad B args lv X v3 v C Bq)) (hb:Below w1.heap.size w1 wX):Calls Tryz.prog 22 #[.pointer (some ⟨p,0,none⟩),.int .i64 2] wX fun e w'=>∃ r:Int,e=.returned (.int .i64 r)∧(0≤r∧r < 2)∧Hid (Me w0 w w' p n ad B args lv X v3 v C Bq):=by
 have h1:=h.out.keep hb;refine (next_c 2 (by omega) (by omega) h1.md.ks.tp).mono ?_;rintro e w' ⟨x,he,hx,t,c⟩;exact⟨x,he,hx,HD (h1.next t c)⟩
theorem m2_b (h:Hid (Md w0 w w1 p n ad B args lv X v3 v C)) (hX:wX=w1.alloc (.cells #[.int .i64 7,.int .i64 3,.int .i64 4,.int .i64 0] 3)∨wX=(w1.alloc (.cells #[.int .i64 7,.int .i64 3,.int .i64 4,.int .i64 0] 3)).drew):Calls Tryz.prog 22 #[.pointer (some ⟨p,0,none⟩),.int .i64 2] wX fun e w'=>∃ r:Int,e=.returned (.int .i64 r)∧(0≤r∧r < 2)∧Hid (Me w0 w w' p n ad B args lv X v3 v C w1.heap.size) :=
 m2_d (HD (Me.born h.out hX)) (Below.refl _ _)
theorem mo_a (h:Hid (Md w0 w w1 p n ad B args lv X v3 v C)) (hb:Below w1.heap.size w1 wX) (hl:C.length≤100000) (o a:Int) :
  Calls Tryz.prog 46 #[v,.int .i64 o,.int .i64 a] wX fun e w'=>∃ a' m' c',e=.returned (.slice a' m' c')∧Hid (Md w0 w w' p n ad B args lv X v3 (.slice a' m' c') (C++[wr8 o,wr8 a])):=by
 have h1:=h.out.keep hb;refine (op_c h1.pc hl o a).mono ?_;rintro e w' ⟨v',he,hpc⟩;obtain⟨a',c',rfl⟩:=row_shape hpc.cd;exact⟨_,_,_,he,HD (h1.code hpc)⟩
theorem mo_d (h:Hid (Me w0 w w1 p n ad B args lv X v3 v C Bq)) (hb:Below w1.heap.size w1 wX) (hl:C.length≤100000) (o a:Int) :
  Calls Tryz.prog 46 #[v,.int .i64 o,.int .i64 a] wX fun e w'=>∃ a' m' c',e=.returned (.slice a' m' c')∧Hid (Md w0 w w' p n ad B args lv X v3 (.slice a' m' c') (C++[wr8 o,wr8 a])) :=
 mo_a (HD h.out.md) hb hl o a
theorem Md.c3a (h:Md w0 w w1 p n ad B args lv X v3 v C):(w1.alloc (.cells #[.int .i64 7,.int .i64 3,.int .i64 4,.int .i64 0] 3)).cell? ⟨B,3,none⟩=some v3:=(h.keep ((Below.refl _ _).alloc (Nat.le_refl _) _)).c3
end
end
theorem infoMeth:(Tryz.prog.info? 63).map (fun i=>(i.zero,i.size,i.bytes))=some (some (.agg #[.int .i64 0,.int .i64 0,.slice none 0 0,.slice none 0 0]),4,64):=by kernel_rfl
structure MethodC:Prop where
 c:∀ {w0 w:World} {p n:Nat} {ad:Option Addr} (h:Ks w0 w p n ad) (args c:Int) (bl:Bool) (ha:0≤args∧args≤2) (hc0:3≤c) (hc1:c≤100),
  Calls Tryz.prog 23 #[.pointer (some ⟨p,0,none⟩),.int .i64 args,.int .i64 c,.bool bl] w fun e w'=>∃ lv cv,e=.returned (.agg #[.int .i64 args,.int .i64 2,lv,cv])∧∃ X I,litsOk c X∧codeOk bl I∧Ks w0 w' p n ad∧Cg (fun k=>k=p) w w'∧w'.ownsRow w.heap.size 68 2 lv 14 (pr2 X)∧w'.ownsRow w.heap.size 5 1 cv (flat I).length (bys (flat I))
structure Un (w wB wr:World) (p n:Nat) (ad:Option Addr) (B:Nat) (nv cv mv ov:Value):Prop where
 ks:Ks w wr p n ad
 cg:Cg (fun k=>k=p∨B≤k) wB wr
 c0:wr.cell? ⟨B,0,none⟩=some nv
 c1:wr.cell? ⟨B,1,none⟩=some cv
 c2:wr.cell? ⟨B,2,none⟩=some mv
 c3:wr.cell? ⟨B,3,none⟩=some ov
 c4:wr.cell? ⟨B,4,none⟩=some (.int .i64 6)
 z:∀ j,wr.frozen? ⟨B,j,none⟩=false
 bB:w.heap.size≤B
 bs:B < wB.heap.size
section
variable {w wB w1 w2:World} {p n B:Nat} {ad:Option Addr} {nv cv mv ov u:Value}
theorem Un.pB (h:Un w wB w1 p n ad B nv cv mv ov):p < B:=Nat.lt_of_lt_of_le h.ks.p0 h.bB
theorem Un.lt (h:Un w wB w1 p n ad B nv cv mv ov):B < w1.heap.size:=Nat.lt_of_lt_of_le h.bs h.cg.size
theorem Un.block (h:Un w wB w1 p n ad B nv cv mv ov) (ks:Ks w w2 p n ad) (cg:Cg (fun k=>k=p∨B≤k) wB w2) (e:w2.heap[B]?=w1.heap[B]?):Un w wB w2 p n ad B nv cv mv ov :=
 ⟨ks,cg,(World.cell?_of_block (a:=⟨B,0,none⟩) e).trans h.c0,(World.cell?_of_block (a:=⟨B,1,none⟩) e).trans h.c1,(World.cell?_of_block (a:=⟨B,2,none⟩) e).trans h.c2,(World.cell?_of_block (a:=⟨B,3,none⟩) e).trans h.c3,(World.cell?_of_block (a:=⟨B,4,none⟩) e).trans h.c4,fun j=>(World.frozen?_of_block (a:=⟨B,j,none⟩) e).trans (h.z j),h.bB,h.bs⟩
theorem Un.next (h:Un w wB w1 p n ad B nv cv mv ov) (t:Tp w2 p ad n) (c:Cg (fun k=>k=p) w1 w2):Un w wB w2 p n ad B nv cv mv ov :=
 h.block (h.ks.step t c) (h.cg.trans (c.mono (fun k hk=>Or.inl hk))) (c.block B h.lt (fun e=>by have:=h.pB;omega))
theorem Un.far (h:Un w wB w1 p n ad B nv cv mv ov) {F:Nat→Prop} (c:Cg F w1 w2) (hF:∀ k,F k→B < k):Un w wB w2 p n ad B nv cv mv ov :=
 h.block (h.ks.other c (fun k hk=>by have:=hF k hk;have:=h.bB;omega)) (h.cg.trans (c.mono (fun k hk=>Or.inr (Nat.le_of_lt (hF k hk))))) (c.block B h.lt (fun hf=>by have:=hF B hf;omega))
theorem Un.keep (h:Un w wB w1 p n ad B nv cv mv ov) (b:Below w1.heap.size w1 w2):Un w wB w2 p n ad B nv cv mv ov:=h.far (F:=fun _=>False) (Cg.below _ b) (fun _ hf=>hf.elim)
theorem Un.set (h:Un w wB w1 p n ad B nv cv mv ov) (j:Nat) (x:Value):Ks w (w1.setCell ⟨B,j,none⟩ x) p n ad∧Cg (fun k=>k=p∨B≤k) wB (w1.setCell ⟨B,j,none⟩ x)∧(∀ i,i≠j→(w1.setCell ⟨B,j,none⟩ x).cell? ⟨B,i,none⟩=w1.cell? ⟨B,i,none⟩)∧∀ i,(w1.setCell ⟨B,j,none⟩ x).frozen? ⟨B,i,none⟩=false :=
 ⟨h.ks.other (F:=fun k=>k=B) ((Cg.refl (fun k=>k=B) w1).set ⟨B,j,none⟩ rfl x) (fun k hk=>by have:=h.bB;omega),h.cg.trans (((Cg.refl (fun k=>k=B) w1).set ⟨B,j,none⟩ rfl x).mono (fun k hk=>Or.inr (by omega))),fun i hi=>World.cell?_setCell_other _ _ _ _ (by intro e;injection e with _ h2;omega),fun i=>(World.frozen?_setCell _ _ _ _).trans (h.z i)⟩
theorem Un.put1 (h:Un w wB w1 p n ad B nv cv mv ov) (x:Value):Un w wB (w1.setCell ⟨B,1,none⟩ x) p n ad B nv x mv ov:=by
 obtain⟨k,g,f,z⟩:=h.set 1 x;exact⟨k,g,(f 0 (by decide)).trans h.c0,World.cell?_setCell_same _ _ _ h.c1,(f 2 (by decide)).trans h.c2,(f 3 (by decide)).trans h.c3,(f 4 (by decide)).trans h.c4,z,h.bB,h.bs⟩
theorem Un.put2 (h:Un w wB w1 p n ad B nv cv mv ov) (x:Value):Un w wB (w1.setCell ⟨B,2,none⟩ x) p n ad B nv cv x ov:=by
 obtain⟨k,g,f,z⟩:=h.set 2 x;exact⟨k,g,(f 0 (by decide)).trans h.c0,(f 1 (by decide)).trans h.c1,World.cell?_setCell_same _ _ _ h.c2,(f 3 (by decide)).trans h.c3,(f 4 (by decide)).trans h.c4,z,h.bB,h.bs⟩
theorem Un.put3 (h:Un w wB w1 p n ad B nv cv mv ov) (x:Value):Un w wB (w1.setCell ⟨B,3,none⟩ x) p n ad B nv cv mv x:=by
 obtain⟨k,g,f,z⟩:=h.set 3 x;exact⟨k,g,(f 0 (by decide)).trans h.c0,(f 1 (by decide)).trans h.c1,(f 2 (by decide)).trans h.c2,World.cell?_setCell_same _ _ _ h.c3,(f 4 (by decide)).trans h.c4,z,h.bB,h.bs⟩
end
theorem row_next {w1 w2:World} {b size n p:Nat} {e:TypeId} {v:Value} {xs:List Value} (h:w1.ownsRow b e size v n xs) (c:Cg (fun k=>k=p) w1 w2) (hp:p < b):w2.ownsRow b e size v n xs :=
 row_cg h c (fun k hk hf=>by have:=(h.lt k hk).1;omega)
theorem row_bel {w1 w2:World} {b size n:Nat} {e:TypeId} {v:Value} {xs:List Value} (h:w1.ownsRow b e size v n xs) (c:Below w1.heap.size w1 w2):w2.ownsRow b e size v n xs :=
 row_cg (F:=fun _=>False) h (Cg.below _ c) (fun _ _ hf=>hf)
theorem row_set {w1:World} {b size n:Nat} {e:TypeId} {v:Value} {xs:List Value} (h:w1.ownsRow b e size v n xs) (a:Addr) (x:Value) (ha:v.ownBlock≠some a.block):(w1.setCell a x).ownsRow b e size v n xs :=
 row_cg (F:=fun k=>k=a.block) h ((Cg.refl (fun k=>k=a.block) w1).set a rfl x) (fun k hk hf=>ha (by rw[hk,hf]))
def cName (i:Nat):ByteArray:=⟨#[67,UInt8.ofNat (48+i)]⟩
structure clsOk (L:List ClassA) (k:Nat) (c:ClassA):Prop where
 z:k=0→c.nm=⟨#[66,108,111,99,107]⟩∧c.super=-1∧c.fields=4
 o:k=1→c.nm=⟨#[65,114,114,97,121]⟩∧c.super=-1∧c.fields=0
 nm:2≤k→c.nm=cName (k - 2)
 sup:2≤k→c.super=-1∨(2≤c.super∧c.super < k∧∃ d,L[c.super.toNat]?=some d∧d.fields≤c.fields)
 fld:2≤k→0≤c.fields∧c.fields≤2*k
structure Cls (T:List (ClassA × Value)):Prop where
 two:2≤T.length
 ok:∀ (k:Nat) x,T[k]?=some x→clsOk (T.map (·.1)) k x.1∧x.1.binds=[]∧x.2=.slice none 0 0
theorem Cls.start:Cls [(⟨⟨#[66,108,111,99,107]⟩,-1,4,[]⟩,.slice none 0 0),(⟨⟨#[65,114,114,97,121]⟩,-1,0,[]⟩,.slice none 0 0)]:=by
 refine⟨by simp,fun k x hx=>?_⟩
 match k,hx with
 | 0,hx =>
  simp at hx;subst hx;exact⟨⟨fun _=>⟨rfl,rfl,rfl⟩,fun h=>by omega,fun h=>by omega,fun h=>by omega,fun h=>by omega⟩,rfl,rfl⟩
 | 1,hx =>
  simp at hx;subst hx;exact⟨⟨fun h=>by omega,fun _=>⟨rfl,rfl,rfl⟩,fun h=>by omega,fun h=>by omega,fun h=>by omega⟩,rfl,rfl⟩
 | k+2,hx=>simp at hx
theorem clsOk.more {L M:List ClassA} {k:Nat} {c:ClassA} (h:clsOk L k c) (hk:k≤L.length):clsOk (L++M) k c:=by
 refine⟨h.z,h.o,h.nm,fun h2=>?_,h.fld⟩;rcases h.sup h2 with e | ⟨e1,e2,d,e3,e4⟩
 ·exact Or.inl e
 ·exact Or.inr ⟨e1,e2,d,by rw[List.getElem?_append_left (by omega)];exact e3,e4⟩
theorem Cls.add {T:List (ClassA × Value)} (h:Cls T) {c:ClassA} (hc:clsOk (T.map (·.1)) T.length c) (hb:c.binds=[]):Cls (T++[(c,.slice none 0 0)]):=by
 refine⟨by simp;have:=h.two;omega,fun k x hx=>?_⟩;rw[List.map_append];by_cases hk:k < T.length
 ·rw[List.getElem?_append_left hk] at hx;obtain⟨a,b⟩:=h.ok k x hx;exact⟨a.more (by simp;omega),b⟩
 ·rw[List.getElem?_append_right (by omega)] at hx;have hk0:k=T.length:=by
   have:=(List.getElem?_eq_some_iff.1 hx).1;simp at this;omega
  subst hk0;simp at hx;subst hx;exact⟨hc.more (by simp),hb,rfl⟩
structure MethA where
 args:Int
 temps:Int
 lits:List (Int × Int)
 code:List Int
def mt4 (x:MethA) (lv cv:Value):List Value:=[.int .i64 x.args,.int .i64 x.temps,lv,cv]
def mt4s:List (MethA × Value × Value)→List Value
 | []=>[]
 | x :: X=>mt4 x.1 x.2.1 x.2.2++mt4s X
theorem mt4s_app:∀ A B,mt4s (A++B)=mt4s A++mt4s B
 | [],_=>rfl
 | t :: A,B=>by simp[mt4s,mt4s_app A B]
theorem mt4s_len:∀ A,(mt4s A).length=A.length*4
 | []=>rfl
 | t :: A=>by simp only[mt4s,mt4,List.length_append,List.length_cons,List.length_nil,mt4s_len A];omega
theorem mt4s_get:∀ (T:List (MethA × Value × Value)) (k:Nat) t,T[k]?=some t→(mt4s T)[k*4]?=some (.int .i64 t.1.args)∧(mt4s T)[k*4+1]?=some (.int .i64 t.1.temps)∧(mt4s T)[k*4+2]?=some t.2.1∧(mt4s T)[k*4+3]?=some t.2.2
 | [],k,t,h=>by simp at h
 | s :: T,0,t,h=>by simp at h;subst h;simp[mt4s,mt4]
 | s :: T,k+1,t,h=>by
  have:=mt4s_get T k t (by simpa using h);rw[show (k+1)*4=k*4+4 by omega];simpa [mt4s,mt4] using this
theorem mt4s_one:∀ (T:List (MethA × Value × Value)),(∀ x∈T,(∃ a m c,x.2.1=.slice a m c)∧∃ a m c,x.2.2=.slice a m c)→∀ u∈mt4s T,u.oneCell'=true
 | [],_,u,h=>by cases h
 | t :: T,hT,u,h=>by
  simp only[mt4s,mt4,List.mem_append,List.mem_cons,List.not_mem_nil,or_false] at h;rcases h with (rfl | rfl | rfl | rfl) | h
  ·rfl
  ·rfl
  ·exact sl_one (hT t (by simp)).1
  ·exact sl_one (hT t (by simp)).2
  ·exact mt4s_one T (fun x hx=>hT x (by simp[hx])) u h
structure methOk (c:Int) (j:Nat) (x:MethA):Prop where
 args:x.args=if j < 6 then argOf j else if j=8 then 1 else 0
 temps:x.temps=2
 lits:litsOk c x.lits
 code:∃ I,codeOk (decide (7≤j)) I∧x.code=flat I
structure Sub2 (H:Nat) (w:World) (x:MethA × Value × Value):Prop where
 l:w.ownsRow H 68 2 x.2.1 x.1.lits.length (pr2 x.1.lits)
 c:w.ownsRow H 5 1 x.2.2 x.1.code.length (bys x.1.code)
theorem Sub2.carry {H:Nat} {w1 w2:World} {x:MethA × Value × Value} {F:Nat→Prop} (h:Sub2 H w1 x) (c:Cg F w1 w2) (hF:∀ k,H≤k→F k→x.2.1.ownBlock≠some k∧x.2.2.ownBlock≠some k):Sub2 H w2 x :=
 ⟨row_cg h.l c (fun k hk hf=>(hF k (h.l.lt k hk).1 hf).1 hk),row_cg h.c c (fun k hk hf=>(hF k (h.c.lt k hk).1 hf).2 hk)⟩
theorem Sub2.form {H:Nat} {w1:World} {x:MethA × Value × Value} (h:Sub2 H w1 x):(∃ a m c,x.2.1=.slice a m c)∧∃ a m c,x.2.2=.slice a m c:=⟨slice_form h.l,slice_form h.c⟩
structure MRow (H:Nat) (w:World) (c:Int) (mv:Value) (k:Nat) (M:List (MethA × Value × Value)):Prop where
 row:w.ownsRow H 63 4 mv k (mt4s M)
 len:k=M.length
 sub:∀ x∈M,Sub2 H w x
 sep:∀ x∈M,∀ b,mv.ownBlock=some b→x.2.1.ownBlock≠some b∧x.2.2.ownBlock≠some b
 ok:∀ (j:Nat) x,M[j]?=some x→methOk c j x.1
theorem MRow.start (H:Nat) (w:World) (c:Int):MRow H w c (.slice none 0 0) 0 []:=⟨World.ownsRow_nil _ _ _ _,rfl,by simp,by simp,by simp⟩
theorem MRow.carry {H k:Nat} {w1 w2:World} {c:Int} {mv:Value} {M:List (MethA × Value × Value)} {F:Nat→Prop} (h:MRow H w1 c mv k M) (cg:Cg F w1 w2) (hF:∀ b,F b→b < H):MRow H w2 c mv k M :=
 ⟨row_cg h.row cg (fun b hb hf=>by have:=(h.row.lt b hb).1;have:=hF b hf;omega),h.len,fun x hx=>(h.sub x hx).carry cg (fun b hb hf=>by have:=hF b hf;omega),h.sep,h.ok⟩
theorem MRow.bel {H k:Nat} {w1 w2:World} {c:Int} {mv:Value} {M:List (MethA × Value × Value)} (h:MRow H w1 c mv k M) (b:Below w1.heap.size w1 w2):MRow H w2 c mv k M :=
 h.carry (F:=fun _=>False) (Cg.below _ b) (fun _ hf=>hf.elim)
theorem MRow.add {H k m:Nat} {w1 wA w2:World} {c:Int} {mv mv':Value} {M N:List (MethA × Value × Value)} (h:MRow H w1 c mv k M) (hm:m=N.length) (hN:∀ x∈N,Sub2 H w1 x) (hs:∀ x∈N,∀ b,mv.ownBlock=some b→x.2.1.ownBlock≠some b∧x.2.2.ownBlock≠some b) (hA:Below w1.heap.size w1 wA) (ho:w2.ownsRow H 63 4 mv' (k+m) (mt4s M++mt4s N)) (hg:wA.grownBy w2 mv.ownBlock) (hat:∀ b,mv'.ownBlock=some b→mv.ownBlock=some b∨b=wA.heap.size) (hok:∀ (j:Nat) x,N[j]?=some x→methOk c (k+j) x.1):MRow H w2 c mv' (k+m) (M++N):=by
 have hc1:Cg (fun b=>mv.ownBlock=some b) w1 w2:=(Cg.below _ hA).grown hg (fun b e=>Or.inl e);have hall:∀ x∈M++N,Sub2 H w1 x∧∀ b,mv.ownBlock=some b→x.2.1.ownBlock≠some b∧x.2.2.ownBlock≠some b:=fun x hx=>by
  rcases List.mem_append.1 hx with hx | hx
  ·exact⟨h.sub x hx,h.sep x hx⟩
  ·exact⟨hN x hx,hs x hx⟩
 refine⟨by rw[mt4s_app];exact ho,by simp[h.len,hm],fun x hx=>(hall x hx).1.carry hc1 (fun b _ hf=>(hall x hx).2 b hf),fun x hx b hb=>?_,fun j x hx=>?_⟩
 ·rcases hat b hb with e | e
  ·exact (hall x hx).2 b e
  ·have hsz:=hA.size;exact⟨fun e1=>by have:=((hall x hx).1.l.lt b e1).2;omega,fun e1=>by have:=((hall x hx).1.c.lt b e1).2;omega⟩
 ·by_cases hj:j < M.length
  ·rw[List.getElem?_append_left hj] at hx;exact h.ok j x hx
  ·rw[List.getElem?_append_right (by omega)] at hx;have:=hok (j - M.length) x hx;rw[h.len,show M.length+(j - M.length)=j by omega] at this;exact this
theorem mt4_at {w:World} {g:Nat} {x:MethA} {lv cv:Value} (h0:w.cell? ⟨g,0,none⟩=some (.int .i64 x.args)) (h1:w.cell? ⟨g,1,none⟩=some (.int .i64 x.temps)) (h2:w.cell? ⟨g,2,none⟩=some lv) (h3:w.cell? ⟨g,3,none⟩=some cv):∀ j v,(mt4s [(x,lv,cv)])[j]?=some v→w.cell? ((⟨g,0,none⟩:Addr).add j)=some v:=by
 intro j v hu
 match j,hu with
 | 0,hu =>
  simp[mt4s,mt4] at hu;subst hu;rw[Addr.add_lit];exact h0
 | 1,hu =>
  simp[mt4s,mt4] at hu;subst hu;rw[Addr.add_lit];exact h1
 | 2,hu =>
  simp[mt4s,mt4] at hu;subst hu;rw[Addr.add_lit];exact h2
 | 3,hu =>
  simp[mt4s,mt4] at hu;subst hu;rw[Addr.add_lit];exact h3
def cls0:List (ClassA × Value):=[(⟨⟨#[66,108,111,99,107]⟩,-1,4,[]⟩,.slice none 0 0),(⟨⟨#[65,114,114,97,121]⟩,-1,0,[]⟩,.slice none 0 0)]
abbrev wU (w:World):World:=(((w.alloc (.cells #[.slice none 0 0,.slice none 0 0,.slice none 0 0,.slice none 0 0,.int .i64 0] 27)).alloc (.cells (strs nameL).toArray 9)).alloc (.cells #[.slice (some ⟨w.heap.size+1,0,none⟩) 6 6,.slice (some ⟨w.heap.size+1+1+1,0,none⟩) 2 2,.slice none 0 0,.slice none 0 0,.int .i64 6] 27)).alloc (.cells (cl4s cls0).toArray 60)
theorem alloc_at (w:World) (o:Obj) (k:Nat) (h:k=w.heap.size):(w.alloc o).heap[k]?=some o:=by subst h;exact heap_alloc_new _ _
theorem alloc_old (w:World) (o:Obj) (k:Nat) (hk:k < w.heap.size):(w.alloc o).heap[k]?=w.heap[k]?:=Below.heap_alloc w o k hk
theorem wU_0 (w:World):(wU w).heap[w.heap.size]?=some (.cells #[.slice none 0 0,.slice none 0 0,.slice none 0 0,.slice none 0 0,.int .i64 0] 27 (0,0)):=by
 unfold wU;rw[alloc_old _ _ _ (by simp only[World.size_alloc];omega),alloc_old _ _ _ (by simp only[World.size_alloc];omega),alloc_old _ _ _ (by simp only[World.size_alloc];omega)];exact alloc_at _ _ _ rfl
theorem wU_1 (w:World):(wU w).heap[w.heap.size+1]?=some (.cells (strs nameL).toArray 9 (0,0)):=by
 unfold wU;rw[alloc_old _ _ _ (by simp only[World.size_alloc];omega),alloc_old _ _ _ (by simp only[World.size_alloc];omega)];exact alloc_at _ _ _ (by simp only[World.size_alloc])
theorem wU_2 (w:World):(wU w).heap[w.heap.size+1+1]?=some (.cells #[.slice (some ⟨w.heap.size+1,0,none⟩) 6 6,.slice (some ⟨w.heap.size+1+1+1,0,none⟩) 2 2,.slice none 0 0,.slice none 0 0,.int .i64 6] 27 (0,0)):=by
 unfold wU;rw[alloc_old _ _ _ (by simp only[World.size_alloc];omega)];exact alloc_at _ _ _ (by simp only[World.size_alloc])
theorem wU_3 (w:World):(wU w).heap[w.heap.size+1+1+1]?=some (.cells (cl4s cls0).toArray 60 (0,0)):=by
 unfold wU;exact alloc_at _ _ _ (by simp only[World.size_alloc])
theorem wU_bel (w:World):Below w.heap.size w (wU w):=by
 unfold wU;exact ((((Below.refl _ w).alloc (Nat.le_refl _) _).alloc (by simp only[World.size_alloc];omega) _).alloc (by simp only[World.size_alloc];omega) _).alloc (by simp only[World.size_alloc];omega) _
theorem Un.start {w wB:World} {p n:Nat} {ad:Option Addr} {B:Nat} {nv cv:Value} (h:Ks w wB p n ad) (e:wB.heap[B]?=some (.cells #[nv,cv,.slice none 0 0,.slice none 0 0,.int .i64 6] 27 (0,0))) (hb:w.heap.size≤B):Un w wB wB p n ad B nv cv (.slice none 0 0) (.slice none 0 0) :=
 ⟨h,Cg.refl _ _,cell_in e rfl,cell_in e rfl,cell_in e rfl,cell_in e rfl,cell_in e rfl,fun j=>loose_in e,hb,(Array.getElem?_eq_some_iff.1 e).1⟩
theorem row_of {w:World} {b g sz m:Nat} {C:Array Value} {T:TypeId} (h:w.heap[g]?=some (.cells C T (0,0))) (hb:b≤g) (hs:C.size=m*sz) (hm:m≤maxLen):w.ownsRow b T sz (.slice (some ⟨g,0,none⟩) m m) m C.toList :=
 ⟨by simpa using hs,Or.inr ⟨g,m,C,rfl,hb,h,Nat.le_refl _,hm,hs,by rw[← hs];exact List.take_of_length_le (by simp)⟩⟩
structure P1 (w wB wr:World) (p n:Nat) (ad:Option Addr) (B:Nat) (nv cv:Value) (m:Nat) (T:List (ClassA × Value)):Prop where
 un:Un w wB wr p n ad B nv cv (.slice none 0 0) (.slice none 0 0)
 row:wr.ownsRow (B+1) 60 4 cv m (cl4s T)
 len:m=T.length
 cls:Cls T
section
variable {w wB w1 w2:World} {p n B m:Nat} {ad:Option Addr} {nv cv:Value} {T:List (ClassA × Value)}
theorem P1.next (h:P1 w wB w1 p n ad B nv cv m T) (t:Tp w2 p ad n) (c:Cg (fun k=>k=p) w1 w2):P1 w wB w2 p n ad B nv cv m T :=
 ⟨h.un.next t c,row_next h.row c (by have:=h.un.pB;omega),h.len,h.cls⟩
theorem P1.keep (h:P1 w wB w1 p n ad B nv cv m T) (b:Below w1.heap.size w1 w2):P1 w wB w2 p n ad B nv cv m T :=
 ⟨h.un.keep b,row_bel h.row b,h.len,h.cls⟩
structure Q1 (w wB wr:World) (p n:Nat) (ad:Option Addr) (B:Nat) (nv cv:Value) (m:Nat) (T:List (ClassA × Value)) (D:Nat) (nm:ByteArray) (s f:Int):Prop where
 p1:P1 w wB wr p n ad B nv cv m T
 k0:wr.cell? ⟨D,0,none⟩=some (.string nm)
 k1:wr.cell? ⟨D,1,none⟩=some (.int .i64 s)
 k2:wr.cell? ⟨D,2,none⟩=some (.int .i64 f)
 k3:wr.cell? ⟨D,3,none⟩=some (.slice none 0 0)
 kz:∀ j,wr.frozen? ⟨D,j,none⟩=false
 bD:B < D
 nD:cv.ownBlock≠some D
variable {D:Nat} {nm:ByteArray} {s f:Int}
theorem Q1.block (h:Q1 w wB w1 p n ad B nv cv m T D nm s f) (p1:P1 w wB w2 p n ad B nv cv m T) (e:w2.heap[D]?=w1.heap[D]?):Q1 w wB w2 p n ad B nv cv m T D nm s f :=
 ⟨p1,(World.cell?_of_block (a:=⟨D,0,none⟩) e).trans h.k0,(World.cell?_of_block (a:=⟨D,1,none⟩) e).trans h.k1,(World.cell?_of_block (a:=⟨D,2,none⟩) e).trans h.k2,(World.cell?_of_block (a:=⟨D,3,none⟩) e).trans h.k3,fun j=>(World.frozen?_of_block (a:=⟨D,j,none⟩) e).trans (h.kz j),h.bD,h.nD⟩
theorem Q1.lt (h:Q1 w wB w1 p n ad B nv cv m T D nm s f):D < w1.heap.size:=World.block_lt_of_cell? w1 _ h.k0
theorem Q1.next (h:Q1 w wB w1 p n ad B nv cv m T D nm s f) (t:Tp w2 p ad n) (c:Cg (fun k=>k=p) w1 w2):Q1 w wB w2 p n ad B nv cv m T D nm s f :=
 h.block (h.p1.next t c) (c.block D h.lt (fun e=>by have:=h.bD;have:=h.p1.un.pB;omega))
theorem Q1.keep (h:Q1 w wB w1 p n ad B nv cv m T D nm s f) (b:Below w1.heap.size w1 w2):Q1 w wB w2 p n ad B nv cv m T D nm s f :=
 h.block (h.p1.keep b) (b.block D h.lt)
theorem Q1.start (h:P1 w wB w1 p n ad B nv cv m T) (hw:w2=w1.alloc (.cells #[.string nm,.int .i64 s,.int .i64 f,.slice none 0 0] 60)):Q1 w wB w2 p n ad B nv cv m T w1.heap.size nm s f:=by
 subst hw;have e:(w1.alloc (.cells #[.string nm,.int .i64 s,.int .i64 f,.slice none 0 0] 60)).heap[w1.heap.size]?=some (.cells #[.string nm,.int .i64 s,.int .i64 f,.slice none 0 0] 60 (0,0)):=alloc_at _ _ _ rfl;exact⟨h.keep ((Below.refl _ _).alloc (Nat.le_refl _) _),cell_in e rfl,cell_in e rfl,cell_in e rfl,cell_in e rfl,fun j=>loose_in e,h.un.lt,fun e=>by have:=(h.row.lt _ e).2;omega⟩
theorem Q1.far (h:P1 w wB w1 p n ad B nv cv m T) (bD:B < D) (nD:cv.ownBlock≠some D) (j:Nat) (x:Value):P1 w wB (w1.setCell ⟨D,j,none⟩ x) p n ad B nv cv m T :=
 ⟨h.un.far (F:=fun k=>k=D) ((Cg.refl (fun k=>k=D) w1).set ⟨D,j,none⟩ rfl x) (fun k hk=>by omega),row_set h.row _ _ nD,h.len,h.cls⟩
theorem Q1.sup (h:Q1 w wB w1 p n ad B nv cv m T D nm s f) (s':Int):Q1 w wB (w1.setCell ⟨D,1,none⟩ (.int .i64 s')) p n ad B nv cv m T D nm s' f :=
 ⟨Q1.far h.p1 h.bD h.nD 1 _,(World.cell?_setCell_other _ _ _ _ (by intro e;cases e)).trans h.k0,World.cell?_setCell_same _ _ _ h.k1,(World.cell?_setCell_other _ _ _ _ (by intro e;cases e)).trans h.k2,(World.cell?_setCell_other _ _ _ _ (by intro e;cases e)).trans h.k3,fun j=>(World.frozen?_setCell _ _ _ _).trans (h.kz j),h.bD,h.nD⟩
theorem Q1.fld (h:Q1 w wB w1 p n ad B nv cv m T D nm s f) (f':Int):Q1 w wB (w1.setCell ⟨D,2,none⟩ (.int .i64 f')) p n ad B nv cv m T D nm s f' :=
 ⟨Q1.far h.p1 h.bD h.nD 2 _,(World.cell?_setCell_other _ _ _ _ (by intro e;cases e)).trans h.k0,(World.cell?_setCell_other _ _ _ _ (by intro e;cases e)).trans h.k1,World.cell?_setCell_same _ _ _ h.k2,(World.cell?_setCell_other _ _ _ _ (by intro e;cases e)).trans h.k3,fun j=>(World.frozen?_setCell _ _ _ _).trans (h.kz j),h.bD,h.nD⟩
theorem P1.grown {wA:World} (h:P1 w wB w1 p n ad B nv cv m T) (hA:Below w1.heap.size w1 wA) (hg:wA.grownBy w2 cv.ownBlock):Un w wB w2 p n ad B nv cv (.slice none 0 0) (.slice none 0 0) :=
 h.un.far ((Cg.below _ hA).grown hg (fun k e=>Or.inl e)) (fun k hk=>by have:=(h.row.lt k hk).1;omega)
theorem P1.add {wA:World} {v':Value} {c:ClassA} (h:P1 w wB w1 p n ad B nv cv m T) (hA:Below w1.heap.size w1 wA) (ho:w2.ownsRow (B+1) 60 4 v' (m+1) (cl4s T++cl4 c (.slice none 0 0))) (hg:wA.grownBy w2 cv.ownBlock) (hc:clsOk (T.map (·.1)) T.length c) (hb:c.binds=[]):P1 w wB (w2.setCell ⟨B,1,none⟩ v') p n ad B nv v' (m+1) (T++[(c,.slice none 0 0)]):=by
 have hc1:Cg (fun k=>cv.ownBlock=some k) w1 w2:=(Cg.below _ hA).grown hg (fun k e=>Or.inl e);have hu:=h.un.far hc1 (fun k hk=>by have:=(h.row.lt k hk).1;omega);refine⟨hu.put1 v',row_set ?_ _ _ (fun e=>by have:=(ho.lt _ e).1;simp only at this;omega),by simp[h.len],h.cls.add hc hb⟩;rw[cl4s_app];simpa [cl4s] using ho
end
theorem row_some {w:World} {b sz m cp:Nat} {e:TypeId} {a:Option Addr} {xs:List Value} (h:w.ownsRow b e sz (.slice a m cp) m xs) (hm:0 < m):∃ g,a=some ⟨g,0,none⟩:=by
 rcases h.2 with ⟨_,h0⟩ | ⟨g,cap,cur,e1,_⟩
 ·omega
 ·cases e1;exact⟨g,rfl⟩
theorem clsOk.plain (L:List ClassA) (i k:Nat) (f:Int) (hk:k=2+i) (f0:0≤f) (f1:f≤3):clsOk L k ⟨cName i,-1,f,[]⟩:=by
 subst hk;exact⟨fun h=>by omega,fun h=>by omega,fun _=>by simp,fun _=>Or.inl rfl,fun _=>⟨f0,by simp only;omega⟩⟩
theorem clsOk.sub {L:List ClassA} {i k j:Nat} {d:ClassA} {f:Int} (hk:k=2+i) (hj:2≤j) (hjk:j < k) (hd:L[j]?=some d) (od:clsOk L j d) (f0:d.fields≤f) (f1:f≤d.fields+2):clsOk L k ⟨cName i,j,f,[]⟩:=by
 subst hk;obtain⟨g0,g1⟩:=od.fld hj;refine⟨fun h=>by omega,fun h=>by omega,fun _=>by simp,fun _=>Or.inr ⟨by simp only;omega,by simp only;omega,d,by simpa using hd,f0⟩,fun _=>⟨by simp only;omega,by simp only;omega⟩⟩
theorem cl4_at {w:World} {g:Nat} {c:ClassA} {bv:Value} (h0:w.cell? ⟨g,0,none⟩=some (.string c.nm)) (h1:w.cell? ⟨g,1,none⟩=some (.int .i64 c.super)) (h2:w.cell? ⟨g,2,none⟩=some (.int .i64 c.fields)) (h3:w.cell? ⟨g,3,none⟩=some bv):∀ j v,(cl4 c bv)[j]?=some v→w.cell? ((⟨g,0,none⟩:Addr).add j)=some v:=by
 intro j v hu
 match j,hu with
 | 0,hu =>
  simp[cl4] at hu;subst hu;rw[Addr.add_lit];exact h0
 | 1,hu =>
  simp[cl4] at hu;subst hu;rw[Addr.add_lit];exact h1
 | 2,hu =>
  simp[cl4] at hu;subst hu;rw[Addr.add_lit];exact h2
 | 3,hu =>
  simp[cl4] at hu;subst hu;rw[Addr.add_lit];exact h3
theorem cl4_one (c:ClassA) (bv:Value) (hb:∃ a m c,bv=.slice a m c):∀ u∈cl4 c bv,u.oneCell'=true:=by
 intro u hu;simp only[cl4,List.mem_cons,List.not_mem_nil,or_false] at hu;rcases hu with rfl | rfl | rfl | rfl
 ·rfl
 ·rfl
 ·rfl
 ·exact sl_one hb
theorem infoCls:(Tryz.prog.info? 60).map (fun i=>(i.zero,i.size,i.bytes))=some (some (.agg #[.string ByteArray.empty,.int .i64 0,.int .i64 0,.slice none 0 0]),4,56):=by kernel_rfl
theorem Un.s3 {w wB w1:World} {p n B:Nat} {ad:Option Addr} {nv cv mv ov:Value} (h:Un w wB w1 p n ad B nv cv mv ov):w1.cell? ⟨B,1,none⟩=some cv∧w1.cell? ⟨B,2,none⟩=some mv∧w1.frozen? ⟨B,2,none⟩=false:=⟨h.c1,h.c2,h.z 2⟩
structure P2 (w wB wr:World) (p n:Nat) (ad:Option Addr) (B:Nat) (nv cv:Value) (m:Nat) (T:List (ClassA × Value)) (H:Nat) (mv:Value) (k:Nat) (M:List (MethA × Value × Value)):Prop where
 un:Un w wB wr p n ad B nv cv mv (.slice none 0 0)
 row:wr.ownsRow (B+1) 60 4 cv m (cl4s T)
 rlt:∀ b,cv.ownBlock=some b→b < H
 len:m=T.length
 cls:Cls T
 HB:B < H
 Hsz:H≤wr.heap.size
 mr:MRow H wr (m:Int) mv k M
theorem Sub2.made {H:Nat} {w:World} {X:List (Int × Int)} {C:List Int} {lv kv:Value} (a t:Int) (rl:w.ownsRow H 68 2 lv 14 (pr2 X)) (rk:w.ownsRow H 5 1 kv C.length (bys C)):Sub2 H w (⟨a,t,X,C⟩,lv,kv):=by
 refine⟨?_,rk⟩;have h1:=rl.1;rw[pr2_len] at h1;have:X.length=14:=by omega
 rw[this];exact rl
theorem meth3 {c:Int} (x y z:MethA × Value × Value) (hx:methOk c 6 x.1) (hy:methOk c 7 y.1) (hz:methOk c 8 z.1):∀ (j:Nat) u,[x,y,z][j]?=some u→methOk c (6+j) u.1:=by
 intro j u hu
 match j,hu with
 | 0,hu=>simp at hu;subst hu;exact hx
 | 1,hu=>simp at hu;subst hu;exact hy
 | 2,hu=>simp at hu;subst hu;exact hz
 | j+3,hu=>simp at hu
theorem Sub2.base {H H':Nat} {w:World} {x:MethA × Value × Value} (h:Sub2 H' w x) (hH:H≤H'):Sub2 H w x :=
 ⟨row_base h.l (fun b hb=>Nat.le_trans hH (h.l.lt b hb).1),row_base h.c (fun b hb=>Nat.le_trans hH (h.c.lt b hb).1)⟩
section
variable {w wB w1 w2:World} {p n B m H k:Nat} {ad:Option Addr} {nv cv mv:Value} {T:List (ClassA × Value)} {M:List (MethA × Value × Value)}
theorem P2.start (h:P1 w wB w1 p n ad B nv cv m T):P2 w wB w1 p n ad B nv cv m T w1.heap.size (.slice none 0 0) 0 [] :=
 ⟨h.un,h.row,fun b hb=>(h.row.lt b hb).2,h.len,h.cls,h.un.lt,Nat.le_refl _,MRow.start _ _ _⟩
theorem P2.next (h:P2 w wB w1 p n ad B nv cv m T H mv k M) (t:Tp w2 p ad n) (c:Cg (fun k=>k=p) w1 w2):P2 w wB w2 p n ad B nv cv m T H mv k M :=
 ⟨h.un.next t c,row_next h.row c (by have:=h.un.pB;omega),h.rlt,h.len,h.cls,h.HB,Nat.le_trans h.Hsz c.size,h.mr.carry c (fun b hb=>by have:=h.un.pB;have:=h.HB;omega)⟩
theorem P2.keep (h:P2 w wB w1 p n ad B nv cv m T H mv k M) (b:Below w1.heap.size w1 w2):P2 w wB w2 p n ad B nv cv m T H mv k M :=
 ⟨h.un.keep b,row_bel h.row b,h.rlt,h.len,h.cls,h.HB,Nat.le_trans h.Hsz b.size,h.mr.bel b⟩
theorem P2.grown (h:P2 w wB w1 p n ad B nv cv m T H mv k M) {wA:World} (hA:Below w1.heap.size w1 wA) (hg:wA.grownBy w2 mv.ownBlock):Un w wB w2 p n ad B nv cv mv (.slice none 0 0) :=
 h.un.far ((Cg.below _ hA).grown hg (fun k e=>Or.inl e)) (fun b hb=>by have:=(h.mr.row.lt b hb).1;have:=h.HB;omega)
theorem P2.add (h:P2 w wB w1 p n ad B nv cv m T H mv k M) {wA:World} {mv':Value} {q:Nat} {N:List (MethA × Value × Value)} (hm:q=N.length) (hN:∀ x∈N,Sub2 H w1 x) (hs:∀ x∈N,∀ b,mv.ownBlock=some b→x.2.1.ownBlock≠some b∧x.2.2.ownBlock≠some b) (hA:Below w1.heap.size w1 wA) (ho:w2.ownsRow H 63 4 mv' (k+q) (mt4s M++mt4s N)) (hg:wA.grownBy w2 mv.ownBlock) (hat:∀ b,mv'.ownBlock=some b→mv.ownBlock=some b∨b=wA.heap.size) (hok:∀ (j:Nat) x,N[j]?=some x→methOk (m:Int) (k+j) x.1):P2 w wB (w2.setCell ⟨B,2,none⟩ mv') p n ad B nv cv m T H mv' (k+q) (M++N):=by
 have hu:=h.grown hA hg;have hc1:Cg (fun b=>mv.ownBlock=some b) w1 w2:=(Cg.below _ hA).grown hg (fun b e=>Or.inl e);have hset:Cg (fun b=>b=B) w2 (w2.setCell ⟨B,2,none⟩ mv'):=(Cg.refl (fun b=>b=B) w2).set ⟨B,2,none⟩ rfl mv';refine⟨hu.put2 mv',row_cg (row_cg h.row hc1 (fun b hb hf=>?_)) hset (fun b hb hf=>?_),h.rlt,h.len,h.cls,h.HB,?_,(h.mr.add hm hN hs hA ho hg hat hok).carry hset (fun b hb=>by have:=h.HB;omega)⟩
 ·have:=h.rlt b hb;have:=(h.mr.row.lt b hf).1;omega
 ·have:=(h.row.lt b hb).1;omega
 ·have:=h.Hsz;have:=hc1.size;have:=hset.size;omega
end
def bndSub (k:Nat) (b:List (Int × Int)):Prop:=∃ S:List Nat,S.Pairwise (· < ·)∧(∀ s∈S,s < k)∧b=S.map (fun (s:Nat)=>((s:Int),(s:Int)))
theorem bndSub.nil (k:Nat):bndSub k []:=⟨[],List.Pairwise.nil,by simp,rfl⟩
theorem bndSub.mono {k k':Nat} {b:List (Int × Int)} (h:bndSub k b) (hk:k≤k'):bndSub k' b:=by
 obtain⟨S,h1,h2,h3⟩:=h;exact⟨S,h1,fun s hs=>Nat.lt_of_lt_of_le (h2 s hs) hk,h3⟩
theorem bndSub.add {k:Nat} {b:List (Int × Int)} (h:bndSub k b):bndSub (k+1) (b++[((k:Int),(k:Int))]):=by
 obtain⟨S,h1,h2,rfl⟩:=h;refine⟨S++[k],List.pairwise_append.2 ⟨h1,List.pairwise_singleton _ _,fun a ha c hc=>by rw[List.mem_singleton.1 hc];exact h2 a ha⟩,fun s hs=>?_,by simp⟩;rcases List.mem_append.1 hs with hs | hs
 ·have:=h2 s hs;omega
 ·rw[List.mem_singleton.1 hs];omega
theorem rise_len (k:Nat):∀ (S:List Nat) (lo:Nat),S.Pairwise (· < ·)→(∀ s∈S,lo≤s∧s < k)→S.length+lo≤k∨S=[]
 | [],_,_,_=>Or.inr rfl
 | a :: S,lo,hp,hs=>by
  left;have h1:=hs a (by simp);have hp':=List.pairwise_cons.1 hp;rcases rise_len k S (a+1) hp'.2 (fun s h=>⟨hp'.1 s h,(hs s (by simp[h])).2⟩) with h | h
  ·simp only[List.length_cons];omega
  ·subst h;simp;omega
theorem bndSub.len {k:Nat} {b:List (Int × Int)} (h:bndSub k b):b.length≤k:=by
 obtain⟨S,h1,h2,rfl⟩:=h;rcases rise_len k S 0 h1 (fun s hs=>⟨by omega,h2 s hs⟩) with h | h
 ·simpa using h
 ·subst h;simp
theorem clsOk.same {L L':List ClassA} {j:Nat} {x x':ClassA} (h:clsOk L j x) (h1:x'.nm=x.nm) (h2:x'.super=x.super) (h3:x'.fields=x.fields) (hL:∀ (i:Nat) d,L[i]?=some d→∃ d',L'[i]?=some d'∧d'.fields=d.fields):clsOk L' j x':=by
 refine⟨by rw[h1,h2,h3];exact h.z,by rw[h1,h2,h3];exact h.o,by rw[h1];exact h.nm,fun hj=>?_,by rw[h3];exact h.fld⟩;rw[h2,h3];rcases h.sup hj with e | ⟨e1,e2,d,e3,e4⟩
 ·exact Or.inl e
 ·obtain⟨d',e5,e6⟩:=hL _ d e3;exact Or.inr ⟨e1,e2,d',e5,by rw[e6];exact e4⟩
theorem cl4s_set:∀ (T:List (ClassA × Value)) (c:Nat) (x:ClassA × Value) (b:List (Int × Int)) (v:Value),T[c]?=some x→cl4s (T.set c (⟨x.1.nm,x.1.super,x.1.fields,b⟩,v))=(cl4s T).set (c*4+3) v
 | [],c,x,b,v,h=>by simp at h
 | s :: T,0,x,b,v,h=>by simp at h;subst h;simp[cl4s,cl4]
 | s :: T,c+1,x,b,v,h=>by
  have:=cl4s_set T c x b v (by simpa using h);rw[List.set_cons_succ,show (c+1)*4+3=4+(c*4+3) by omega];simp only[cl4s,this];rw[List.set_append_right _ _ (by simp[cl4])];simp[cl4]
theorem infoBind:(Tryz.prog.info? 66).map (fun i=>(i.zero,i.size,i.bytes))=some (some (.agg #[.int .i64 0,.int .i64 0]),2,16):=by kernel_rfl
structure P3 (w wB wr:World) (p n:Nat) (ad:Option Addr) (B:Nat) (nv:Value) (g cp m:Nat) (T:List (ClassA × Value)) (H:Nat) (mv:Value) (M:List (MethA × Value × Value)) (H3 c k:Nat):Prop where
 un:Un w wB wr p n ad B nv (.slice (some ⟨g,0,none⟩) m cp) mv (.slice none 0 0)
 row:wr.ownsRow (B+1) 60 4 (.slice (some ⟨g,0,none⟩) m cp) m (cl4s T)
 gH:g < H
 len:m=T.length
 HB:B < H
 HH:H≤H3
 Hsz:H3≤wr.heap.size
 mr:MRow H wr (m:Int) mv 9 M
 mlt:∀ b,mv.ownBlock=some b→b < H3
 slt:∀ x∈M,∀ b,(x.2.1.ownBlock=some b∨x.2.2.ownBlock=some b)→b < H3
 bnd:∀ (j:Nat) x,T[j]?=some x→wr.ownsRow H3 66 2 x.2 x.1.binds.length (pr2 x.1.binds)
 bsep:∀ (i j:Nat) x y,T[i]?=some x→T[j]?=some y→i≠j→∀ b,x.2.ownBlock=some b→y.2.ownBlock≠some b
 ok:∀ (j:Nat) x,T[j]?=some x→clsOk (T.map (·.1)) j x.1
 don:∀ (j:Nat) x,T[j]?=some x→(j=0→x.1.binds=[])∧(1≤j→j < c→bndSub 6 x.1.binds)∧(j=c→bndSub k x.1.binds)∧(c < j→x.1.binds=[])
section
variable {w wB w1 w2:World} {p n B g cp m H H3 c k:Nat} {ad:Option Addr} {nv mv:Value} {T:List (ClassA × Value)} {M:List (MethA × Value × Value)}
theorem MRow.far {c:Int} {F:Nat→Prop} (h:MRow H w1 c mv k M) (cg:Cg F w1 w2) (hF:∀ b,F b→b < H∨H3≤b) (mlt:∀ b,mv.ownBlock=some b→b < H3) (slt:∀ x∈M,∀ b,(x.2.1.ownBlock=some b∨x.2.2.ownBlock=some b)→b < H3):MRow H w2 c mv k M :=
 ⟨row_cg h.row cg (fun b hb hf=>by have:=(h.row.lt b hb).1;have:=hF b hf;have:=mlt b hb;omega),h.len,fun x hx=>(h.sub x hx).carry cg (fun b hb hf=>⟨fun e=>by have:=hF b hf;have:=slt x hx b (Or.inl e);omega,fun e=>by have:=hF b hf;have:=slt x hx b (Or.inr e);omega⟩),h.sep,h.ok⟩
theorem P3.start (h:P2 w wB w1 p n ad B nv (.slice (some ⟨g,0,none⟩) m cp) m T H mv 9 M):P3 w wB w1 p n ad B nv g cp m T H mv M w1.heap.size 1 0:=by
 refine⟨h.un,h.row,h.rlt g rfl,h.len,h.HB,h.Hsz,Nat.le_refl _,h.mr,fun b hb=>(h.mr.row.lt b hb).2,fun x hx b hb=>?_,fun j x hx=>?_,fun i j x y hx hy hij b hb=>?_,fun j x hx=>(h.cls.ok j x hx).1,fun j x hx=>?_⟩
 ·rcases hb with e | e
  ·exact ((h.mr.sub x hx).l.lt b e).2
  ·exact ((h.mr.sub x hx).c.lt b e).2
 ·obtain⟨_,e1,e2⟩:=h.cls.ok j x hx;rw[e1,e2];exact World.ownsRow_nil _ _ _ _
 ·rw[(h.cls.ok i x hx).2.2] at hb;cases hb
 ·have e:=(h.cls.ok j x hx).2.1;rw[e];exact⟨fun _=>rfl,fun _ _=>bndSub.nil _,fun _=>bndSub.nil _,fun _=>rfl⟩
theorem P3.move (h:P3 w wB w1 p n ad B nv g cp m T H mv M H3 c k) {F:Nat→Prop} (un:Un w wB w2 p n ad B nv (.slice (some ⟨g,0,none⟩) m cp) mv (.slice none 0 0)) (cg:Cg F w1 w2) (hF:∀ b,F b→b≤B):P3 w wB w2 p n ad B nv g cp m T H mv M H3 c k :=
 ⟨un,row_cg h.row cg (fun b hb hf=>by have:=(h.row.lt b hb).1;have:=hF b hf;omega),h.gH,h.len,h.HB,h.HH,Nat.le_trans h.Hsz cg.size,h.mr.carry cg (fun b hb=>by have:=hF b hb;have:=h.HB;omega),h.mlt,h.slt,fun j x hx=>row_cg (h.bnd j x hx) cg (fun b hb hf=>by have:=((h.bnd j x hx).lt b hb).1;have:=hF b hf;have:=h.HB;have:=h.HH;omega),h.bsep,h.ok,h.don⟩
theorem P3.next (h:P3 w wB w1 p n ad B nv g cp m T H mv M H3 c k) (t:Tp w2 p ad n) (cg:Cg (fun k=>k=p) w1 w2):P3 w wB w2 p n ad B nv g cp m T H mv M H3 c k :=
 h.move (h.un.next t cg) cg (fun b hb=>by have:=h.un.pB;omega)
theorem P3.keep (h:P3 w wB w1 p n ad B nv g cp m T H mv M H3 c k) (b:Below w1.heap.size w1 w2):P3 w wB w2 p n ad B nv g cp m T H mv M H3 c k :=
 h.move (F:=fun _=>False) (h.un.keep b) (Cg.below _ b) (fun _ hf=>hf.elim)
theorem P3.skip (h:P3 w wB w1 p n ad B nv g cp m T H mv M H3 c k):P3 w wB w1 p n ad B nv g cp m T H mv M H3 c (k+1) :=
 ⟨h.un,h.row,h.gH,h.len,h.HB,h.HH,h.Hsz,h.mr,h.mlt,h.slt,h.bnd,h.bsep,h.ok,fun j x hx=>by
  obtain⟨a,b,d,e⟩:=h.don j x hx;exact⟨a,b,fun hj=>(d hj).mono (by omega),e⟩⟩
theorem P3.over (h:P3 w wB w1 p n ad B nv g cp m T H mv M H3 c 6) (hc:1≤c):P3 w wB w1 p n ad B nv g cp m T H mv M H3 (c+1) 0 :=
 ⟨h.un,h.row,h.gH,h.len,h.HB,h.HH,h.Hsz,h.mr,h.mlt,h.slt,h.bnd,h.bsep,h.ok,fun j x hx=>by
  obtain⟨a,b,d,e⟩:=h.don j x hx;refine⟨a,fun h1 h2=>?_,fun hj=>by rw[e (by omega)];exact bndSub.nil _,fun hj=>e (by omega)⟩;rcases (show j < c∨j=c by omega) with hj | hj
  ·exact b h1 hj
  ·exact d hj⟩
theorem P3.s24 (h:P3 w wB w1 p n ad B nv g cp m T H mv M H3 c k) {x:ClassA × Value} (hx:T[c]?=some x):w1.cell? ⟨B,1,none⟩=some (.slice (some ⟨g,0,none⟩) m cp)∧w1.cell? ⟨g,c*4+3,none⟩=some x.2∧w1.frozen? ⟨g,c*4+3,none⟩=false :=
 ⟨h.un.c1,(h.row.cellAt _ (by have:=(List.getElem?_eq_some_iff.1 hx).1;have:=h.len;omega)).trans (cl4s_get T c x hx).2.2.2,h.row.frozenAt _⟩
theorem P3.grown (h:P3 w wB w1 p n ad B nv g cp m T H mv M H3 c k) {x:ClassA × Value} (hx:T[c]?=some x) {wA:World} (hA:Below w1.heap.size w1 wA) (hg:wA.grownBy w2 x.2.ownBlock):Un w wB w2 p n ad B nv (.slice (some ⟨g,0,none⟩) m cp) mv (.slice none 0 0)∧w2.ownsRow (B+1) 60 4 (.slice (some ⟨g,0,none⟩) m cp) m (cl4s T)∧Cg (fun b=>x.2.ownBlock=some b) w1 w2:=by
 have hc1:Cg (fun b=>x.2.ownBlock=some b) w1 w2:=(Cg.below _ hA).grown hg (fun b e=>Or.inl e);have hb:=fun b e=>((h.bnd c x hx).lt b e).1;refine⟨h.un.far hc1 (fun b e=>by have:=hb b e;have:=h.HB;have:=h.HH;omega),row_cg h.row hc1 (fun b e hf=>?_),hc1⟩;have e1:g=b:=by simpa [Value.ownBlock] using e
 have:=hb b hf;have:=h.gH;have:=h.HH;omega
theorem P3.add (h:P3 w wB w1 p n ad B nv g cp m T H mv M H3 c k) (hc:1≤c) {x:ClassA × Value} (hx:T[c]?=some x) {wA:World} {bv':Value} (hA:Below w1.heap.size w1 wA) (ho:w2.ownsRow H3 66 2 bv' (x.1.binds.length+1) (pr2 x.1.binds++pr2 [((k:Int),(k:Int))])) (hg:wA.grownBy w2 x.2.ownBlock) (hat:∀ b,bv'.ownBlock=some b→x.2.ownBlock=some b∨b=wA.heap.size):P3 w wB (w2.setCell ⟨g,c*4+3,none⟩ bv') p n ad B nv g cp m (T.set c (⟨x.1.nm,x.1.super,x.1.fields,x.1.binds++[((k:Int),(k:Int))]⟩,bv')) H mv M H3 c (k+1):=by
 obtain⟨hu,hr,hc1⟩:=h.grown hx hA hg;have hcT:c < T.length:=(List.getElem?_eq_some_iff.1 hx).1;have hgB:B < g:=by have:=(h.row.lt g rfl).1;omega
 have hset:Cg (fun b=>b=g) w2 (w2.setCell ⟨g,c*4+3,none⟩ bv'):=(Cg.refl (fun b=>b=g) w2).set ⟨g,c*4+3,none⟩ rfl bv';have hgt:∀ {j:Nat} {y:ClassA × Value},(T.set c (⟨x.1.nm,x.1.super,x.1.fields,x.1.binds++[((k:Int),(k:Int))]⟩,bv'))[j]?=some y→(j=c∧y=(⟨x.1.nm,x.1.super,x.1.fields,x.1.binds++[((k:Int),(k:Int))]⟩,bv'))∨(j≠c∧T[j]?=some y):=by
  intro j y hy;by_cases hj:c=j
  ·subst hj;rw[List.getElem?_set_self hcT] at hy;exact Or.inl ⟨rfl,(Option.some.inj hy).symm⟩
  ·rw[List.getElem?_set_ne hj] at hy;exact Or.inr ⟨fun e=>hj e.symm,hy⟩
 have hold:=fun b e=>((h.bnd c x hx).lt b e)
 refine⟨hu.far hset (fun b e=>by omega),?_,h.gH,by simp[h.len],h.HB,h.HH,?_,?_,h.mlt,h.slt,fun j y hy=>?_,fun i j y z hy hz hij b hb=>?_,fun j y hy=>?_,fun j y hy=>?_⟩
 ·rw[cl4s_set T c x _ bv' hx];exact (hr.stored _ _).1
 ·have:=h.Hsz;have:=hc1.size;have:=hset.size;omega
 ·exact (h.mr.far hc1 (fun b e=>Or.inr (hold b e).1) h.mlt h.slt).carry hset (fun b e=>by have:=h.gH;omega)
 ·rcases hgt hy with ⟨rfl,rfl⟩ | ⟨hj,hy⟩
  ·have e1:(x.1.binds++[((k:Int),(k:Int))]).length=x.1.binds.length+1:=by simp
   have:=row_cg ho hset (fun b e hf=>by have:=(ho.lt b e).1;have:=h.gH;have:=h.HH;omega);simp only[e1,pr2_app];exact this
  ·have e0:=h.bnd j y hy;exact row_cg (row_cg e0 hc1 (fun b e hf=>h.bsep c j x y hx hy (fun e=>hj e.symm) b hf e)) hset (fun b e hf=>by have:=(e0.lt b e).1;have:=h.gH;have:=h.HH;omega)
 ·have key:∀ {j:Nat} {y:ClassA × Value},T[j]?=some y→j≠c→∀ b,bv'.ownBlock=some b→y.2.ownBlock≠some b:=fun {j y} hy hj b hb e=>by
   rcases hat b hb with e1 | e1
   ·exact h.bsep c j x y hx hy (fun e=>hj e.symm) b e1 e
   ·have:=((h.bnd j y hy).lt b e).2;have:=hA.size;omega
  rcases hgt hy with ⟨rfl,rfl⟩ | ⟨hi,hy'⟩ <;> rcases hgt hz with ⟨rfl,rfl⟩ | ⟨hj,hz'⟩
  ·exact absurd rfl hij
  ·exact key hz' hj b hb
  ·exact fun e=>key hy' hi b e hb
  ·exact h.bsep i j y z hy' hz' hij b hb
 ·have hL:∀ (i:Nat) d,(T.map (·.1))[i]?=some d→∃ d',((T.set c (⟨x.1.nm,x.1.super,x.1.fields,x.1.binds++[((k:Int),(k:Int))]⟩,bv')).map (·.1))[i]?=some d'∧d'.fields=d.fields:=by
   intro i d hd;obtain⟨z,hz,rfl⟩:∃ z,T[i]?=some z∧z.1=d:=by simpa using hd
   by_cases hi:c=i
   ·subst hi;rw[hx] at hz;cases hz;exact⟨⟨x.1.nm,x.1.super,x.1.fields,x.1.binds++[((k:Int),(k:Int))]⟩,by rw[List.getElem?_map,List.getElem?_set_self hcT];rfl,rfl⟩
   ·exact⟨z.1,by rw[List.getElem?_map,List.getElem?_set_ne hi,hz];rfl,rfl⟩
  rcases hgt hy with ⟨rfl,rfl⟩ | ⟨hj,hy⟩
  ·exact (h.ok _ x hx).same rfl rfl rfl hL
  ·exact (h.ok j y hy).same rfl rfl rfl hL
 ·rcases hgt hy with ⟨rfl,rfl⟩ | ⟨hj,hy⟩
  ·exact⟨fun e=>by omega,fun _ e=>by omega,fun _=>((h.don _ x hx).2.2.1 rfl).add,fun e=>by omega⟩
  ·obtain⟨a,b,d,e⟩:=h.don j y hy;exact⟨a,b,fun e=>absurd e hj,e⟩
end
end Wd
end Go.Proofs.YtgfnelhbdhbklaaGreat
