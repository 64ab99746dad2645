/- Texts joined: LR, VB, SLaw, QBase, QCls, QBind, QR, DB, DP, DN, DO, VC. -/
import Derived.Test.YtgfnelhbdhbklaaGreatJT1
import Derived.Test.YtgfnelhbdhbklaaGreatJT2
import Derived.Test.YtgfnelhbdhbklaaGreatJT5
import Derived.Test.YtgfnelhbdhbklaaGreatJT10
import Derived.Lib.CountLaws
import Derived.Deep.DeepCutAuto
namespace Go.Proofs.YtgfnelhbdhbklaaGreat
open Go.RowKit
set_option linter.unusedVariables false
set_option maxRecDepth 20000
namespace Wd
theorem sg_ok {x:UInt8} (h:sgB x=true):okB x=false:=by
 have key:∀ n,n < 256→inR n sgnB=true→(letterR n || decide (48≤n∧n≤57) || decide (n=58))=false:=by decide
 exact key x.toNat x.toNat_lt h
theorem from_in:∀ (L:List UInt8) (i s c:Nat),0 < i→argsFrom L i s c=if L.all (fun x=>sgB x || okB x)=true then some (s+L.countP sgB,c+L.count 58) else none
 | [],i,s,c,h=>by simp[argsFrom]
 | x :: L,i,s,c,h=>by
  rw[argsFrom];by_cases hs:sgB x=true
  ·have h58:¬ x=58:=by rintro rfl;exact absurd hs (by decide)
   have hs':inR x.toNat ⟨#[43,45,42,47,60,62,61,126,38,124,37]⟩=true:=hs;rw[if_pos hs',from_in L (i+1) (s+1) c (by omega)];have e1:(x :: L).countP sgB=L.countP sgB+1:=List.countP_cons_of_pos hs;have e2:(x :: L).count 58=L.count 58:=List.count_cons_of_ne h58;rw[e1,e2,List.all_cons,hs,Bool.true_or,Bool.true_and,show s+1+L.countP sgB=s+(L.countP sgB+1) by omega]
  ·have hs':¬ inR x.toNat ⟨#[43,45,42,47,60,62,61,126,38,124,37]⟩=true:=hs;rw[if_neg hs'];rw[Bool.not_eq_true] at hs;by_cases h58:x.toNat=58
   ·have e:x=58:=UInt8.toNat_inj.1 h58;have ho:okB x=true:=by rw[e];decide
    rw[if_pos ⟨h58,h⟩,from_in L (i+1) s (c+1) (by omega)];have e1:(x :: L).countP sgB=L.countP sgB:=List.countP_cons_of_neg (by rw[hs];decide);have e2:(x :: L).count 58=L.count 58+1:=by rw[e];exact List.count_cons_self
    rw[e1,e2,List.all_cons,ho,Bool.or_true,Bool.true_and,show c+1+L.count 58=c+(L.count 58+1) by omega]
   ·have h58':¬ x=58:=fun e=>h58 (by rw[e];rfl);rw[if_neg (fun h=>h58 h.1)];by_cases hk:letterR x.toNat=true∨0 < i∧48≤x.toNat∧x.toNat≤57
    ·have ho:okB x=true:=by
      unfold okB ltB dgB;rcases hk with hk | hk
      ·rw[hk];rfl
      ·rw[decide_eq_true hk.2];simp
     rw[if_pos hk,from_in L (i+1) s c (by omega)];have e1:(x :: L).countP sgB=L.countP sgB:=List.countP_cons_of_neg (by rw[hs];decide);have e2:(x :: L).count 58=L.count 58:=List.count_cons_of_ne h58';rw[e1,e2,List.all_cons,ho,Bool.or_true,Bool.true_and]
    ·have ho:okB x=false:=by
      unfold okB ltB dgB;rw[decide_eq_false h58,Bool.or_false,Bool.or_eq_false_iff];exact⟨by rw[← Bool.not_eq_true];exact fun h=>hk (Or.inl h),decide_eq_false (fun h'=>hk (Or.inr ⟨h,h'⟩))⟩
     rw[if_neg hk];simp[ho,hs]
def rightB (b:ByteArray):Bool:=decide (1≤b.size∧b.size≤16) && (wordB b || signsB b)
def cntB (b:ByteArray):Nat:=b.data.toList.count 58
def argsL (b:ByteArray):Int:=if rightB b=true then (if headB sgB b=true then 1 else (cntB b:Int)) else -1
theorem all_sg:∀ {L:List UInt8},L.all sgB=true↔L.countP sgB=L.length:=by
 intro L;rw[List.all_eq_true,List.countP_eq_length]
theorem args_eq (b:ByteArray):argsR b=argsL b:=by
 rcases Classical.em (1≤b.size∧b.size≤16) with hz | hz
 case inr =>
  rw[args_short hz];unfold argsL rightB;rw[decide_eq_false hz];rfl
 have hs:b.data.toList.length=b.size:=Array.length_toList;unfold argsR argsL rightB wordB signsB cntB;rw[if_pos hz,decide_eq_true hz,Bool.true_and];obtain⟨x,R,hL⟩:∃ x R,b.data.toList=x :: R:=by
  cases hL:b.data.toList with
  | nil=>rw[hL] at hs;simp at hs;omega
  | cons x R=>exact⟨x,R,rfl⟩
 have h1:∀ p,headB p b=p x:=fun p=>by unfold headB;rw[hL]
 rw[h1,h1,hL,argsFrom];rw[hL] at hs;generalize b.size=n at *;clear hL h1;simp only[List.length_cons] at hs;by_cases hx:sgB x=true
 ·have hx':inR x.toNat ⟨#[43,45,42,47,60,62,61,126,38,124,37]⟩=true:=hx;have hok:=sg_ok hx;have hlt:ltB x=false:=by unfold okB at hok;simp at hok;exact hok.1.1
  rw[if_pos hx',from_in R 1 1 0 (by omega),hlt,if_pos hx];simp only[Bool.false_and,Bool.false_or,List.all_cons,hx,Bool.true_and];by_cases ha:R.all sgB=true
  ·have hc:=all_sg.1 ha;have hb:R.all (fun x=>sgB x || okB x)=true:=by
    rw[List.all_eq_true] at ha ⊢;intro y hy;rw[ha y hy];rfl
   rw[if_pos hb,ha,hc];simp only[Bool.true_and,decide_eq_true_eq];by_cases h2:n≤2
   ·rw[if_pos (by omega),if_pos h2]
   ·rw[if_neg (by omega),if_neg h2,if_pos (by omega)]
  ·have hc:¬ R.countP sgB=R.length:=fun h=>ha (all_sg.2 h);rw[Bool.not_eq_true] at ha;rw[ha,Bool.false_and,if_neg Bool.false_ne_true];by_cases hb:R.all (fun x=>sgB x || okB x)=true
   ·rw[if_pos hb];simp only;rw[if_neg (by omega),if_pos (by omega)]
   ·rw[if_neg hb]
 ·have hx':¬ inR x.toNat ⟨#[43,45,42,47,60,62,61,126,38,124,37]⟩=true:=hx;rw[if_neg hx',if_neg (by omega)];rw[if_neg hx];rw[Bool.not_eq_true] at hx;simp only[List.all_cons,hx,Bool.false_and,Bool.or_false];by_cases hl:ltB x=true
  ·have hl':letterR x.toNat=true∨0 < 0∧48≤x.toNat∧x.toNat≤57:=Or.inl hl;have ho:okB x=true:=by unfold okB;rw[hl];rfl
   have h58:¬ x=58:=by rintro rfl;exact absurd hl (by decide)
   rw[if_pos hl',from_in R 1 0 0 (by omega),hl,ho];simp only[Bool.true_and,Nat.zero_add,List.count_cons_of_ne h58];by_cases ha:R.all okB=true
   ·have hc:R.countP sgB=0:=by
     rw[List.countP_eq_zero];intro y hy hys;have:=sg_ok hys;rw[List.all_eq_true.1 ha y hy] at this;cases this
    have hb:R.all (fun x=>sgB x || okB x)=true:=by
     rw[List.all_eq_true] at ha ⊢;intro y hy;rw[ha y hy,Bool.or_true]
    rw[if_pos hb,if_pos ha,hc];simp only;rw[if_neg (by omega),if_neg (by omega)]
   ·rw[if_neg ha];by_cases hb:R.all (fun x=>sgB x || okB x)=true
    ·rw[if_pos hb];have hc:R.countP sgB≠0:=by
      intro h0;apply ha;rw[List.all_eq_true] at hb ⊢;intro y hy;have:=hb y hy;rw[List.countP_eq_zero] at h0;have h0:=h0 y hy;simp only[Bool.or_eq_true] at this;exact this.resolve_left h0
     have hle:R.countP sgB≤R.length:=List.countP_le_length;simp only;rw[if_neg (by omega),if_pos (by omega)]
    ·rw[if_neg hb]
  ·have hl':¬ (letterR x.toNat=true∨0 < 0∧48≤x.toNat∧x.toNat≤57):=fun h=>by
    rcases h with h | h
    ·exact hl h
    ·omega
   rw[Bool.not_eq_true] at hl;rw[if_neg hl',hl];simp
theorem right_eq (b:ByteArray):rightB b=decide (0≤argsR b):=by
 rw[args_eq];unfold argsL;by_cases h:rightB b=true
 ·rw[if_pos h,h]
  split
  ·rfl
  ·symm;rw[decide_eq_true_eq];omega
 ·rw[if_neg h];rw[Bool.not_eq_true] at h;rw[h];rfl
theorem right_c (b:ByteArray) (w:World):Calls Tryz.prog 88 #[.string b] w fun e w'=>e=.returned (.bool (decide (0≤argsR b)))∧w'=w:=by
 rw[← right_eq];unfold rightB;by_cases h1:1≤b.size
 ·have h1':(1:Int)≤(b.size:Int):=by omega
  by_cases h2:b.size≤16
  ·have h2':(b.size:Int)≤16:=by omega
   have PW:=HD (word_c b h1 h2);have PS:=HD (signs_c b h2);rw[decide_eq_true ⟨h1,h2⟩,Bool.true_and];generalize signsB b=y at *;cases hx:wordB b with
   | true =>
    rw[hx] at PW;clear hx;go_enter Tryz.func88,Tryz.ntmps88
    go_wp2_with (first | (go_at_call 103;((with_reducible refine (PW.out _).mono ?_);rintro e1 w2 ⟨rfl,hw2⟩;subst w2)) | (go_at_call 104;((with_reducible refine (PS.out _).mono ?_);rintro e1 w2 ⟨rfl,hw2⟩;subst w2)))
    go_ret;exact⟨rfl,rfl⟩
   | false =>
    rw[hx] at PW;clear hx;go_enter Tryz.func88,Tryz.ntmps88
    go_wp2_with (first | (go_at_call 103;((with_reducible refine (PW.out _).mono ?_);rintro e1 w2 ⟨rfl,hw2⟩;subst w2)) | (go_at_call 104;((with_reducible refine (PS.out _).mono ?_);rintro e1 w2 ⟨rfl,hw2⟩;subst w2)))
    go_ret;exact⟨rfl,rfl⟩
  ·have h2':¬ (b.size:Int)≤16:=by omega
   rw[decide_eq_false (fun h=>h2 h.2),Bool.false_and];go_enter Tryz.func88,Tryz.ntmps88
   go_wp2
   go_ret;exact⟨rfl,rfl⟩
 ·have h1':¬ (1:Int)≤(b.size:Int):=by omega
  rw[decide_eq_false (fun h=>h1 h.1),Bool.false_and];go_enter Tryz.func88,Tryz.ntmps88
  go_wp2
  go_ret;exact⟨rfl,rfl⟩
theorem cnt_c (b:ByteArray) (w:World):Calls Tryz.prog 127 #[.string b,.string ⟨#[58]⟩] w fun e w'=>e=.returned (.int .i64 (cntB b:Nat))∧w'=w:=by
 go_enter Tryz.func127,Tryz.ntmps127
 go_wp2
 rw[run_callFunc_extern Tryz.func136 (by kernel_rfl) (by kernel_rfl) (by kernel_rfl) (e:=Extern.BytealgCount.count) (by kernel_rfl),Lib.run_countString];simp only[Result.andThen];rw[Oper.upon_value]
 go_wp2
 go_ret;exact⟨rfl,rfl⟩
theorem kargs_c (b:ByteArray) (w:World):Calls Tryz.prog 116 #[.string b] w fun e w'=>e=.returned (.int .i64 (argsR b))∧w'=w:=by
 have PR:=HD (right_c b);have PC:=HD (cnt_c b);rw[← right_eq] at PR;rw[args_eq];cases hr:rightB b with
 | false =>
  have e:argsL b=-1:=by unfold argsL;rw[hr];rfl
  rw[hr] at PR;rw[e];clear e hr;go_enter Tryz.func116,Tryz.ntmps116
  go_wp2_with (first | (go_at_call 88;((with_reducible refine (PR.out _).mono ?_);rintro e1 w2 ⟨rfl,hw2⟩;subst w2)))
  go_ret;exact⟨rfl,rfl⟩
 | true =>
  have h0:0 < b.size:=by
   unfold rightB at hr;rw[Bool.and_eq_true,decide_eq_true_eq] at hr;exact hr.1.1
  have PS:=HD (sign_c b[0]);rw[hr] at PR;cases hx:sgB b[0] with
  | true =>
   have e:argsL b=1:=by unfold argsL;rw[hr,headB_eq _ h0,hx];rfl
   rw[hx] at PS;rw[e];clear e hr hx;go_enter Tryz.func116,Tryz.ntmps116
   go_wp2_with (first | (go_at_call 88;((with_reducible refine (PR.out _).mono ?_);rintro e1 w2 ⟨rfl,hw2⟩;subst w2)) | (go_at_call 120;((with_reducible refine (PS.out _).mono ?_);rintro e1 w2 ⟨rfl,hw2⟩;subst w2)))
   go_ret;exact⟨rfl,rfl⟩
  | false =>
   have e:argsL b=(cntB b:Nat):=by unfold argsL;rw[hr,headB_eq _ h0,hx];rfl
   rw[hx] at PS;rw[e];clear e hr hx;generalize cntB b=c at *;go_enter Tryz.func116,Tryz.ntmps116
   go_wp2_with (first | (go_at_call 88;((with_reducible refine (PR.out _).mono ?_);rintro e1 w2 ⟨rfl,hw2⟩;subst w2)) | (go_at_call 120;((with_reducible refine (PS.out _).mono ?_);rintro e1 w2 ⟨rfl,hw2⟩;subst w2)) | (go_at_call 127;((with_reducible refine (PC.out _).mono ?_);rintro e1 w2 ⟨rfl,hw2⟩;subst w2)))
   go_ret;exact⟨rfl,rfl⟩
end Wd
end Go.Proofs.YtgfnelhbdhbklaaGreat
namespace Go.Proofs.YtgfnelhbdhbklaaGreat
open Go.RowKit
set_option linter.unusedVariables false
set_option maxRecDepth 20000
namespace Wd
set_option maxHeartbeats 8000000 in
theorem uclass_c {w:World} {v cv:Value} {o:ObjA} {C:List ClassA} (h:ObK w v o) (hC:ClV w cv C) (h62:∀ c∈C,c.fields≤62) :
  Calls Tryz.prog 94 #[v,cv] w fun e w'=>e=.returned (.bool (objHead o C))∧Below w.heap.size w w':=by
 obtain⟨fa,fc,rfl,hf⟩:=h.ex;obtain⟨ca,cc,rfl,hc1,hc2⟩:=hC.form;have hle:=len_le (Nat.le_trans hc1 hc2);obtain⟨c0,c1⟩:=h.c64;have hB:=HD ((Below.refl w.heap.size w).alloc (Nat.le_refl _) (.cells #[.int .i64 o.cls,.slice fa o.flds.length fc] 55));have PI:=HD (uisOne_c o.cls (C.length:Int));by_cases h0:o.cls < 1∨(C.length:Int)≤o.cls
 ·have e:Hid (objHead o C=false):=HD (by rcases h0 with h0 | h0;exact head_low h0;exact head_high h0);generalize objHead o C=r at *;by_cases hz:o.cls=0∧0 < C.length
  ·obtain⟨hz1,hz2⟩:=hz;rw[hz1,show decide ((0:Int)≤0)=true from rfl,decide_eq_true (show (0:Int) < (C.length:Int) by omega)] at PI;rw[hz1] at hB ⊢;clear h0 hz1 hz2 h hf hC h62 c0 c1;go_enter Tryz.func94,Tryz.ntmps94
   go_wp2_with (first | (go_at_call 63;((with_reducible refine (PI.out _).mono ?_);rintro e1 w2 ⟨rfl,hw2⟩;subst w2)))
   go_ret;exact⟨congrArg (fun b=>Ending.returned (Value.bool b)) e.out.symm,hB.out⟩
  ·have hx:(decide (0≤o.cls) && decide (o.cls < (C.length:Int)))=false:=by
    rw[Bool.and_eq_false_iff,decide_eq_false_iff_not,decide_eq_false_iff_not];omega
   rw[hx] at PI;clear h0 hz h hf hC h62 c0 c1 hx;go_enter Tryz.func94,Tryz.ntmps94
   go_wp2_with (first | (go_at_call 63;((with_reducible refine (PI.out _).mono ?_);rintro e1 w2 ⟨rfl,hw2⟩;subst w2)))
   go_ret;exact⟨congrArg (fun b=>Ending.returned (Value.bool b)) e.out.symm,hB.out⟩
 have g0:1≤o.cls:=by omega
 have g1:o.cls < (C.length:Int):=by omega
 rw[decide_eq_true (show (0:Int)≤o.cls by omega),decide_eq_true g1] at PI;have n0:(o.cls == 0)=false:=by simp;omega
 by_cases h1:o.cls=1
 ·have n1:(o.cls == 1)=true:=by simpa using h1
  have e:Hid (objHead o C=decide (o.flds.length≤62)):=HD (by unfold objHead;rw[if_neg h0,if_neg (by omega)]);have e2:Hid (objHead o C=decide ((o.flds.length:Int)≤62)):=HD (by rw[e.out];exact decide_eq_decide.2 (by omega));generalize objHead o C=r at *;clear h0 h1 h hf hC h62 c0 c1 e g0 g1;go_enter Tryz.func94,Tryz.ntmps94
  go_wp2_with (first | (go_at_call 63;((with_reducible refine (PI.out _).mono ?_);rintro e1 w2 ⟨rfl,hw2⟩;subst w2)))
  go_ret;exact⟨congrArg (fun b=>Ending.returned (Value.bool b)) e2.out.symm,hB.out⟩
 ·have n1:(o.cls == 1)=false:=by simpa using h1
  obtain⟨q,hq⟩:∃ q:Nat,o.cls=(q:Int):=⟨o.cls.toNat,by omega⟩
  obtain⟨x,hx⟩:∃ x,C[q]?=some x:=⟨C[q]'(by omega),by simp⟩
  have hx62:=h62 x (List.mem_of_getElem? hx);have e:Hid (objHead o C=((o.flds.length:Int) == x.fields)):=HD (by
   unfold objHead;rw[if_neg h0,hq,clsF_at hx];by_cases he:(o.flds.length:Int)=x.fields
   ·rw[if_neg (fun h=>h.2 he),he,beq_self_eq_true,decide_eq_true_eq];omega
   ·rw[if_pos ⟨by omega,he⟩];symm;simpa using he)
  obtain⟨_,_,g,off,bv,rfl,_,_,d2,_,_⟩:=hC.at hx;have d2':=cell_up ((Below.refl w.heap.size w).alloc (Nat.le_refl _) (.cells #[.int .i64 o.cls,.slice fa o.flds.length fc] 55)) d2;have q0:(0:Int)≤(q:Int):=by omega
  have q1:(q:Int) < (C.length:Int):=by omega
  rw[hq] at PI n0 n1 hB d2' ⊢;generalize objHead o C=r at *;clear h0 h1 h hf hC h62 c0 c1 g0 g1 d2 hx;go_enter Tryz.func94,Tryz.ntmps94
  go_wp2_with (first | (go_at_call 63;((with_reducible refine (PI.out _).mono ?_);rintro e1 w2 ⟨rfl,hw2⟩;subst w2)))
  go_region
  go_wp2
  go_ret;exact⟨congrArg (fun b=>Ending.returned (Value.bool b)) e.out.symm,hB.out.drew⟩
theorem NmV.takeV {w:World} {ad:Option Addr} {n cap:Nat} {L:List ByteArray} (h:NmV w (.slice ad n cap) L) (k:Nat) (hk:k≤L.length):NmV w (.slice ad k cap) (L.take k):=by
 obtain⟨ad',cap',e,h1,h2,h3⟩:=h.ex;cases e;have hl:(L.take k).length=k:=by rw[List.length_take];omega
 refine⟨ad,cap,by rw[hl],by omega,h2,fun j x hx=>h3 j x ?_⟩;rw[List.getElem?_take] at hx
 split at hx
 ·exact hx
 ·cases hx
set_option maxHeartbeats 8000000 in
theorem uindex_c {w:World} {v:Value} {L:List ByteArray} (h:NmV w v L) (x:ByteArray) :
  Calls Tryz.prog 105 #[v,.string x] w fun e w'=>(∃ i:Int,e=.returned (.int .i64 i)∧(0≤i↔x∈L))∧w'=w:=by
 obtain⟨ad,cap,rfl,hcap,hmx,_⟩:=h.ex;obtain⟨n,hnn⟩:∃ n,n=L.length:=⟨_,rfl⟩
 rw[← hnn] at h hcap ⊢;replace h:=HD h;have hn':=HD hnn;have hle:(n:Int)≤9223372036854775807:=by have:=Nat.le_trans hcap hmx;unfold maxLen at this;omega
 have hst:Hid (∀ y∈L.take 0,y≠x):=HD (by simp);clear hnn;go_enter Tryz.func105,Tryz.ntmps105
 go_wp2
 go_loopw [8] (fun i wr=>∃ (k:Nat),k≤n∧i=.int .i64 k∧Hid (∀ y∈L.take k,y≠x)∧wr=w) (fun i _=>n - (intOf i).toNat)
 case atStart=>exact⟨0,by omega,rfl,hst,rfl⟩
 case round =>
  clear hst;obtain⟨k,hk,rfl,hD,rfl⟩:=hrel;by_cases hlt:k < n
  ·have hlt':decide ((k:Int) < (n:Int))=true:=by simp;omega
   have p0:(0:Int)≤(k:Int):=by omega
   have p1:(k:Int) < (n:Int):=by omega
   obtain⟨y,hy⟩:∃ y,L[k]?=some y:=⟨L[k]'(by have:=hn'.out;omega),by simp⟩
   obtain⟨g,off,rfl,d0⟩:=NmV.at h.out hy;have hy':=HD hy;clear hy;by_cases he:x=y
   ·have e:Hid (0≤(k:Int)↔x∈L):=HD ⟨fun _=>by rw[he];exact List.mem_of_getElem? hy'.out,fun _=>by omega⟩;have he':(x.toList == y.toList)=true:=bl_eq he;clear he
    go_wp2
    go_ret;exact⟨⟨_,rfl,e.out⟩,rfl⟩
   ·have he':(x.toList == y.toList)=false:=bl_ne he;have hD':Hid (∀ z∈L.take (k+1),z≠x):=HD (fun z hz=>by
     rw[take_next hy'.out] at hz;rcases List.mem_append.1 hz with hz | hz
     ·exact hD.out z hz
     ·rw[List.mem_singleton.1 hz];exact fun e=>he e.symm)
    clear he
    go_wp2
    go_roundw
    case rel=>exact⟨k+1,by omega,by go_num,hD',trivial⟩
    case measure=>simp[intOf];omega
  ·have e:Hid (0≤(-1:Int)↔x∈L):=HD (by
    have hd:=hD.out;rw[show k=L.length by have:=hn'.out;omega,List.take_length] at hd;exact⟨fun h=>absurd h (by decide),fun h=>absurd rfl (hd x h)⟩)
   have hlt':decide ((k:Int) < (n:Int))=false:=by simp;omega
   go_wp2
   go_ret;exact⟨⟨_,rfl,e.out⟩,rfl⟩
theorem ucontains_c {w:World} {v:Value} {L:List ByteArray} (h:NmV w v L) (x:ByteArray) (b:Bool) (hb:b=true↔x∈L) :
  Calls Tryz.prog 89 #[v,.string x] w fun e w'=>e=.returned (.bool b)∧w'=w:=by
 have PI:=HD (uindex_c h x);replace hb:=HD hb;clear h;go_enter Tryz.func89,Tryz.ntmps89
 go_wp2_with (first | (go_at_call 105;((with_reducible refine PI.out.mono ?_);rintro e1 w2 ⟨⟨i,rfl,hi⟩,hw2⟩;subst w2;replace hi:=HD hi)))
 go_ret;exact⟨congrArg (fun b=>Ending.returned (Value.bool b)) (show decide (i ≥ 0)=b by cases b with | true=>exact decide_eq_true (hi.out.2 (hb.out.1 rfl)) | false=>exact decide_eq_false (fun h=>absurd (hb.out.2 (hi.out.1 h)) (by decide))),rfl⟩
set_option maxHeartbeats 8000000 in
theorem unames_c {w:World} {v:Value} {L:List ByteArray} (h:NmV w v L) :
  Calls Tryz.prog 59 #[v] w fun e w'=>e=.returned (.bool (namesB L))∧w'=w:=by
 obtain⟨ad,cap,rfl,hcap,hmx,_⟩:=h.ex;obtain⟨n,hnn⟩:∃ n,n=L.length:=⟨_,rfl⟩
 rw[← hnn] at h hcap ⊢;replace h:=HD h;have hn':=HD hnn;have hst:=HD (NsR.start L);have hle:(n:Int)≤9223372036854775807:=by have:=Nat.le_trans hcap hmx;unfold maxLen at this;omega
 clear hnn;go_enter Tryz.func59,Tryz.ntmps59
 go_wp2
 go_loopw [7] (fun i7 wr=>∃ (k:Nat),k≤n∧i7=.int .i64 k∧Hid (NsR L k)∧wr=w) (fun i7 _=>n - (intOf i7).toNat)
 case atStart=>exact⟨0,by omega,rfl,hst,rfl⟩
 case round =>
  clear hst;obtain⟨k,hk,rfl,hR,rfl⟩:=hrel;by_cases hlt:k < n
  ·have hlt':decide ((k:Int) < (n:Int))=true:=by simp;omega
   have p0:(0:Int)≤(k:Int):=by omega
   have p1:(k:Int) < (n:Int):=by omega
   have p2:(k:Int)≤(cap:Int):=by omega
   obtain⟨x,hx⟩:∃ x,L[k]?=some x:=⟨L[k]'(by have:=hn'.out;omega),by simp⟩
   obtain⟨g,off,rfl,c0⟩:=NmV.at h.out hx;have hx':=HD hx;have PR:=HD (right_c x);have PC:=HD (ucontains_c (h.out.takeV k (by have:=hn'.out;omega)) x);clear hx;by_cases ha:argsR x < 0
   ·have e:=HD (names_bad hx'.out ha);rw[decide_eq_false (show ¬ 0≤argsR x by omega)] at PR;clear ha
    go_wp2_with (first | (go_at_call 88;((with_reducible refine (PR.out _).mono ?_);rintro e1 w2 ⟨rfl,hw2⟩;subst w2)))
    go_ret;exact⟨congrArg (fun b=>Ending.returned (Value.bool b)) e.out.symm,rfl⟩
   ·rw[decide_eq_true (show 0≤argsR x by omega)] at PR;have haH:Hid (0≤argsR x):=HD (by omega);clear ha;by_cases hm:x∈L.take k
    ·have e:Hid (namesB L=false):=HD (by
      obtain⟨j,hj,ej⟩:=List.mem_iff_getElem.1 hm;rw[List.length_take] at hj;have hj2:j < k∧j < L.length:=by omega
      have hy:L[j]?=some (L[j]'hj2.2):=by simp
      refine names_twice hx'.out hj2.1 hy ?_;rw[List.getElem_take] at ej;exact ej)
     replace PC:=HD (PC.out true ⟨fun _=>hm,fun _=>rfl⟩);clear hm
     go_wp2_with (first | (go_at_call 88;((with_reducible refine (PR.out _).mono ?_);rintro e1 w2 ⟨rfl,hw2⟩;subst w2)) | (go_at_call 89;((with_reducible refine PC.out.mono ?_);rintro e1 w2 ⟨rfl,hw2⟩;subst w2)))
     go_ret;exact⟨congrArg (fun b=>Ending.returned (Value.bool b)) e.out.symm,rfl⟩
    ·have hR':=HD (hR.out.step hx'.out haH.out (fun y hy e=>hm (by rw[← e];exact hy)));replace PC:=HD (PC.out false ⟨fun h=>absurd h (by decide),fun h=>absurd h hm⟩);clear hm
     go_wp2_with (first | (go_at_call 88;((with_reducible refine (PR.out _).mono ?_);rintro e1 w2 ⟨rfl,hw2⟩;subst w2)) | (go_at_call 89;((with_reducible refine PC.out.mono ?_);rintro e1 w2 ⟨rfl,hw2⟩;subst w2)))
     go_roundw
     case rel=>exact⟨k+1,by omega,by go_num,hR',trivial⟩
     case measure=>simp[intOf];omega
  ·have e:Hid (namesB L=true):=HD (NsR.last (by have:=hR.out;rw[show k=L.length by have:=hn'.out;omega] at this;exact this));have hlt':decide ((k:Int) < (n:Int))=false:=by simp;omega
   go_wp2
   go_ret;exact⟨congrArg (fun b=>Ending.returned (Value.bool b)) e.out.symm,rfl⟩
end Wd
end Go.Proofs.YtgfnelhbdhbklaaGreat
namespace Go.Proofs.YtgfnelhbdhbklaaGreat
open Go.RowKit
set_option linter.unusedVariables false
set_option maxRecDepth 20000
namespace Wd
theorem SL.up {w w':World} {e:TypeId} {v:Value} {L:List Int} (h:SL w e v L) (b:Below w.heap.size w w'):SL w' e v L:=SL.keep h b
theorem SL.at {w:World} {e:TypeId} {a:Option Addr} {n c:Nat} {L:List Int} (h:SL w e (.slice a n c) L) {k:Nat} {x:Int} (hx:L[k]?=some x):∃ g,a=some ⟨g,0,none⟩∧w.cell? ⟨g,k,none⟩=some (.int .i64 x):=by
 have hk:=(List.getElem?_eq_some_iff.1 hx).1;rcases h.cases with ⟨e1,e2⟩ | ⟨g,cap,e1,_,_,_,ho⟩
 ·subst e2;simp at hx
 ·cases e1;exact⟨g,rfl,row_cell ho hx⟩
theorem isc_y (ad:Option Addr) (n cap:Nat) (i:Int) (h0:0≤i) (h1:i < n) (w:World) :
  Calls Tryz.prog 121 #[.slice ad n cap,.int .i64 i] w fun e w'=>e=.returned (.bool true)∧w'=w:=by
 have h0':decide (i ≥ 0)=true:=by simpa using h0
 have h1':decide (i < (n:Int))=true:=by simpa using h1
 go_enter Tryz.func121,Tryz.ntmps121
 go_wp2
 go_ret;exact⟨rfl,rfl⟩
theorem isc_n (ad:Option Addr) (n cap:Nat) (i:Int) (h:i < 0∨(n:Int)≤i) (w:World) :
  Calls Tryz.prog 121 #[.slice ad n cap,.int .i64 i] w fun e w'=>e=.returned (.bool false)∧w'=w:=by
 by_cases h0:0≤i
 ·have h0':decide (i ≥ 0)=true:=by simpa using h0
  have h1':decide (i < (n:Int))=false:=by simp;omega
  go_enter Tryz.func121,Tryz.ntmps121
  go_wp2
  go_ret;exact⟨rfl,rfl⟩
 ·have h0':decide (i ≥ 0)=false:=by simp;omega
  go_enter Tryz.func121,Tryz.ntmps121
  go_wp2
  go_ret;exact⟨rfl,rfl⟩
set_option maxHeartbeats 16000000 in
theorem kchain {w:World} {v:Value} {L:List ClassA} (h:ClV w v L) (i:Int) (hi:In64 i) :
  Calls Tryz.prog 129 #[v,.int .i64 i] w fun e w'=>∃ v',e=.returned v'∧SL w' 3 v' (chain L i)∧Below w.heap.size w w':=by
 obtain⟨i0,hi0,hz0,hz1,hz2⟩:=info_parts info3;have hmx:100000≤maxLen:=by decide
 obtain⟨ad,cap,rfl,hcap,hm⟩:=h.form;obtain⟨n,hn⟩:∃ n,n=L.length:=⟨_,rfl⟩
 rw[← hn] at h hcap ⊢;replace h:=HD h;have hn':=HD hn;have hnm:n≤maxLen:=by omega
 have hst:Hid (ChR w w L i i (.slice none 0 0) 0 []):=HD ⟨World.ownsRow_nil _ _ _ _,by simp,by simp,by simp[chain],Below.refl _ _,hi⟩;clear hcap hm hi hn;go_enter Tryz.func129,Tryz.ntmps129
 go_wp2
 go_loopw [1,5] (fun i1 v5 wr=>∃ (j:Int) (C:List Int) (a:Option Addr) (m c:Nat),i1=.int .i64 j∧v5=.slice a m c∧Hid (ChR w wr L i j (.slice a m c) m C)) (fun i1 v5 _=>match v5 with | .slice _ m _=>8 - m | _=>0)
 case atStart=>exact⟨i,[],none,0,0,rfl,rfl,hst⟩
 case round =>
  obtain⟨j,C,a,m,c,rfl,rfl,hR⟩:=hrel;have hle:m≤8:=hR.out.le;obtain⟨b0,b1⟩:=hR.out.ij;by_cases h0:0≤j∧j < n
  ·obtain⟨h0,h1⟩:=h0;have PI:=HD (isc_y ad n cap j h0 h1);by_cases h2:m < 8
   ·obtain⟨k,rfl⟩:∃ k:Nat,j=k:=⟨j.toNat,by omega⟩
    obtain⟨x,hx⟩:∃ x,L[k]?=some x:=⟨L[k]'(by have:=hn'.out;omega),by simp⟩
    obtain⟨s0,s1,g,off,bv,rfl,c0,c1,c2,c3,_⟩:=h.out.at hx;have hx':=HD hx;have h2':decide (((m:Nat):Int) < 8)=true:=by simp;omega
    have hown:=HD hR.out.own;have hsz:Hid (w.heap.size≤wr.heap.size):=HD hR.out.bel.size;have hk1:=HD c1;have hs0:=HD s0;clear c0 c1 c2 c3 s1 hx s0
    go_wp2_with (first | (go_at_call 121;((with_reducible refine (PI.out _).mono ?_);rintro e1 w2 ⟨rfl,hw2⟩;subst w2)) | (at_builtin;refine wpList_append_lies _ rfl (.tmp 14) (.tmp 16) 29 rfl w.heap.size 3 i0 (.int .i64 0) 1 8 Tryz.underlying29 hi0 hz0 hz1 hz2 rfl (by decide) _ m _ (by simp[Act.eval]) (hown.out.alloc _) ⟨wr.heap.size,0,none⟩ 1 1 (ints [(k:Int)]) (by simp[Act.eval]) (by simp) (one_at ((World.cell?_alloc_new _ _ _ 0).trans rfl)) (ints_one _) (by omega) (by omega) (by omega) (by have:=hsz.out;simp;omega) _ rfl ?_;intro g1 cap1 w1 hown1 hgrow1 hat1 hlt1;have hR1:=HD (hR.out.more hx'.out h2 rfl hown1 hgrow1 hs0.out);have hc1:=cell_up hR1.out.bel hk1.out;clear hgrow1 hat1 hlt1 hown1))
    go_roundw
    case rel=>exact⟨_,_,_,_,_,rfl,rfl,hR1⟩
    case measure=>simp;omega
   ·have h2':decide (((m:Nat):Int) < 8)=false:=by simp;omega
    have he:chainR L j (8 - m)=[]:=by rw[show 8 - m=0 by omega];rfl
    have hf:=HD (hR.out.last he);clear he
    go_wp2_with (first | (go_at_call 121;((with_reducible refine (PI.out _).mono ?_);rintro e1 w2 ⟨rfl,hw2⟩;subst w2)))
    go_ret;exact⟨_,rfl,hf.out,hR.out.bel⟩
  ·have PI:=HD (isc_n ad n cap j (by omega));have he:chainR L j (8 - m)=[]:=by
    rcases (show j < 0∨(L.length:Int)≤j by have:=hn'.out;omega) with h | h
    ·exact chainR_neg _ h
    ·exact chainR_over _ h
   have hf:=HD (hR.out.last he);clear he
   go_wp2_with (first | (go_at_call 121;((with_reducible refine (PI.out _).mono ?_);rintro e1 w2 ⟨rfl,hw2⟩;subst w2)))
   go_ret;exact⟨_,rfl,hf.out,hR.out.bel⟩
theorem kdepth {w:World} {v:Value} {L:List ClassA} (h:ClV w v L) (i:Int) (hi:In64 i) :
  Calls Tryz.prog 122 #[v,.int .i64 i] w fun e w'=>e=.returned (.int .i64 ((chain L i).length:Nat))∧Below w.heap.size w w':=by
 have P:=kchain h i hi;generalize chain L i=C at *;go_enter Tryz.func122,Tryz.ntmps122
 go_wp2_with fail
 refine P.mono ?_;clear P;rintro e w1 ⟨v1,rfl,hS,hB⟩;obtain⟨a,c,rfl⟩:=hS.form;obtain⟨n,hn⟩:∃ n,n=C.length:=⟨_,rfl⟩
 have hn':=HD hn;rw[← hn];clear hS h hi hn
 go_wp2
 go_ret;exact⟨by rw[← hn'.out];rfl,hB⟩
def nameR (A:List ClassA) (nm:ByteArray):Bool:=textOk nm && !(A.any (fun x=>decide (x.nm=nm)))
def supR (A:List ClassA) (s f:Int):Bool:=decide (0≤f) && decide (f≤62) && (decide (s=-1) || (decide (0≤s) && decide (s < A.length) && decide ((chain A s).length < 8) && decide (superF A s≤f)))
theorem chain_deepQ {L:List ClassA} {k:Nat} (hD:Down L k) (hk:k≤L.length):∀ (f g:Nat) (s:Int),s < k→s < g→(chainR (L.take k) s f).length=min f (deep L g s)
 | 0,_,_,_,_=>by simp[chainR]
 | f+1,g,s,h1,h2=>by
  by_cases h0:s < 0
  ·rw[chainR_neg _ h0,deep_neg _ h0];simp
  ·obtain⟨j,rfl⟩:∃ j:Nat,s=j:=⟨s.toNat,by omega⟩
   obtain⟨g',rfl⟩:∃ g',g=g'+1:=⟨g - 1,by omega⟩
   have hx:L[j]?=some (L[j]'(by omega)):=by simp
   generalize L[j]'(by omega)=x at hx;have hy:(L.take k)[j]?=some x:=by rw[List.getElem?_take,if_pos (by omega)];exact hx
   obtain⟨d1,d2⟩:=hD j x (by omega) hx;rw[chainR_on hy,deep_on hx,List.length_cons,chain_deepQ hD hk f g' x.super (by omega) (by omega)];omega
theorem sup_eq {L:List ClassA} {k:Nat} {c:ClassA} (hD:Down L k) (hk:k≤L.length):classOk L k c=supR (L.take k) c.super c.fields:=by
 have hl:(L.take k).length=k:=by rw[List.length_take];omega
 unfold classOk supR;rw[hl];by_cases h1:c.super < -1
 ·rw[decide_eq_false (p:=-1≤c.super) (by omega),decide_eq_false (p:=c.super=-1) (by omega),decide_eq_false (p:=0≤c.super) (by omega)];simp
 by_cases h2:(k:Int)≤c.super
 ·rw[decide_eq_false (p:=c.super < k) (by omega),decide_eq_false (p:=c.super=-1) (by omega)];simp
 rw[decide_eq_true (p:=-1≤c.super) (by omega),decide_eq_true (p:=c.super < k) (by omega)];by_cases h3:c.super=-1
 ·rw[decide_eq_true h3,h3,deep_neg _ (by omega),decide_eq_true (p:=(-1:Int) < 0) (by omega)];simp
 ·have hd:=chain_deepQ hD hk 8 (k+1) c.super (by omega) (by omega);have e1:decide ((chain (L.take k) c.super).length < 8)=decide (deep L (k+1) c.super+1≤8):=by
   rw[decide_eq_decide];unfold chain;omega
  have e2:superF (L.take k) c.super=superF L c.super:=by
   unfold superF;rw[List.getElem?_take,if_pos (by omega)]
  rw[e1,e2,decide_eq_false h3,decide_eq_true (p:=0≤c.super) (by omega),decide_eq_false (p:=c.super < 0) (by omega)];simp[Bool.and_assoc]
theorem isroot_c (nm:ByteArray) (s f:Int) (bv:Value) (x:Int) (w:World) (b:Bool) (hb:b=(decide (s=-1) && decide (f=x))) :
  Calls Tryz.prog 106 #[.agg #[.string nm,.int .i64 s,.int .i64 f,bv],.int .i64 x] w fun e w'=>e=.returned (.bool b)∧Below w.heap.size w w':=by
 have hB:=HD ((Below.refl w.heap.size w).alloc (Nat.le_refl _) (.cells #[.string nm,.int .i64 s,.int .i64 f,bv] 60));by_cases h1:s=-1
 ·have h1':(s == -1)=true:=by simpa using h1
  by_cases h2:f=x
  ·have h2':(f == x)=true:=by simpa using h2
   rw[decide_eq_true h1,decide_eq_true h2] at hb;subst hb;clear h1 h2;go_enter Tryz.func106,Tryz.ntmps106
   go_wp2
   go_ret;exact⟨rfl,hB.out⟩
  ·have h2':(f == x)=false:=by simpa using h2
   rw[decide_eq_true h1,decide_eq_false h2] at hb;subst hb;clear h1 h2;go_enter Tryz.func106,Tryz.ntmps106
   go_wp2
   go_ret;exact⟨rfl,hB.out⟩
 ·have h1':(s == -1)=false:=by simpa using h1
  rw[decide_eq_false h1] at hb;subst hb;clear h1;go_enter Tryz.func106,Tryz.ntmps106
  go_wp2
  go_ret;exact⟨rfl,hB.out⟩
theorem name_over {A:List ClassA} {nm:ByteArray} (h:nm.size < 1∨16 < nm.size):nameR A nm=false:=by
 unfold nameR textOk;rcases h with h | h
 ·rw[decide_eq_false (p:=1≤nm.size) (by omega)];rfl
 ·rw[decide_eq_false (p:=nm.size≤16) (by omega)];simp
theorem name_twice {A:List ClassA} {nm:ByteArray} {j:Nat} {x:ClassA} (h:A[j]?=some x) (e:x.nm=nm):nameR A nm=false:=by
 have:A.any (fun x=>decide (x.nm=nm))=true:=List.any_eq_true.2 ⟨x,List.mem_of_getElem? h,by simpa using e⟩;unfold nameR;rw[this];simp
theorem name_once {A:List ClassA} {nm:ByteArray} (h1:1≤nm.size) (h2:nm.size≤16) (h:∀ x∈A,x.nm≠nm):nameR A nm=true:=by
 have:A.any (fun x=>decide (x.nm=nm))=false:=by
  rw[Bool.eq_false_iff];intro ha;obtain⟨x,hx,e⟩:=List.any_eq_true.1 ha;exact h x hx (by simpa using e)
 unfold nameR textOk;rw[this,decide_eq_true h1,decide_eq_true h2];rfl
set_option maxHeartbeats 8000000 in
theorem kname {w:World} {v:Value} {A:List ClassA} (h:ClV w v A) (nm:ByteArray) :
  Calls Tryz.prog 107 #[v,.string nm] w fun e w'=>e=.returned (.bool (nameR A nm))∧Below w.heap.size w w':=by
 obtain⟨ad,cap,rfl,hcap,hmx⟩:=h.form;obtain⟨n,hn⟩:∃ n,n=A.length:=⟨_,rfl⟩
 rw[← hn] at h hcap ⊢;replace h:=HD h;have hn':=HD hn
 have hnm:n≤9223372036854775807:=by have:maxLen≤9223372036854775807:=by decide
                                    omega
 clear hmx hn;by_cases q0:nm.size < 1
 ·have e:=HD (name_over (A:=A) (Or.inl q0));have q0':decide ((nm.size:Int) < 1)=true:=by simp;omega
  go_enter Tryz.func107,Tryz.ntmps107
  go_wp2
  go_ret;exact⟨congrArg (fun b=>Ending.returned (Value.bool b)) e.out.symm,Below.refl _ _⟩
 have q0':decide ((nm.size:Int) < 1)=false:=by simp;omega
 by_cases q1:16 < nm.size
 ·have e:=HD (name_over (A:=A) (Or.inr q1));have q1':decide ((nm.size:Int) > 16)=true:=by simp;omega
  go_enter Tryz.func107,Tryz.ntmps107
  go_wp2
  go_ret;exact⟨congrArg (fun b=>Ending.returned (Value.bool b)) e.out.symm,Below.refl _ _⟩
 have q1':decide ((nm.size:Int) > 16)=false:=by simp;omega
 have hsz:=HD (show 1≤nm.size∧nm.size≤16 by omega);have hst:Hid (∀ x∈A.take 0,x.nm≠nm):=HD (by simp);go_enter Tryz.func107,Tryz.ntmps107
 go_wp2
 go_loopw [17] (fun i17 wr=>∃ (j:Nat),j≤n∧i17=.int .i64 j∧Hid (∀ x∈A.take j,x.nm≠nm)∧Hid (Below w.heap.size w wr)) (fun i17 _=>n - (intOf i17).toNat)
 case atStart=>exact⟨0,by omega,rfl,hst,HD (Below.refl _ _)⟩
 case round =>
  obtain⟨j,hj,rfl,hD,hB⟩:=hrel;by_cases hlt:j < n
  ·have hlt':decide ((j:Int) < (n:Int))=true:=by simp;omega
   have p0:(0:Int)≤(j:Int):=by omega
   have p1:(j:Int) < (n:Int):=by omega
   obtain⟨⟨xn,xs,xf,xb⟩,hx⟩:∃ x,A[j]?=some x:=⟨A[j]'(by have:=hn'.out;omega),by simp⟩
   obtain⟨_,_,g',off',xv,rfl,d0,d1,d2,d3,xbv⟩:=(h.out.up hB.out).at hx;obtain⟨xa,xc,rfl,_⟩:=xbv.form;simp only at d0 d1 d2 d3 xbv;generalize xb.length=xm at *;have hx':=HD hx;clear hx xbv;by_cases he:xn=nm
   ·have e:=HD (name_twice hx'.out he);have he':(xn.toList == nm.toList)=true:=bl_eq he;clear he
    go_wp2
    go_ret;exact⟨congrArg (fun b=>Ending.returned (Value.bool b)) e.out.symm,hB.out.alloc hB.out.size _⟩
   ·have he':(xn.toList == nm.toList)=false:=bl_ne he;have hD':Hid (∀ x∈A.take (j+1),x.nm≠nm):=HD (fun x hx=>by
     rw[take_next hx'.out] at hx;rcases List.mem_append.1 hx with hx | hx
     ·exact hD.out x hx
     ·rw[List.mem_singleton.1 hx];exact he)
    go_wp2
    go_roundw
    case rel=>exact⟨j+1,by omega,by go_num,hD',HD (hB.out.alloc hB.out.size _)⟩
    case measure=>simp[intOf];omega
  ·have hlt':decide ((j:Int) < (n:Int))=false:=by simp;omega
   have e:=HD (name_once (A:=A) hsz.out.1 hsz.out.2 (by have:=hD.out;rw[show j=A.length by have:=hn'.out;omega,List.take_length] at this;exact this))
   go_wp2
   go_ret;exact⟨congrArg (fun b=>Ending.returned (Value.bool b)) e.out.symm,hB.out⟩
theorem sup_f {A:List ClassA} {s f:Int} (h:f < 0∨62 < f):supR A s f=false:=by
 unfold supR;rcases h with h | h
 ·rw[decide_eq_false (p:=0≤f) (by omega)];rfl
 ·rw[decide_eq_false (p:=f≤62) (by omega)];simp
theorem sup_n {A:List ClassA} {s f:Int} (h1:0≤f) (h2:f≤62) (h:s=-1):supR A s f=true:=by
 unfold supR;rw[decide_eq_true h1,decide_eq_true h2,decide_eq_true h];rfl
theorem sup_o {A:List ClassA} {s f:Int} (h:¬ s=-1) (h':s < 0∨(A.length:Int)≤s):supR A s f=false:=by
 unfold supR;rw[decide_eq_false h];rcases h' with h | h
 ·rw[decide_eq_false (p:=0≤s) (by omega)];simp
 ·rw[decide_eq_false (p:=s < A.length) (by omega)];simp
theorem sup_i {A:List ClassA} {s f:Int} (h1:0≤f) (h2:f≤62) (h3:0≤s) (h4:s < A.length):supR A s f=(decide ((chain A s).length < 8) && decide (superF A s≤f)):=by
 unfold supR;rw[decide_eq_true h1,decide_eq_true h2,decide_eq_true h3,decide_eq_true h4,decide_eq_false (p:=s=-1) (by omega)];rfl
set_option maxHeartbeats 16000000 in
theorem ksuper {w:World} {v:Value} {A:List ClassA} (h:ClV w v A) (nm:ByteArray) (s f:Int) (bv:Value) (hs:In64 s) (hf:In64 f) :
  Calls Tryz.prog 108 #[v,.agg #[.string nm,.int .i64 s,.int .i64 f,bv]] w fun e w'=>e=.returned (.bool (supR A s f))∧Below w.heap.size w w':=by
 obtain⟨ad,cap,rfl,hcap,hmx⟩:=h.form;obtain⟨n,hn⟩:∃ n,n=A.length:=⟨_,rfl⟩
 rw[← hn] at h hcap ⊢;replace h:=HD h;have hn':=HD hn;have hB:=HD ((Below.refl w.heap.size w).alloc (Nat.le_refl _) (.cells #[.string nm,.int .i64 s,.int .i64 f,bv] 60));obtain⟨f0,f1⟩:=hf;clear hmx hn;by_cases q0:f < 0
 ·have e:=HD (sup_f (A:=A) (s:=s) (Or.inl q0));have q0':decide (f < 0)=true:=by simpa using q0
  go_enter Tryz.func108,Tryz.ntmps108
  go_wp2
  go_ret;exact⟨congrArg (fun b=>Ending.returned (Value.bool b)) e.out.symm,hB.out⟩
 have q0':decide (f < 0)=false:=by simpa using q0
 by_cases q1:62 < f
 ·have e:=HD (sup_f (A:=A) (s:=s) (Or.inr q1));have q1':decide (f > 62)=true:=by simpa using q1
  go_enter Tryz.func108,Tryz.ntmps108
  go_wp2
  go_ret;exact⟨congrArg (fun b=>Ending.returned (Value.bool b)) e.out.symm,hB.out⟩
 have q1':decide (f > 62)=false:=by simpa using q1
 by_cases q2:s=-1
 ·have e:=HD (sup_n (A:=A) (f:=f) (by omega) (by omega) q2);have q2':(s == -1)=true:=by simpa using q2
  clear q2;go_enter Tryz.func108,Tryz.ntmps108
  go_wp2
  go_ret;exact⟨congrArg (fun b=>Ending.returned (Value.bool b)) e.out.symm,hB.out⟩
 have q2':(s == -1)=false:=by simpa using q2
 by_cases q3:s < 0∨(n:Int)≤s
 ·have e:=HD (sup_o (A:=A) (f:=f) q2 (by have:=hn'.out;omega));have PI:=HD (isc_n ad n cap s q3);have c1':Hid ((w.alloc (.cells #[.string nm,.int .i64 s,.int .i64 f,bv] 60)).cell? ⟨w.heap.size,1,none⟩=some (.int .i64 s)):=HD (by simp);have c2':Hid ((w.alloc (.cells #[.string nm,.int .i64 s,.int .i64 f,bv] 60)).cell? ⟨w.heap.size,2,none⟩=some (.int .i64 f)):=HD (by simp);go_enter Tryz.func108,Tryz.ntmps108
  go_wp2
  refine wp_region_held_drew (S:=(fun wr'=>wr'.cell? ⟨w.heap.size,1,none⟩=some (.int .i64 s)∧wr'.cell? ⟨w.heap.size,2,none⟩=some (.int .i64 f))) (by kernel_rfl) ?_ (fun hHeld=>?_)
  ·(try dsimp only);exact⟨c1'.out,c2'.out⟩
  try simp only[nA]
  refine tk (i:=0) (oi:=⟨some 16,.move (.tmp 0),23,"shape.go:83",#[],none⟩) ?_
  try simp only[nA]
  refine tk (i:=1) (oi:=⟨some 17,.fieldAddr 60 (.tmp 3) 1,0,"shape.go:83",#[],none⟩) ?_
  try simp only[nA]
  refine tk (i:=2) (oi:=⟨some 18,.load 3 (.tmp 17),3,"shape.go:83",#[⟨1,.data⟩],none⟩) ?_
  try simp only[nA]
  refine wpAnyH_ready (rs:=[3]) (by kernel_rfl) (by simp) ?_;refine AllReadyH.cons (o:=⟨some 19,.call { callee:=.value (.func 121),args:=#[.tmp 16,.tmp 18],argTypes:=#[23,3] },4,"shape.go:83",#[⟨0,.data⟩,⟨2,.data⟩],none⟩) rfl (fun K9 hK=>?_) ?_
  ·go_simp
   with_reducible refine (PI.out _).mono ?_
   rintro e1 y ⟨rfl,hy⟩;subst hy
   go_wp2_with fail
   refine hK.out _ _ ?_ ?_
   ·(try dsimp only);exact⟨c1'.out,c2'.out⟩
   clear hK K9 hHeld;intro hHeld
   try simp only[nA]
   refine tk (i:=4) (oi:=⟨some 20,.move (.tmp 19),4,"shape.go:83",#[⟨3,.data⟩,⟨3,.chain⟩],none⟩) ?_
   try simp only[nA]
   refine tu (i:=5) (oi:=⟨some 21,.move (.tmp 0),23,"shape.go:83",#[⟨4,.guard⟩],some (4,true)⟩) ?_
   try simp only[nA]
   refine tu (i:=6) (oi:=⟨some 22,.fieldAddr 60 (.tmp 3) 1,0,"shape.go:83",#[⟨4,.guard⟩],some (4,true)⟩) ?_
   try simp only[nA]
   refine tu (i:=7) (oi:=⟨some 23,.load 3 (.tmp 22),3,"shape.go:83",#[⟨6,.data⟩,⟨4,.guard⟩],some (4,true)⟩) ?_
   try simp only[nA]
   refine tu (i:=8) (oi:=⟨some 24,.call { callee:=.value (.func 122),args:=#[.tmp 21,.tmp 23],argTypes:=#[23,3] },3,"shape.go:83",#[⟨5,.data⟩,⟨7,.data⟩,⟨4,.chain⟩,⟨4,.guard⟩],some (4,true)⟩) ?_
   try simp only[nA]
   refine tu (i:=9) (oi:=⟨some 25,.binOp .lss 3 (.tmp 24) (.const (.int .i64 8)) 3,4,"shape.go:83",#[⟨8,.data⟩,⟨4,.guard⟩],some (4,true)⟩) ?_
   try simp only[nA]
   refine tk (i:=10) (oi:=⟨some 26,.pick (.tmp 20) (.tmp 25) (.const (.bool false)),4,"shape.go:83",#[⟨4,.data⟩,⟨9,.data⟩],none⟩) ?_
   try simp only[nA]
   refine tk (i:=11) (oi:=⟨some 27,.move (.tmp 26),4,"shape.go:83",#[⟨10,.data⟩,⟨8,.chain⟩],none⟩) ?_
   try simp only[nA]
   refine tu (i:=12) (oi:=⟨some 28,.fieldAddr 60 (.tmp 3) 2,0,"shape.go:83",#[⟨11,.guard⟩],some (11,true)⟩) ?_
   try simp only[nA]
   refine tu (i:=13) (oi:=⟨some 29,.load 3 (.tmp 28),3,"shape.go:83",#[⟨12,.data⟩,⟨11,.guard⟩],some (11,true)⟩) ?_
   try simp only[nA]
   refine tu (i:=14) (oi:=⟨some 30,.move (.tmp 0),23,"shape.go:83",#[⟨11,.guard⟩],some (11,true)⟩) ?_
   try simp only[nA]
   refine tu (i:=15) (oi:=⟨some 31,.fieldAddr 60 (.tmp 3) 1,0,"shape.go:83",#[⟨11,.guard⟩],some (11,true)⟩) ?_
   try simp only[nA]
   refine tu (i:=16) (oi:=⟨some 32,.load 3 (.tmp 31),3,"shape.go:83",#[⟨15,.data⟩,⟨11,.guard⟩],some (11,true)⟩) ?_
   try simp only[nA]
   refine tu (i:=17) (oi:=⟨some 33,.indexAddr 23 (.tmp 30) (.tmp 32),0,"shape.go:83",#[⟨14,.data⟩,⟨16,.data⟩,⟨11,.guard⟩],some (11,true)⟩) ?_
   try simp only[nA]
   refine tu (i:=18) (oi:=⟨some 34,.fieldAddr 60 (.tmp 33) 2,0,"shape.go:83",#[⟨17,.data⟩,⟨11,.guard⟩],some (11,true)⟩) ?_
   try simp only[nA]
   refine tu (i:=19) (oi:=⟨some 35,.load 3 (.tmp 34),3,"shape.go:83",#[⟨18,.data⟩,⟨11,.guard⟩],some (11,true)⟩) ?_
   try simp only[nA]
   refine tu (i:=20) (oi:=⟨some 36,.binOp .geq 3 (.tmp 29) (.tmp 35) 3,4,"shape.go:83",#[⟨13,.data⟩,⟨19,.data⟩,⟨11,.guard⟩],some (11,true)⟩) ?_
   try simp only[nA]
   refine tk (i:=21) (oi:=⟨some 37,.pick (.tmp 27) (.tmp 36) (.const (.bool false)),4,"shape.go:83",#[⟨11,.data⟩,⟨20,.data⟩],none⟩) ?_
   try simp only[nA]
   refine tk (i:=22) (oi:=⟨some 4,.assign (.tmp 37),4,"shape.go:83",#[⟨21,.data⟩,⟨11,.chain⟩,⟨0,.phase⟩,⟨1,.phase⟩,⟨2,.phase⟩,⟨3,.phase⟩,⟨4,.phase⟩,⟨5,.phase⟩,⟨6,.phase⟩,⟨7,.phase⟩,⟨8,.phase⟩,⟨9,.phase⟩,⟨10,.phase⟩,⟨11,.phase⟩,⟨12,.phase⟩,⟨13,.phase⟩,⟨14,.phase⟩,⟨15,.phase⟩,⟨16,.phase⟩,⟨17,.phase⟩,⟨18,.phase⟩,⟨19,.phase⟩,⟨20,.phase⟩,⟨21,.phase⟩],none⟩) ?_
   try simp only[nA]
   refine wpAnyH_done (by kernel_rfl) ?_ _
   go_wp2_with fail
   go_ret;exact⟨congrArg (fun b=>Ending.returned (Value.bool b)) e.out.symm,hB.out.drew⟩
  exact AllReadyH.nil
 have PI:=HD (isc_y ad n cap s (by omega) (by omega));obtain⟨k,rfl⟩:∃ k:Nat,s=k:=⟨s.toNat,by omega⟩
 obtain⟨⟨xn,xs,xf,xb⟩,hx⟩:∃ x,A[k]?=some x:=⟨A[k]'(by have:=hn'.out;omega),by simp⟩
 have he:=sup_i (A:=A) (s:=k) (f:=f) (by omega) (by omega) (by omega) (by have:=hn'.out;omega);have hsf:superF A (k:Int)=xf:=by unfold superF;rw[Int.toNat_natCast,hx]
 rw[hsf] at he;clear hsf;have p0:(0:Int)≤(k:Int):=by omega
 have p1:(k:Int) < (n:Int):=by omega
 have h1:=HD (h.out.up hB.out);obtain⟨_,_,g',off',xv,rfl,d0,d1,d2,d3,xbv⟩:=h1.out.at hx;simp only at d2;have d2':=HD d2;have c1:(w.alloc (.cells #[.string nm,.int .i64 (k:Int),.int .i64 f,bv] 60)).cell? ⟨w.heap.size,1,none⟩=some (.int .i64 (k:Int)):=by simp
 have c2:(w.alloc (.cells #[.string nm,.int .i64 (k:Int),.int .i64 f,bv] 60)).cell? ⟨w.heap.size,2,none⟩=some (.int .i64 f):=by simp
 have c1':=HD c1;have c2':=HD c2;clear d0 d1 d3 xbv hx c1 c2 d2;have hlen:(chain A (k:Int)).length≤8:=chain_len _ _;have PD:=HD (fun w' (b:Below (w.alloc (.cells #[.string nm,.int .i64 (k:Int),.int .i64 f,bv] 60)).heap.size (w.alloc (.cells #[.string nm,.int .i64 (k:Int),.int .i64 f,bv] 60)) w')=>kdepth (h1.out.up b) (k:Int) hs);obtain⟨d,hd⟩:∃ d,d=(chain A (k:Int)).length:=⟨_,rfl⟩
 rw[← hd] at PD he hlen;clear hd;by_cases q4:d < 8
 ·have q4':decide ((d:Int) < 8)=true:=by simp;omega
  by_cases q5:xf≤f
  ·have e:=HD (he.trans (by simp[q4,q5]:_=true));have q5':decide (f ≥ xf)=true:=by simpa using q5
   clear he;go_enter Tryz.func108,Tryz.ntmps108
   go_wp2
   refine wp_region_held_drew (S:=(fun wr'=>wr'.cell? ⟨w.heap.size,1,none⟩=some (.int .i64 (k:Int))∧wr'.cell? ⟨w.heap.size,2,none⟩=some (.int .i64 f)∧wr'.cell? ⟨g',off'+k*4+2,none⟩=some (.int .i64 xf))) (by kernel_rfl) ?_ (fun hHeld=>?_)
   ·(try dsimp only);exact⟨c1'.out,c2'.out,d2'.out⟩
   try simp only[nA]
   refine tk (i:=0) (oi:=⟨some 16,.move (.tmp 0),23,"shape.go:83",#[],none⟩) ?_
   try simp only[nA]
   refine tk (i:=1) (oi:=⟨some 17,.fieldAddr 60 (.tmp 3) 1,0,"shape.go:83",#[],none⟩) ?_
   try simp only[nA]
   refine tk (i:=2) (oi:=⟨some 18,.load 3 (.tmp 17),3,"shape.go:83",#[⟨1,.data⟩],none⟩) ?_
   try simp only[nA]
   refine wpAnyH_ready (rs:=[3]) (by kernel_rfl) (by simp) ?_;refine AllReadyH.cons (o:=⟨some 19,.call { callee:=.value (.func 121),args:=#[.tmp 16,.tmp 18],argTypes:=#[23,3] },4,"shape.go:83",#[⟨0,.data⟩,⟨2,.data⟩],none⟩) rfl (fun K9 hK=>?_) ?_
   ·go_simp
    with_reducible refine (PI.out _).mono ?_
    rintro e1 y ⟨rfl,hy⟩;subst hy
    go_wp2_with fail
    refine hK.out _ _ ?_ ?_
    ·(try dsimp only);exact⟨c1'.out,c2'.out,d2'.out⟩
    clear hK K9 hHeld;intro hHeld
    try simp only[nA]
    refine tk (i:=4) (oi:=⟨some 20,.move (.tmp 19),4,"shape.go:83",#[⟨3,.data⟩,⟨3,.chain⟩],none⟩) ?_
    try simp only[nA]
    refine tk (i:=5) (oi:=⟨some 21,.move (.tmp 0),23,"shape.go:83",#[⟨4,.guard⟩],some (4,true)⟩) ?_
    try simp only[nA]
    refine tk (i:=6) (oi:=⟨some 22,.fieldAddr 60 (.tmp 3) 1,0,"shape.go:83",#[⟨4,.guard⟩],some (4,true)⟩) ?_
    try simp only[nA]
    refine tk (i:=7) (oi:=⟨some 23,.load 3 (.tmp 22),3,"shape.go:83",#[⟨6,.data⟩,⟨4,.guard⟩],some (4,true)⟩) ?_
    try simp only[nA]
    refine wpAnyH_ready (rs:=[8]) (by kernel_rfl) (by simp) ?_;refine AllReadyH.cons (o:=⟨some 24,.call { callee:=.value (.func 122),args:=#[.tmp 21,.tmp 23],argTypes:=#[23,3] },3,"shape.go:83",#[⟨5,.data⟩,⟨7,.data⟩,⟨4,.chain⟩,⟨4,.guard⟩],some (4,true)⟩) rfl (fun K9 hK=>?_) ?_
    ·go_simp
     with_reducible refine (PD.out _ (Below.refl _ _).drew).mono ?_
     rintro e1 y2 ⟨rfl,hw2⟩;have hq:Below (w.alloc (.cells #[.string nm,.int .i64 (k:Int),.int .i64 f,bv] 60)).heap.size (w.alloc (.cells #[.string nm,.int .i64 (k:Int),.int .i64 f,bv] 60)) y2:=((Below.refl _ _).drew).trans hw2;have hB2:=HD (hB.out.trans (hq.mono hB.out.size));have hk:=And.intro (cell_up hq c1'.out) (And.intro (cell_up hq c2'.out) (cell_up hq d2'.out));clear hw2 hq
     go_wp2_with fail
     refine hK.out _ _ ?_ ?_
     ·(try dsimp only);exact hk
     clear hK K9 hHeld;intro hHeld
     try simp only[nA]
     refine tk (i:=9) (oi:=⟨some 25,.binOp .lss 3 (.tmp 24) (.const (.int .i64 8)) 3,4,"shape.go:83",#[⟨8,.data⟩,⟨4,.guard⟩],some (4,true)⟩) ?_
     try simp only[nA]
     refine tk (i:=10) (oi:=⟨some 26,.pick (.tmp 20) (.tmp 25) (.const (.bool false)),4,"shape.go:83",#[⟨4,.data⟩,⟨9,.data⟩],none⟩) ?_
     try simp only[nA]
     refine tk (i:=11) (oi:=⟨some 27,.move (.tmp 26),4,"shape.go:83",#[⟨10,.data⟩,⟨8,.chain⟩],none⟩) ?_
     try simp only[nA]
     refine tk (i:=12) (oi:=⟨some 28,.fieldAddr 60 (.tmp 3) 2,0,"shape.go:83",#[⟨11,.guard⟩],some (11,true)⟩) ?_
     try simp only[nA]
     refine tk (i:=13) (oi:=⟨some 29,.load 3 (.tmp 28),3,"shape.go:83",#[⟨12,.data⟩,⟨11,.guard⟩],some (11,true)⟩) ?_
     try simp only[nA]
     refine tk (i:=14) (oi:=⟨some 30,.move (.tmp 0),23,"shape.go:83",#[⟨11,.guard⟩],some (11,true)⟩) ?_
     try simp only[nA]
     refine tk (i:=15) (oi:=⟨some 31,.fieldAddr 60 (.tmp 3) 1,0,"shape.go:83",#[⟨11,.guard⟩],some (11,true)⟩) ?_
     try simp only[nA]
     refine tk (i:=16) (oi:=⟨some 32,.load 3 (.tmp 31),3,"shape.go:83",#[⟨15,.data⟩,⟨11,.guard⟩],some (11,true)⟩) ?_
     try simp only[nA]
     refine tk (i:=17) (oi:=⟨some 33,.indexAddr 23 (.tmp 30) (.tmp 32),0,"shape.go:83",#[⟨14,.data⟩,⟨16,.data⟩,⟨11,.guard⟩],some (11,true)⟩) ?_
     try simp only[nA]
     refine tk (i:=18) (oi:=⟨some 34,.fieldAddr 60 (.tmp 33) 2,0,"shape.go:83",#[⟨17,.data⟩,⟨11,.guard⟩],some (11,true)⟩) ?_
     try simp only[nA]
     refine tk (i:=19) (oi:=⟨some 35,.load 3 (.tmp 34),3,"shape.go:83",#[⟨18,.data⟩,⟨11,.guard⟩],some (11,true)⟩) ?_
     try simp only[nA]
     refine tk (i:=20) (oi:=⟨some 36,.binOp .geq 3 (.tmp 29) (.tmp 35) 3,4,"shape.go:83",#[⟨13,.data⟩,⟨19,.data⟩,⟨11,.guard⟩],some (11,true)⟩) ?_
     try simp only[nA]
     refine tk (i:=21) (oi:=⟨some 37,.pick (.tmp 27) (.tmp 36) (.const (.bool false)),4,"shape.go:83",#[⟨11,.data⟩,⟨20,.data⟩],none⟩) ?_
     try simp only[nA]
     refine tk (i:=22) (oi:=⟨some 4,.assign (.tmp 37),4,"shape.go:83",#[⟨21,.data⟩,⟨11,.chain⟩,⟨0,.phase⟩,⟨1,.phase⟩,⟨2,.phase⟩,⟨3,.phase⟩,⟨4,.phase⟩,⟨5,.phase⟩,⟨6,.phase⟩,⟨7,.phase⟩,⟨8,.phase⟩,⟨9,.phase⟩,⟨10,.phase⟩,⟨11,.phase⟩,⟨12,.phase⟩,⟨13,.phase⟩,⟨14,.phase⟩,⟨15,.phase⟩,⟨16,.phase⟩,⟨17,.phase⟩,⟨18,.phase⟩,⟨19,.phase⟩,⟨20,.phase⟩,⟨21,.phase⟩],none⟩) ?_
     try simp only[nA]
     refine wpAnyH_done (by kernel_rfl) ?_ _
     go_wp2_with fail
     go_ret;exact⟨congrArg (fun b=>Ending.returned (Value.bool b)) e.out.symm,hB2.out⟩
    exact AllReadyH.nil
   exact AllReadyH.nil
  ·have e:=HD (he.trans (by simp[q4,q5]:_=false));have q5':decide (f ≥ xf)=false:=by simpa using q5
   clear he;go_enter Tryz.func108,Tryz.ntmps108
   go_wp2
   refine wp_region_held_drew (S:=(fun wr'=>wr'.cell? ⟨w.heap.size,1,none⟩=some (.int .i64 (k:Int))∧wr'.cell? ⟨w.heap.size,2,none⟩=some (.int .i64 f)∧wr'.cell? ⟨g',off'+k*4+2,none⟩=some (.int .i64 xf))) (by kernel_rfl) ?_ (fun hHeld=>?_)
   ·(try dsimp only);exact⟨c1'.out,c2'.out,d2'.out⟩
   try simp only[nA]
   refine tk (i:=0) (oi:=⟨some 16,.move (.tmp 0),23,"shape.go:83",#[],none⟩) ?_
   try simp only[nA]
   refine tk (i:=1) (oi:=⟨some 17,.fieldAddr 60 (.tmp 3) 1,0,"shape.go:83",#[],none⟩) ?_
   try simp only[nA]
   refine tk (i:=2) (oi:=⟨some 18,.load 3 (.tmp 17),3,"shape.go:83",#[⟨1,.data⟩],none⟩) ?_
   try simp only[nA]
   refine wpAnyH_ready (rs:=[3]) (by kernel_rfl) (by simp) ?_;refine AllReadyH.cons (o:=⟨some 19,.call { callee:=.value (.func 121),args:=#[.tmp 16,.tmp 18],argTypes:=#[23,3] },4,"shape.go:83",#[⟨0,.data⟩,⟨2,.data⟩],none⟩) rfl (fun K9 hK=>?_) ?_
   ·go_simp
    with_reducible refine (PI.out _).mono ?_
    rintro e1 y ⟨rfl,hy⟩;subst hy
    go_wp2_with fail
    refine hK.out _ _ ?_ ?_
    ·(try dsimp only);exact⟨c1'.out,c2'.out,d2'.out⟩
    clear hK K9 hHeld;intro hHeld
    try simp only[nA]
    refine tk (i:=4) (oi:=⟨some 20,.move (.tmp 19),4,"shape.go:83",#[⟨3,.data⟩,⟨3,.chain⟩],none⟩) ?_
    try simp only[nA]
    refine tk (i:=5) (oi:=⟨some 21,.move (.tmp 0),23,"shape.go:83",#[⟨4,.guard⟩],some (4,true)⟩) ?_
    try simp only[nA]
    refine tk (i:=6) (oi:=⟨some 22,.fieldAddr 60 (.tmp 3) 1,0,"shape.go:83",#[⟨4,.guard⟩],some (4,true)⟩) ?_
    try simp only[nA]
    refine tk (i:=7) (oi:=⟨some 23,.load 3 (.tmp 22),3,"shape.go:83",#[⟨6,.data⟩,⟨4,.guard⟩],some (4,true)⟩) ?_
    try simp only[nA]
    refine wpAnyH_ready (rs:=[8]) (by kernel_rfl) (by simp) ?_;refine AllReadyH.cons (o:=⟨some 24,.call { callee:=.value (.func 122),args:=#[.tmp 21,.tmp 23],argTypes:=#[23,3] },3,"shape.go:83",#[⟨5,.data⟩,⟨7,.data⟩,⟨4,.chain⟩,⟨4,.guard⟩],some (4,true)⟩) rfl (fun K9 hK=>?_) ?_
    ·go_simp
     with_reducible refine (PD.out _ (Below.refl _ _).drew).mono ?_
     rintro e1 y2 ⟨rfl,hw2⟩;have hq:Below (w.alloc (.cells #[.string nm,.int .i64 (k:Int),.int .i64 f,bv] 60)).heap.size (w.alloc (.cells #[.string nm,.int .i64 (k:Int),.int .i64 f,bv] 60)) y2:=((Below.refl _ _).drew).trans hw2;have hB2:=HD (hB.out.trans (hq.mono hB.out.size));have hk:=And.intro (cell_up hq c1'.out) (And.intro (cell_up hq c2'.out) (cell_up hq d2'.out));clear hw2 hq
     go_wp2_with fail
     refine hK.out _ _ ?_ ?_
     ·(try dsimp only);exact hk
     clear hK K9 hHeld;intro hHeld
     try simp only[nA]
     refine tk (i:=9) (oi:=⟨some 25,.binOp .lss 3 (.tmp 24) (.const (.int .i64 8)) 3,4,"shape.go:83",#[⟨8,.data⟩,⟨4,.guard⟩],some (4,true)⟩) ?_
     try simp only[nA]
     refine tk (i:=10) (oi:=⟨some 26,.pick (.tmp 20) (.tmp 25) (.const (.bool false)),4,"shape.go:83",#[⟨4,.data⟩,⟨9,.data⟩],none⟩) ?_
     try simp only[nA]
     refine tk (i:=11) (oi:=⟨some 27,.move (.tmp 26),4,"shape.go:83",#[⟨10,.data⟩,⟨8,.chain⟩],none⟩) ?_
     try simp only[nA]
     refine tk (i:=12) (oi:=⟨some 28,.fieldAddr 60 (.tmp 3) 2,0,"shape.go:83",#[⟨11,.guard⟩],some (11,true)⟩) ?_
     try simp only[nA]
     refine tk (i:=13) (oi:=⟨some 29,.load 3 (.tmp 28),3,"shape.go:83",#[⟨12,.data⟩,⟨11,.guard⟩],some (11,true)⟩) ?_
     try simp only[nA]
     refine tk (i:=14) (oi:=⟨some 30,.move (.tmp 0),23,"shape.go:83",#[⟨11,.guard⟩],some (11,true)⟩) ?_
     try simp only[nA]
     refine tk (i:=15) (oi:=⟨some 31,.fieldAddr 60 (.tmp 3) 1,0,"shape.go:83",#[⟨11,.guard⟩],some (11,true)⟩) ?_
     try simp only[nA]
     refine tk (i:=16) (oi:=⟨some 32,.load 3 (.tmp 31),3,"shape.go:83",#[⟨15,.data⟩,⟨11,.guard⟩],some (11,true)⟩) ?_
     try simp only[nA]
     refine tk (i:=17) (oi:=⟨some 33,.indexAddr 23 (.tmp 30) (.tmp 32),0,"shape.go:83",#[⟨14,.data⟩,⟨16,.data⟩,⟨11,.guard⟩],some (11,true)⟩) ?_
     try simp only[nA]
     refine tk (i:=18) (oi:=⟨some 34,.fieldAddr 60 (.tmp 33) 2,0,"shape.go:83",#[⟨17,.data⟩,⟨11,.guard⟩],some (11,true)⟩) ?_
     try simp only[nA]
     refine tk (i:=19) (oi:=⟨some 35,.load 3 (.tmp 34),3,"shape.go:83",#[⟨18,.data⟩,⟨11,.guard⟩],some (11,true)⟩) ?_
     try simp only[nA]
     refine tk (i:=20) (oi:=⟨some 36,.binOp .geq 3 (.tmp 29) (.tmp 35) 3,4,"shape.go:83",#[⟨13,.data⟩,⟨19,.data⟩,⟨11,.guard⟩],some (11,true)⟩) ?_
     try simp only[nA]
     refine tk (i:=21) (oi:=⟨some 37,.pick (.tmp 27) (.tmp 36) (.const (.bool false)),4,"shape.go:83",#[⟨11,.data⟩,⟨20,.data⟩],none⟩) ?_
     try simp only[nA]
     refine tk (i:=22) (oi:=⟨some 4,.assign (.tmp 37),4,"shape.go:83",#[⟨21,.data⟩,⟨11,.chain⟩,⟨0,.phase⟩,⟨1,.phase⟩,⟨2,.phase⟩,⟨3,.phase⟩,⟨4,.phase⟩,⟨5,.phase⟩,⟨6,.phase⟩,⟨7,.phase⟩,⟨8,.phase⟩,⟨9,.phase⟩,⟨10,.phase⟩,⟨11,.phase⟩,⟨12,.phase⟩,⟨13,.phase⟩,⟨14,.phase⟩,⟨15,.phase⟩,⟨16,.phase⟩,⟨17,.phase⟩,⟨18,.phase⟩,⟨19,.phase⟩,⟨20,.phase⟩,⟨21,.phase⟩],none⟩) ?_
     try simp only[nA]
     refine wpAnyH_done (by kernel_rfl) ?_ _
     go_wp2_with fail
     go_ret;exact⟨congrArg (fun b=>Ending.returned (Value.bool b)) e.out.symm,hB2.out⟩
    exact AllReadyH.nil
   exact AllReadyH.nil
 ·have q4':decide ((d:Int) < 8)=false:=by simp;omega
  have e:=HD (he.trans (by simp[q4]:_=false));clear he;go_enter Tryz.func108,Tryz.ntmps108
  go_wp2
  refine wp_region_held_drew (S:=(fun wr'=>wr'.cell? ⟨w.heap.size,1,none⟩=some (.int .i64 (k:Int))∧wr'.cell? ⟨w.heap.size,2,none⟩=some (.int .i64 f)∧wr'.cell? ⟨g',off'+k*4+2,none⟩=some (.int .i64 xf))) (by kernel_rfl) ?_ (fun hHeld=>?_)
  ·(try dsimp only);exact⟨c1'.out,c2'.out,d2'.out⟩
  try simp only[nA]
  refine tk (i:=0) (oi:=⟨some 16,.move (.tmp 0),23,"shape.go:83",#[],none⟩) ?_
  try simp only[nA]
  refine tk (i:=1) (oi:=⟨some 17,.fieldAddr 60 (.tmp 3) 1,0,"shape.go:83",#[],none⟩) ?_
  try simp only[nA]
  refine tk (i:=2) (oi:=⟨some 18,.load 3 (.tmp 17),3,"shape.go:83",#[⟨1,.data⟩],none⟩) ?_
  try simp only[nA]
  refine wpAnyH_ready (rs:=[3]) (by kernel_rfl) (by simp) ?_;refine AllReadyH.cons (o:=⟨some 19,.call { callee:=.value (.func 121),args:=#[.tmp 16,.tmp 18],argTypes:=#[23,3] },4,"shape.go:83",#[⟨0,.data⟩,⟨2,.data⟩],none⟩) rfl (fun K9 hK=>?_) ?_
  ·go_simp
   with_reducible refine (PI.out _).mono ?_
   rintro e1 y ⟨rfl,hy⟩;subst hy
   go_wp2_with fail
   refine hK.out _ _ ?_ ?_
   ·(try dsimp only);exact⟨c1'.out,c2'.out,d2'.out⟩
   clear hK K9 hHeld;intro hHeld
   try simp only[nA]
   refine tk (i:=4) (oi:=⟨some 20,.move (.tmp 19),4,"shape.go:83",#[⟨3,.data⟩,⟨3,.chain⟩],none⟩) ?_
   try simp only[nA]
   refine tk (i:=5) (oi:=⟨some 21,.move (.tmp 0),23,"shape.go:83",#[⟨4,.guard⟩],some (4,true)⟩) ?_
   try simp only[nA]
   refine tk (i:=6) (oi:=⟨some 22,.fieldAddr 60 (.tmp 3) 1,0,"shape.go:83",#[⟨4,.guard⟩],some (4,true)⟩) ?_
   try simp only[nA]
   refine tk (i:=7) (oi:=⟨some 23,.load 3 (.tmp 22),3,"shape.go:83",#[⟨6,.data⟩,⟨4,.guard⟩],some (4,true)⟩) ?_
   try simp only[nA]
   refine wpAnyH_ready (rs:=[8]) (by kernel_rfl) (by simp) ?_;refine AllReadyH.cons (o:=⟨some 24,.call { callee:=.value (.func 122),args:=#[.tmp 21,.tmp 23],argTypes:=#[23,3] },3,"shape.go:83",#[⟨5,.data⟩,⟨7,.data⟩,⟨4,.chain⟩,⟨4,.guard⟩],some (4,true)⟩) rfl (fun K9 hK=>?_) ?_
   ·go_simp
    with_reducible refine (PD.out _ (Below.refl _ _).drew).mono ?_
    rintro e1 y2 ⟨rfl,hw2⟩;have hq:Below (w.alloc (.cells #[.string nm,.int .i64 (k:Int),.int .i64 f,bv] 60)).heap.size (w.alloc (.cells #[.string nm,.int .i64 (k:Int),.int .i64 f,bv] 60)) y2:=((Below.refl _ _).drew).trans hw2;have hB2:=HD (hB.out.trans (hq.mono hB.out.size));have hk:=And.intro (cell_up hq c1'.out) (And.intro (cell_up hq c2'.out) (cell_up hq d2'.out));clear hw2 hq
    go_wp2_with fail
    refine hK.out _ _ ?_ ?_
    ·(try dsimp only);exact hk
    clear hK K9 hHeld;intro hHeld
    try simp only[nA]
    refine tk (i:=9) (oi:=⟨some 25,.binOp .lss 3 (.tmp 24) (.const (.int .i64 8)) 3,4,"shape.go:83",#[⟨8,.data⟩,⟨4,.guard⟩],some (4,true)⟩) ?_
    try simp only[nA]
    refine tk (i:=10) (oi:=⟨some 26,.pick (.tmp 20) (.tmp 25) (.const (.bool false)),4,"shape.go:83",#[⟨4,.data⟩,⟨9,.data⟩],none⟩) ?_
    try simp only[nA]
    refine tk (i:=11) (oi:=⟨some 27,.move (.tmp 26),4,"shape.go:83",#[⟨10,.data⟩,⟨8,.chain⟩],none⟩) ?_
    try simp only[nA]
    refine tu (i:=12) (oi:=⟨some 28,.fieldAddr 60 (.tmp 3) 2,0,"shape.go:83",#[⟨11,.guard⟩],some (11,true)⟩) ?_
    try simp only[nA]
    refine tu (i:=13) (oi:=⟨some 29,.load 3 (.tmp 28),3,"shape.go:83",#[⟨12,.data⟩,⟨11,.guard⟩],some (11,true)⟩) ?_
    try simp only[nA]
    refine tu (i:=14) (oi:=⟨some 30,.move (.tmp 0),23,"shape.go:83",#[⟨11,.guard⟩],some (11,true)⟩) ?_
    try simp only[nA]
    refine tu (i:=15) (oi:=⟨some 31,.fieldAddr 60 (.tmp 3) 1,0,"shape.go:83",#[⟨11,.guard⟩],some (11,true)⟩) ?_
    try simp only[nA]
    refine tu (i:=16) (oi:=⟨some 32,.load 3 (.tmp 31),3,"shape.go:83",#[⟨15,.data⟩,⟨11,.guard⟩],some (11,true)⟩) ?_
    try simp only[nA]
    refine tu (i:=17) (oi:=⟨some 33,.indexAddr 23 (.tmp 30) (.tmp 32),0,"shape.go:83",#[⟨14,.data⟩,⟨16,.data⟩,⟨11,.guard⟩],some (11,true)⟩) ?_
    try simp only[nA]
    refine tu (i:=18) (oi:=⟨some 34,.fieldAddr 60 (.tmp 33) 2,0,"shape.go:83",#[⟨17,.data⟩,⟨11,.guard⟩],some (11,true)⟩) ?_
    try simp only[nA]
    refine tu (i:=19) (oi:=⟨some 35,.load 3 (.tmp 34),3,"shape.go:83",#[⟨18,.data⟩,⟨11,.guard⟩],some (11,true)⟩) ?_
    try simp only[nA]
    refine tu (i:=20) (oi:=⟨some 36,.binOp .geq 3 (.tmp 29) (.tmp 35) 3,4,"shape.go:83",#[⟨13,.data⟩,⟨19,.data⟩,⟨11,.guard⟩],some (11,true)⟩) ?_
    try simp only[nA]
    refine tk (i:=21) (oi:=⟨some 37,.pick (.tmp 27) (.tmp 36) (.const (.bool false)),4,"shape.go:83",#[⟨11,.data⟩,⟨20,.data⟩],none⟩) ?_
    try simp only[nA]
    refine tk (i:=22) (oi:=⟨some 4,.assign (.tmp 37),4,"shape.go:83",#[⟨21,.data⟩,⟨11,.chain⟩,⟨0,.phase⟩,⟨1,.phase⟩,⟨2,.phase⟩,⟨3,.phase⟩,⟨4,.phase⟩,⟨5,.phase⟩,⟨6,.phase⟩,⟨7,.phase⟩,⟨8,.phase⟩,⟨9,.phase⟩,⟨10,.phase⟩,⟨11,.phase⟩,⟨12,.phase⟩,⟨13,.phase⟩,⟨14,.phase⟩,⟨15,.phase⟩,⟨16,.phase⟩,⟨17,.phase⟩,⟨18,.phase⟩,⟨19,.phase⟩,⟨20,.phase⟩,⟨21,.phase⟩],none⟩) ?_
    try simp only[nA]
    refine wpAnyH_done (by kernel_rfl) ?_ _
    go_wp2_with fail
    go_ret;exact⟨congrArg (fun b=>Ending.returned (Value.bool b)) e.out.symm,hB2.out⟩
   exact AllReadyH.nil
  exact AllReadyH.nil
theorem any_at {B:List (Int × Int)} {j:Nat} {x:Int × Int} {s:Int} (h:B[j]?=some x) (e:x.1=s):B.any (fun x=>decide (x.1=s))=true:=by
 rw[List.any_eq_true];exact⟨x,List.mem_of_getElem? h,by simpa using e⟩
theorem any_not {B:List (Int × Int)} {s:Int} (h:∀ x∈B,x.1≠s):B.any (fun x=>decide (x.1=s))=false:=by
 rw[Bool.eq_false_iff];intro ha;obtain⟨x,hx,e⟩:=List.any_eq_true.1 ha;exact h x hx (by simpa using e)
set_option maxHeartbeats 4000000 in
theorem kbindsname {w:World} {v:Value} {B:List (Int × Int)} (h:PrV w v B) (s:Int) (hs:In64 s) :
  Calls Tryz.prog 123 #[v,.int .i64 s] w fun e w'=>e=.returned (.bool (B.any (fun x=>decide (x.1=s))))∧Below w.heap.size w w':=by
 obtain⟨ad,cap,rfl,hcap,hmx⟩:=h.form;obtain⟨n,hn⟩:∃ n,n=B.length:=⟨_,rfl⟩
 rw[← hn] at h hcap ⊢;replace h:=HD h;have hn':=HD hn
 have hnm:n≤9223372036854775807:=by have:maxLen≤9223372036854775807:=by decide
                                    omega
 have hst:Hid (∀ x∈B.take 0,x.1≠s):=HD (by simp);clear hmx hn;go_enter Tryz.func123,Tryz.ntmps123
 go_wp2
 go_loopw [9] (fun i9 wr=>∃ (j:Nat),j≤n∧i9=.int .i64 j∧Hid (∀ x∈B.take j,x.1≠s)∧Hid (Below w.heap.size w wr)) (fun i9 _=>n - (intOf i9).toNat)
 case atStart=>exact⟨0,by omega,rfl,hst,HD (Below.refl _ _)⟩
 case round =>
  obtain⟨j,hj,rfl,hD,hB⟩:=hrel;by_cases hlt:j < n
  ·have hlt':decide ((j:Int) < (n:Int))=true:=by simp;omega
   have p0:(0:Int)≤(j:Int):=by omega
   have p1:(j:Int) < (n:Int):=by omega
   obtain⟨⟨xs,xm⟩,hx⟩:∃ x,B[j]?=some x:=⟨B[j]'(by have:=hn'.out;omega),by simp⟩
   obtain⟨⟨x0,x1⟩,⟨y0,y1⟩,g',off',rfl,d0,d1⟩:=(h.out.up hB.out).at hx;have hx':=HD hx;clear hx;simp only at x0 x1 y0 y1 d0 d1;by_cases he:xs=s
   ·have e:=HD (any_at hx'.out he);have he':(xs == s)=true:=by simpa using he
    go_wp2
    go_ret;exact⟨congrArg (fun b=>Ending.returned (Value.bool b)) e.out.symm,hB.out.alloc hB.out.size _⟩
   ·have he':(xs == s)=false:=by simpa using he
    have hD':Hid (∀ x∈B.take (j+1),x.1≠s):=HD (fun x hx=>by
     rw[List.take_add_one,hx'.out] at hx;rcases List.mem_append.1 hx with hx | hx
     ·exact hD.out x hx
     ·have e:x=(xs,xm):=by simpa using hx
      rw[e];exact he)
    go_wp2
    go_roundw
    case rel=>exact⟨j+1,by omega,by go_num,hD',HD (hB.out.alloc hB.out.size _)⟩
    case measure=>simp[intOf];omega
  ·have hlt':decide ((j:Int) < (n:Int))=false:=by simp;omega
   have e:=HD (any_not (B:=B) (s:=s) (by have:=hD.out;rw[show j=B.length by have:=hn'.out;omega,List.take_length] at this;exact this))
   go_wp2
   go_ret;exact⟨congrArg (fun b=>Ending.returned (Value.bool b)) e.out.symm,hB.out⟩
theorem binds_over {B:List (Int × Int)} {names methods:Int} (h:16 < B.length):bindsOk B names methods=false:=by
 unfold bindsOk;rw[decide_eq_false (p:=B.length≤16) (by omega)];simp
theorem take_any {B:List (Int × Int)} {k:Nat} {s:Int} (h:(B.take k).any (fun x=>decide (x.1=s))=true):∃ j x,j < k∧B[j]?=some x∧x.1=s:=by
 obtain⟨x,hx,e⟩:=List.any_eq_true.1 h;obtain⟨j,hj⟩:=List.getElem?_of_mem hx;rw[List.getElem?_take] at hj;by_cases hk:j < k
 ·rw[if_pos hk] at hj;exact⟨j,x,hk,hj,by simpa using e⟩
 ·rw[if_neg hk] at hj;cases hj
theorem take_none {B:List (Int × Int)} {s:Int} (h:B.any (fun x=>decide (x.1=s))=false):∀ x∈B,x.1≠s:=by
 intro x hx e;have:B.any (fun x=>decide (x.1=s))=true:=List.any_eq_true.2 ⟨x,hx,by simpa using e⟩;rw[h] at this;cases this
set_option maxHeartbeats 16000000 in
theorem kbinds {w:World} {v:Value} {B:List (Int × Int)} (h:PrV w v B) (names methods:Int) (hn:In64 names) (hm:In64 methods) :
  Calls Tryz.prog 109 #[v,.int .i64 names,.int .i64 methods] w fun e w'=>e=.returned (.bool (bindsOk B names methods))∧Below w.heap.size w w':=by
 obtain⟨ad,cap,rfl,hcap,hmx⟩:=h.form;obtain⟨n,hn⟩:∃ n,n=B.length:=⟨_,rfl⟩
 rw[← hn] at h hcap ⊢;replace h:=HD h;have hn':=HD hn;by_cases h16:16 < n
 ·have e:=HD (binds_over (names:=names) (methods:=methods) (by omega:16 < B.length));have h16':decide ((n:Int) > 16)=true:=by simp;omega
  clear hn;go_enter Tryz.func109,Tryz.ntmps109
  go_wp2
  go_ret;exact⟨congrArg (fun b=>Ending.returned (Value.bool b)) e.out.symm,Below.refl _ _⟩
 have h16':decide ((n:Int) > 16)=false:=by simp;omega
 have hst:Hid (BdR B names methods 0):=HD (BdR.start B names methods);clear hmx hn;go_enter Tryz.func109,Tryz.ntmps109
 go_wp2
 go_loopw [14] (fun i14 wr=>∃ (k:Nat),k≤n∧i14=.int .i64 k∧Hid (BdR B names methods k)∧Hid (Below w.heap.size w wr)) (fun i14 _=>n - (intOf i14).toNat)
 case atStart=>exact⟨0,by omega,rfl,hst,HD (Below.refl _ _)⟩
 case round =>
  obtain⟨k,hk,rfl,hR,hB⟩:=hrel;by_cases hlt:k < n
  ·have hlt':decide ((k:Int) < (n:Int))=true:=by simp;omega
   have p0:(0:Int)≤(k:Int):=by omega
   have p1:(k:Int) < (n:Int):=by omega
   have p2:(k:Int)≤(cap:Int):=by omega
   obtain⟨b,hb⟩:∃ b,B[k]?=some b:=⟨B[k]'(by have:=hn'.out;omega),by simp⟩
   obtain⟨⟨s0,s1⟩,⟨m0,m1⟩,g,off,rfl,c0,c1⟩:=(h.out.up hB.out).at hb;have hb':=HD hb;clear hb;obtain⟨bs,bm⟩:=b;simp only at s0 s1 m0 m1 c0 c1;have hs0:=hB.out.size;have hB':=HD (hB.out.alloc hs0 (.cells #[.int .i64 bs,.int .i64 bm] 66));by_cases q0:bs < 0
   ·have e:=HD (bind_bad hb'.out (bindOk_not (Or.inl q0):bindOk names methods (bs,bm)=false));have q0':decide (bs < 0)=true:=by simpa using q0
    go_wp2
    go_big_quiet (fail)
    go_wp2
    go_ret;exact⟨congrArg (fun b=>Ending.returned (Value.bool b)) e.out.symm,hB'.out.trans ((drewK _ _).mono hB'.out.size)⟩
   have q0':decide (bs < 0)=false:=by simpa using q0
   by_cases q1:names≤bs
   ·have e:=HD (bind_bad hb'.out (bindOk_not (Or.inr (Or.inl q1)):bindOk names methods (bs,bm)=false));have q1':decide (bs ≥ names)=true:=by simpa using q1
    go_wp2
    go_big_quiet (fail)
    go_wp2
    go_ret;exact⟨congrArg (fun b=>Ending.returned (Value.bool b)) e.out.symm,hB'.out.trans ((drewK _ _).mono hB'.out.size)⟩
   have q1':decide (bs ≥ names)=false:=by simpa using q1
   by_cases q2:bm < 0
   ·have e:=HD (bind_bad hb'.out (bindOk_not (Or.inr (Or.inr (Or.inl q2))):bindOk names methods (bs,bm)=false));have q2':decide (bm < 0)=true:=by simpa using q2
    go_wp2
    go_big_quiet (fail)
    go_wp2
    go_ret;exact⟨congrArg (fun b=>Ending.returned (Value.bool b)) e.out.symm,hB'.out.trans ((drewK _ _).mono hB'.out.size)⟩
   have q2':decide (bm < 0)=false:=by simpa using q2
   by_cases q3:methods≤bm
   ·have e:=HD (bind_bad hb'.out (bindOk_not (Or.inr (Or.inr (Or.inr q3))):bindOk names methods (bs,bm)=false));have q3':decide (bm ≥ methods)=true:=by simpa using q3
    go_wp2
    go_big_quiet (fail)
    go_wp2
    go_ret;exact⟨congrArg (fun b=>Ending.returned (Value.bool b)) e.out.symm,hB'.out.trans ((drewK _ _).mono hB'.out.size)⟩
   have q3':decide (bm ≥ methods)=false:=by simpa using q3
   have hok:=HD (bindOk_of (b:=(bs,bm)) (by omega) (by omega) (by omega) (by omega):bindOk names methods (bs,bm)=true);have h':=HD ((h.out.up hB'.out).take k (by have:=hn'.out;omega));have hs64:Hid (In64 bs):=HD ⟨s0,s1⟩;clear hs0;cases ha:(B.take k).any (fun x=>decide (x.1=bs)) with
   | true =>
    obtain⟨j,x,hj,hx,ex⟩:=take_any ha;have e:=HD (bind_twice (names:=names) (methods:=methods) hb'.out hx hj ex);have ha':=HD ha;clear hx ex ha
    go_wp2
    go_region_with (first | (go_at_call 123;(with_reducible refine (kbindsname (h'.out.up ((Below.refl _ _).drew)) bs hs64.out).mono ?_);rintro e1 w2 ⟨he1,hw2⟩;rw[ha'.out] at he1;subst he1;have hq:Below (wr.alloc (.cells #[.int .i64 bs,.int .i64 bm] 66)).heap.size (wr.alloc (.cells #[.int .i64 bs,.int .i64 bm] 66)) w2:=((Below.refl _ _).drew).trans hw2;have hB2:=HD (hB'.out.trans (hq.mono hB'.out.size));clear hw2 hq))
    go_wp2
    go_ret;exact⟨congrArg (fun b=>Ending.returned (Value.bool b)) e.out.symm,hB2.out⟩
   | false =>
    have hR':=HD (hR.out.step hb'.out hok.out (take_none ha));have ha':=HD ha;clear ha
    go_wp2
    go_region_with (first | (go_at_call 123;(with_reducible refine (kbindsname (h'.out.up ((Below.refl _ _).drew)) bs hs64.out).mono ?_);rintro e1 w2 ⟨he1,hw2⟩;rw[ha'.out] at he1;subst he1;have hq:Below (wr.alloc (.cells #[.int .i64 bs,.int .i64 bm] 66)).heap.size (wr.alloc (.cells #[.int .i64 bs,.int .i64 bm] 66)) w2:=((Below.refl _ _).drew).trans hw2;have hB2:=HD (hB'.out.trans (hq.mono hB'.out.size));clear hw2 hq))
    go_wp2
    go_roundw
    case rel=>exact⟨k+1,by omega,by go_num,hR',hB2⟩
    case measure=>simp[intOf];omega
  ·have hlt':decide ((k:Int) < (n:Int))=false:=by simp;omega
   have hR':BdR B names methods B.length:=by have:=hR.out;rw[show k=B.length by have:=hn'.out;omega] at this;exact this
   have e:=hR'.last;rw[decide_eq_true (show B.length≤16 by have:=hn'.out;omega)] at e;replace e:=HD e;clear hR'
   go_wp2
   go_ret;exact⟨congrArg (fun b=>Ending.returned (Value.bool b)) e.out.symm,hB.out⟩
theorem name_of {A:List ClassA} {nm:ByteArray} (h:nameR A nm=true):textOk nm=true∧∀ x∈A,x.nm≠nm:=by
 unfold nameR at h;rw[Bool.and_eq_true] at h;refine⟨h.1,fun x hx e=>?_⟩;have:A.any (fun x=>decide (x.nm=nm))=true:=List.any_eq_true.2 ⟨x,hx,by simpa using e⟩;rw[this] at h;exact absurd h.2 (by decide)
theorem ShR.nm {L:List ClassA} {names methods:Int} {k:Nat} {c:ClassA} (h:ShR L names methods k) (hc:L[k]?=some c) (e:nameR (L.take k) c.nm=false):shapeR L names methods=13:=by
 rw[h.eq,drop_next hc,shapeFrom];by_cases ht:textOk c.nm=false
 ·rw[if_pos ht]
 ·rw[if_neg ht];have:(L.take k).any (fun x=>decide (x.nm=c.nm))=true:=by
   unfold nameR at e;have ht':textOk c.nm=true:=by simpa using ht
   rw[ht',Bool.true_and] at e;simpa using e
  rw[if_pos this]
set_option maxHeartbeats 16000000 in
theorem kright {w:World} {v:Value} {L:List ClassA} (h:ClV w v L) (names methods:Int) (hn:In64 names) (hm:In64 methods) :
  Calls Tryz.prog 90 #[v,.int .i64 names,.int .i64 methods] w fun e w'=>e=.returned (.int .i64 (shapeR L names methods))∧Below w.heap.size w w':=by
 obtain⟨ad,cap,rfl,hcap,hmx⟩:=h.form;obtain⟨n,hnn⟩:∃ n,n=L.length:=⟨_,rfl⟩
 rw[← hnn] at h hcap ⊢;replace h:=HD h;have hn':=HD hnn;by_cases q0:n < 2
 ·have e:=HD (shape_short (names:=names) (methods:=methods) (Or.inl (by omega:L.length < 2)));have q0':decide ((n:Int) < 2)=true:=by simp;omega
  go_enter Tryz.func90,Tryz.ntmps90
  go_wp2
  go_ret;exact⟨congrArg (fun b=>Ending.returned (Value.int .i64 b)) e.out.symm,Below.refl _ _⟩
 have q0':decide ((n:Int) < 2)=false:=by simp;omega
 by_cases q1:12 < n
 ·have e:=HD (shape_short (names:=names) (methods:=methods) (Or.inr (by omega:12 < L.length)));have q1':decide ((n:Int) > 12)=true:=by simp;omega
  go_enter Tryz.func90,Tryz.ntmps90
  go_wp2
  go_ret;exact⟨congrArg (fun b=>Ending.returned (Value.int .i64 b)) e.out.symm,Below.refl _ _⟩
 have q1':decide ((n:Int) > 12)=false:=by simp;omega
 have q2':(0:Int) < (n:Int):=by omega
 have q3':(1:Int) < (n:Int):=by omega
 obtain⟨⟨an,sa,af,ab⟩,ha⟩:∃ x,L[0]?=some x:=⟨L[0]'(by omega),by simp⟩
 obtain⟨⟨bn,sb,bf,bb⟩,hb⟩:∃ x,L[1]?=some x:=⟨L[1]'(by omega),by simp⟩
 have hh:=head_at ha hb;obtain⟨_,_,g,off,av,rfl,c0,c1,c2,c3,_⟩:=h.out.at ha;obtain⟨_,_,g',off',bv,eg,d0,d1,d2,d3,_⟩:=h.out.at hb;cases eg;clear hmx;simp only at c0 c1 c2 d0 d1 d2 hh;simp only[Nat.zero_mul,Nat.add_zero] at c0 c1 c2 c3;simp only[Nat.one_mul] at d0 d1 d2 d3;have d0':=HD d0;have d1':=HD d1;have d2':=HD d2;have d3':=HD d3;clear d0 d1 d2 d3;obtain⟨b1,hb1⟩:∃ b,b=(decide (sa=-1) && decide (af=4)):=⟨_,rfl⟩
 obtain⟨b2,hb2⟩:∃ b,b=(decide (sb=-1) && decide (bf=0)):=⟨_,rfl⟩
 have P1:=HD (fun w=>isroot_c an sa af av 4 w b1 hb1);have P2:=HD (fun w=>isroot_c bn sb bf bv 0 w b2 hb2);have hh':headOk L=(b1 && b2):=by
  rw[hh,hb1,hb2];cases decide (sa=-1) <;> cases decide (af=4) <;> cases decide (sb=-1) <;> cases decide (bf=0) <;> rfl
 clear hb1 hb2 hh;cases b1 with
 | false =>
  have e:=HD (shape_head (L:=L) (names:=names) (methods:=methods) (by omega) (by omega) (by rw[hh'];rfl));clear hh' hnn ha hb;go_enter Tryz.func90,Tryz.ntmps90
  go_wp2_with (first | (go_at_call 106;((with_reducible refine (P1.out _).mono ?_);rintro e1 w2 ⟨rfl,hw2⟩)))
  go_ret;exact⟨congrArg (fun b=>Ending.returned (Value.int .i64 b)) e.out.symm,hw2⟩
 | true =>
 cases b2 with
 | false =>
  have e:=HD (shape_head (L:=L) (names:=names) (methods:=methods) (by omega) (by omega) (by rw[hh'];rfl));clear hh' hnn ha hb;go_enter Tryz.func90,Tryz.ntmps90
  go_wp2_with (first | (go_at_call 106;first | ((with_reducible refine (P1.out _).mono ?_);rintro e1 w2 ⟨rfl,hw2⟩;have d0:=cell_up hw2 d0'.out;have d1:=cell_up hw2 d1'.out;have d2:=cell_up hw2 d2'.out;have d3:=cell_up hw2 d3'.out;have d1b:w2.cell? ⟨g,off+5,none⟩=some (.int .i64 sb):=d1;have d2b:w2.cell? ⟨g,off+6,none⟩=some (.int .i64 bf):=d2;have d3b:w2.cell? ⟨g,off+7,none⟩=some bv:=d3) | ((with_reducible refine (P2.out _).mono ?_);rintro e1 w3 ⟨rfl,hw3⟩)))
  go_ret;exact⟨congrArg (fun b=>Ending.returned (Value.int .i64 b)) e.out.symm,hw2.trans (hw3.mono hw2.size)⟩
 | true =>
 have hst:Hid (ShR L names methods 0):=HD (ShR.start (by omega) (by omega) (by rw[hh'];rfl));have hn12:n≤12:=by omega
 clear hh' hnn ha hb;go_enter Tryz.func90,Tryz.ntmps90
 go_wp2_with (first | (go_at_call 106;first | ((with_reducible refine (P1.out _).mono ?_);rintro e1 w2 ⟨rfl,hw2⟩;have d0:=cell_up hw2 d0'.out;have d1:=cell_up hw2 d1'.out;have d2:=cell_up hw2 d2'.out;have d3:=cell_up hw2 d3'.out;have d1b:w2.cell? ⟨g,off+5,none⟩=some (.int .i64 sb):=d1;have d2b:w2.cell? ⟨g,off+6,none⟩=some (.int .i64 bf):=d2;have d3b:w2.cell? ⟨g,off+7,none⟩=some bv:=d3) | ((with_reducible refine (P2.out _).mono ?_);rintro e1 w3 ⟨rfl,hw3⟩;have hB0:=HD (hw2.trans (hw3.mono hw2.size));clear hw2 hw3)))
 clear c0 c1 c2 c3 d0 d1 d2 d3 d1b d2b d3b d0' d1' d2' d3' P1 P2
 go_loopw [31] (fun i31 wr=>∃ (k:Nat),k≤n∧i31=.int .i64 k∧Hid (ShR L names methods k)∧Hid (Below w.heap.size w wr)) (fun i31 _=>n - (intOf i31).toNat)
 case atStart=>exact⟨0,by omega,rfl,hst,hB0⟩
 case round =>
  clear hB0 hst;obtain⟨k,hk,rfl,hR,hB⟩:=hrel;by_cases hlt:k < n
  ·have hlt':decide ((k:Int) < (n:Int))=true:=by simp;omega
   have p0:(0:Int)≤(k:Int):=by omega
   have p1:(k:Int) < (n:Int):=by omega
   have p2:(k:Int)≤(cap:Int):=by omega
   obtain⟨⟨nm,s,fl,bds⟩,hc⟩:∃ x,L[k]?=some x:=⟨L[k]'(by have:=hn'.out;omega),by simp⟩
   obtain⟨s64,f64,g',off',bv,eg,c0,c1,c2,c3,hbv⟩:=(h.out.up hB.out).at hc;cases eg;obtain⟨ba,bc,rfl,_⟩:=hbv.form;simp only at s64 f64 c0 c1 c2 c3 hbv;have hc':=HD hc;have hs0:=hB.out.size;have hB1:=HD (hB.out.alloc hs0 (.cells #[.string nm,.int .i64 s,.int .i64 fl,.slice ba bds.length bc] 60));have hbv':=HD (hbv.up ((Below.refl wr.heap.size wr).alloc (Nat.le_refl _) (.cells #[.string nm,.int .i64 s,.int .i64 fl,.slice ba bds.length bc] 60)));have hA:=HD ((h.out.up hB1.out).take k (by have:=hn'.out;omega));have k0:Hid ((wr.alloc (.cells #[.string nm,.int .i64 s,.int .i64 fl,.slice ba bds.length bc] 60)).cell? ⟨wr.heap.size,0,none⟩=some (.string nm)):=HD (by simp);have k1:Hid ((wr.alloc (.cells #[.string nm,.int .i64 s,.int .i64 fl,.slice ba bds.length bc] 60)).cell? ⟨wr.heap.size,1,none⟩=some (.int .i64 s)):=HD (by simp);have k2:Hid ((wr.alloc (.cells #[.string nm,.int .i64 s,.int .i64 fl,.slice ba bds.length bc] 60)).cell? ⟨wr.heap.size,2,none⟩=some (.int .i64 fl)):=HD (by simp);have k3:Hid ((wr.alloc (.cells #[.string nm,.int .i64 s,.int .i64 fl,.slice ba bds.length bc] 60)).cell? ⟨wr.heap.size,3,none⟩=some (.slice ba bds.length bc)):=HD (by simp);have eS:=HD (sup_eq (c:=⟨nm,s,fl,bds⟩) hR.out.down (by have:=hn'.out;omega:k≤L.length));simp only at eS;have hs64:=HD s64;have hf64:=HD f64;clear hbv hc hs0 s64 f64;generalize bds.length=bm at *
   go_upto_region 8 with fail
   clear c0 c1 c2 c3;generalize wr.alloc (.cells #[.string nm,.int .i64 s,.int .i64 fl,.slice ba bm bc] 60)=w1 at *;generalize wr.heap.size=B8 at *;have c0:=k0.out;cases hN:nameR (L.take k) nm with
   | false =>
    have e:=HD (hR.out.nm hc'.out hN);have hN':=HD hN;clear hN
    go_region_with (first | (go_at_call 107;(with_reducible refine (kname (hA.out.up ((Below.refl _ _).drew)) nm).mono ?_);rintro e1 w2 ⟨he1,hw2⟩;rw[hN'.out] at he1;subst he1;have hq:Below w1.heap.size w1 w2:=((Below.refl _ _).drew).trans hw2;have hB2:=HD (hB1.out.trans (hq.mono hB1.out.size));clear hw2 hq))
    go_wp2
    go_ret;exact⟨congrArg (fun b=>Ending.returned (Value.int .i64 b)) e.out.symm,hB2.out⟩
   | true =>
    obtain⟨ht,hna⟩:=name_of hN;have ht':=HD ht;have hna':=HD hna;have hN':=HD hN;clear hN ht hna
    go_region_with (first | (go_at_call 107;(with_reducible refine (kname (hA.out.up ((Below.refl _ _).drew)) nm).mono ?_);rintro e1 w2 ⟨he1,hw2⟩;rw[hN'.out] at he1;subst he1;have hq:Below w1.heap.size w1 w2:=((Below.refl _ _).drew).trans hw2;have hB2:=HD (hB1.out.trans (hq.mono hB1.out.size));have m0:=cell_up hq k0.out;have m1:=cell_up hq k1.out;have m2:=cell_up hq k2.out;have m3:=cell_up hq k3.out;have m3':=HD m3;have hA2:=HD (hA.out.up hq);have hbv2:=HD (hbv'.out.up hq);clear hw2 hq))
    clear hA hbv' hB1 k0 k1 k2 k3 c0
    go_upto_region 10 with fail
    have hKS:=HD (fun w' (b:Below w2.heap.size w2 w')=>ksuper (hA2.out.up b) nm s fl (.slice ba bm bc) hs64.out hf64.out);cases hC:classOk L k ⟨nm,s,fl,bds⟩ with
    | false =>
     have e:=HD (hR.out.cls hc'.out ht'.out hna'.out hC);have hC':=HD (eS.out.symm.trans hC);clear hC
     go_region_with (first | (go_at_call 108;(with_reducible refine (hKS.out _ (Below.refl _ _).drew).mono ?_);rintro e1 w3 ⟨he1,hw3⟩;rw[hC'.out] at he1;subst he1;have hq:Below w2.heap.size w2 w3:=((Below.refl _ _).drew).trans hw3;have hB3:=HD (hB2.out.trans (hq.mono hB2.out.size));clear hw3 hq))
     go_wp2
     go_ret;exact⟨congrArg (fun b=>Ending.returned (Value.int .i64 b)) e.out.symm,hB3.out⟩
    | true =>
     have hC':=HD (eS.out.symm.trans hC);have hC2:=HD hC;clear hC
     go_region_with (first | (go_at_call 108;(with_reducible refine (hKS.out _ (Below.refl _ _).drew).mono ?_);rintro e1 w3 ⟨he1,hw3⟩;rw[hC'.out] at he1;subst he1;have hq:Below w2.heap.size w2 w3:=((Below.refl _ _).drew).trans hw3;have hB3:=HD (hB2.out.trans (hq.mono hB2.out.size));have n3:=cell_up hq m3'.out;have hbv3:=HD (hbv2.out.up hq);clear hw3 hq))
     clear m0 m1 m2 m3 m3' hA2 hbv2 hKS hB2;have PB:=HD (kbinds hbv3.out names methods hn hm);cases hb:bindsOk bds names methods with
     | false =>
      have e:=HD (hR.out.bnd hc'.out ht'.out hna'.out hC2.out hb);rw[hb] at PB;clear hb
      go_wp2_with (first | (go_at_call 109;((with_reducible refine PB.out.mono ?_);rintro e1 w4 ⟨rfl,hw4⟩)))
      go_ret;exact⟨congrArg (fun b=>Ending.returned (Value.int .i64 b)) e.out.symm,hB3.out.trans (hw4.mono hB3.out.size)⟩
     | true =>
      have hR':=HD (hR.out.step hc'.out ht'.out hna'.out hC2.out hb);rw[hb] at PB;clear hb
      go_wp2_with (first | (go_at_call 109;((with_reducible refine PB.out.mono ?_);rintro e1 w4 ⟨rfl,hw4⟩)))
      go_roundw
      case rel=>exact⟨k+1,by omega,by go_num,hR',HD (hB3.out.trans (hw4.mono hB3.out.size))⟩
      case measure=>simp[intOf];omega
  ·have hlt':decide ((k:Int) < (n:Int))=false:=by simp;omega
   have e:Hid (shapeR L names methods=0):=HD (ShR.last (by have:=hR.out;rw[show k=L.length by have:=hn'.out;omega] at this;exact this))
   go_wp2
   go_ret;exact⟨congrArg (fun b=>Ending.returned (Value.int .i64 b)) e.out.symm,hB.out⟩
structure DA (w:World) (p:Nat) (D:Dst) (F:Nat→Prop):Prop where
 ref:RefD w p D
 low:∀ k,k < 16→-1≤selA D k
 own:∀ k,F k↔k=p
theorem chF {F:Nat→Prop} {p:Nat} (h:∀ k,F k↔k=p) {w w':World} (c:Ch (fun k=>k=p) w w'):Ch F w w' :=
 ⟨c.os,c.tape,c.output,c.size,fun k hk hF=>c.block k hk (fun e=>hF ((h k).2 e))⟩
theorem plc_first {sel:Int} (h:0≤sel):∃ r:Nat,r < 16∧Int.tmod sel 16=(r:Int)∧Int.tmod ((r:Int)*7) 16=((plc sel 0:Nat):Int):=by
 obtain⟨r,hr,e1,e2⟩:=plc_int h 0;exact⟨r,hr,e1,by simpa using e2⟩
theorem plc_step (sel:Int) (k:Nat):Int.tmod (((plc sel 0:Nat):Int)+(k:Int)) 16=((plc sel k:Nat):Int):=by
 have e:(((plc sel 0:Nat):Int)+(k:Int))=((plc sel 0+k:Nat):Int):=by push_cast;rfl
 rw[e];show Int.tmod _ ((16:Nat):Int)=_;rw[← Int.ofNat_tmod]
 congr 1
 unfold plc;omega
def prF (D:Dst) (sel:Int):Nat→Nat→Int × Int
 | 0,_=>(-1,4)
 | f+1,k=>if selA D (plc sel k)=sel∨selA D (plc sel k)=-1 then (((plc sel k:Nat):Int),(k:Int)+1) else prF D sel f (k+1)
def prD (D:Dst) (sel:Int):Int × Int:=if sel < 0 then (-1,0) else prF D sel 4 0
theorem pr_neg {D:Dst} {sel:Int} (h:sel < 0):prD D sel=(-1,0):=if_pos h
theorem pr_pos {D:Dst} {sel:Int} (h:0≤sel):prD D sel=prF D sel 4 0:=if_neg (by omega)
theorem prF_has {D:Dst} {sel:Int} {k:Nat} (hk:k < 4) (h:selA D (plc sel k)=sel∨selA D (plc sel k)=-1):prF D sel (4 - k) k=(((plc sel k:Nat):Int),(k:Int)+1):=by
 rw[show 4 - k=(3 - k)+1 by omega,prF,if_pos h]
theorem prF_next {D:Dst} {sel:Int} {k:Nat} (hk:k < 4) (h:¬ (selA D (plc sel k)=sel∨selA D (plc sel k)=-1)):prF D sel (4 - k) k=prF D sel (4 - (k+1)) (k+1):=by
 rw[show 4 - k=(4 - (k+1))+1 by omega,prF,if_neg h]
def Pr (D:Dst) (sel:Int) (x:Int × Int) (y:Option Nat) (z:Int × Int):Prop :=
 (x.1=-1∧y=none∧z=(-1,x.2))∨(∃ i:Nat,i < 16∧x.1=(i:Int)∧y=some i∧((selA D i=-1∧z=(-1,x.2))∨(selA D i=sel∧0≤sel∧z=(metA D i,x.2))))
theorem pr_f {D:Dst} (hl:∀ k,k < 16→-1≤selA D k) {sel:Int} (h:0≤sel):∀ f k,Pr D sel (prF D sel f k) (putF D sel f k) (findF D sel f k)
 | 0,k=>Or.inl ⟨rfl,rfl,rfl⟩
 | f+1,k=>by
  have hp:=plc_lt sel k;have hm:=hl _ hp;unfold prF putF findF;by_cases h1:selA D (plc sel k)=sel
  ·rw[if_pos (Or.inl h1),if_pos (Or.inl h1),if_pos h1];exact Or.inr ⟨plc sel k,hp,rfl,rfl,Or.inr ⟨h1,h,rfl⟩⟩
  ·by_cases h2:selA D (plc sel k)=-1
   ·rw[if_pos (Or.inr h2),if_pos (Or.inr (by omega)),if_neg h1,if_pos (by omega)];exact Or.inr ⟨plc sel k,hp,rfl,rfl,Or.inl ⟨h2,rfl⟩⟩
   ·rw[if_neg (by omega),if_neg (by omega),if_neg h1,if_neg (by omega)];exact pr_f hl h f (k+1)
theorem pr_d {D:Dst} (hl:∀ k,k < 16→-1≤selA D k) (sel:Int):Pr D sel (prD D sel) (putP D sel) (findD D sel):=by
 by_cases h:sel < 0
 ·rw[pr_neg h,put_neg h,find_neg h];exact Or.inl ⟨rfl,rfl,rfl⟩
 ·rw[pr_pos (by omega),put_pos (by omega),find_pos (by omega)];exact pr_f hl (by omega) 4 0
set_option maxHeartbeats 4000000 in
theorem first_c (w:World) {sel:Int} (hs:I64 sel) (h:0≤sel) :
  Calls Tryz.prog 130 #[.int .i64 sel] w fun e w'=>e=.returned (.int .i64 (plc sel 0:Nat))∧w'=w:=by
 obtain⟨r,hr,e1,e2⟩:=plc_first h;have w1:IntKind.i64.wrap ((r:Int)*7)=(r:Int)*7:=by rw[IntKind.wrap_i64];omega
 go_enter Tryz.func130,Tryz.ntmps130
 go_wp2
 go_ret;exact⟨rfl,rfl⟩
set_option maxHeartbeats 8000000 in
theorem probe_c {w:World} {b:Nat} {D:Dst} (h:RefD w b D) (sel:Int) (hs:I64 sel) :
  Calls Tryz.prog 124 #[.pointer (some ⟨b,0,none⟩),.int .i64 sel] w fun e w'=>e=.returned (.tuple #[.int .i64 (prD D sel).1,.int .i64 (prD D sel).2])∧w'=w:=by
 replace h:=HD h;have hs':=HD hs;obtain⟨s0,s1⟩:=hs;by_cases hn:sel < 0
 ·have d2:decide (sel < 0)=true:=by simpa using hn
  have e:=HD (pr_neg (D:=D) hn);go_enter Tryz.func124,Tryz.ntmps124
  go_wp2
  go_ret2
  exact⟨by rw[e.out];rfl,rfl⟩
 ·have d2:decide (sel < 0)=false:=by simpa using hn
  have h0:0≤sel:=by omega
  have hst:Hid (prD D sel=prF D sel (4 - 0) 0):=HD (pr_pos h0);go_enter Tryz.func124,Tryz.ntmps124
  go_wp2_with (first | (go_at_call 130;((with_reducible refine (first_c _ hs'.out h0).mono ?_);rintro e1 w1 ⟨rfl,rfl⟩)))
  go_loopw [13] (fun i13 wr=>∃ k:Nat,k≤4∧i13=.int .i64 k∧Hid (prD D sel=prF D sel (4 - k) k)∧wr=w1) (fun i13 _=>4 - (intOf i13).toNat)
  case atStart=>exact⟨0,by omega,rfl,hst,rfl⟩
  case round =>
   clear hst;obtain⟨k,hk,rfl,hF,rfl⟩:=hrel;by_cases hlt:k < 4
   ·have hlt':decide ((k:Int) < 4)=true:=by simp;omega
    have e2:=plc_step sel k;have hi:=plc_lt sel k;have hj:=plc_lt sel 0;have y1:=HD (prF_has (D:=D) (sel:=sel) hlt);have y3:=HD (prF_next (D:=D) (sel:=sel) hlt);generalize plc sel 0=j at *;generalize plc sel k=i at *;have i0:(0:Int)≤(i:Int):=by omega
    have i1:(i:Int) < 16:=by omega
    have c1:=h.out.cs i hi;have w2:IntKind.i64.wrap ((j:Int)+(k:Int))=(j:Int)+(k:Int):=by rw[IntKind.wrap_i64];omega
    obtain⟨x,hx⟩:∃ x,x=selA D i:=⟨_,rfl⟩
    rw[← hx] at c1 y1 y3;by_cases he:x=sel
    ·have he':(x == sel)=true:=by simpa using he
     have e:=HD (hF.out.trans (y1.out (Or.inl he)));clear he hx
     go_wp2
     go_ret2
     exact⟨by rw[e.out];rfl,rfl⟩
    ·have he':(x == sel)=false:=by simpa using he
     by_cases hx0:x=-1
     ·have hx':(x == -1)=true:=by simpa using hx0
      have e:=HD (hF.out.trans (y1.out (Or.inr hx0)));clear he hx0 hx
      go_wp2
      go_ret2
      exact⟨by rw[e.out];rfl,rfl⟩
     ·have hx':(x == -1)=false:=by simpa using hx0
      have e:=HD (hF.out.trans (y3.out (by omega)));clear he hx0 hx
      go_wp2
      go_roundw
      case rel=>exact⟨k+1,by omega,by go_num,e,trivial⟩
      case measure=>simp[intOf];omega
   ·have hlt':decide ((k:Int) < 4)=false:=by simp;omega
    have e:=hF.out;rw[show 4 - k=0 by omega,prF] at e;replace e:=HD e
    go_wp2
    go_ret2
    exact⟨by rw[e.out];rfl,rfl⟩
end Wd
end Go.Proofs.YtgfnelhbdhbklaaGreat
namespace Go.Proofs.YtgfnelhbdhbklaaGreat
open Go.RowKit
set_option linter.unusedVariables false
set_option maxRecDepth 20000
namespace Wd
set_option maxHeartbeats 8000000 in
theorem dput_c {w:World} {b:Nat} {D:Dst} {F:Nat→Prop} (h:DA w b D F) (sel met:Int) (hs:I64 sel) (hm:I64 met) :
  Calls Tryz.prog 111 #[.pointer (some ⟨b,0,none⟩),.int .i64 sel,.int .i64 met] w fun e w'=>∃ F',e=.returned (.bool (putB D sel))∧DA w' b (putD D sel met) F'∧Ch F w w'∧Newer F F' w.heap.size:=by
 have hP:=pr_d h.low sel;have PP:=HD (probe_c h.ref sel hs);replace h:=HD h;have hm':=HD hm;have hs':=HD hs;generalize prD D sel=X at hP PP;obtain⟨xa,xl⟩:=X;rcases hP with ⟨h1,h2,-⟩ | ⟨i,hi,h1,h2,h3⟩
 ·simp only at h1;subst h1;have e:=HD (put_n (met:=met) h2);go_enter Tryz.func111,Tryz.ntmps111
  go_wp2_with (first | (go_at_call 124;((with_reducible refine PP.out.mono ?_);rintro e1 w1 ⟨rfl,rfl⟩)))
  go_ret;exact⟨F,by rw[e.out.1];rfl,by rw[e.out.2];exact h.out,Ch.refl _ _,fun k hk=>Or.inl hk⟩
 ·simp only at h1;subst h1;have e:=HD (put_y (met:=met) h2);have hsel:-1≤sel:=by
   unfold putP at h2
   split at h2
   ·cases h2
   ·omega
  have hB:Hid (DA ((w.setCell ⟨b,i,none⟩ (.int .i64 sel)).setCell ⟨b,16+i,none⟩ (.int .i64 met)) b (D.set i (sel,met)) F):=HD ⟨h.out.ref.both hi hs'.out hm'.out,fun k hk=>by
   rw[sel_set h.out.ref.len hi]
   split
   ·exact hsel
   ·exact h.out.low k hk,h.out.own⟩
  have i0:(0:Int)≤(i:Int):=by omega
  have i1:(i:Int) < 16:=by omega
  have c1:=h.out.ref.cs i hi;have c2:=h.out.ref.cm i hi;have z1:=h.out.ref.z i;have z2:=h.out.ref.z (16+i);have ne:((i:Int) == -1)=false:=by simp
  clear h2 h3;go_enter Tryz.func111,Tryz.ntmps111
  go_wp2_with (first | (go_at_call 124;((with_reducible refine PP.out.mono ?_);rintro e1 w1 ⟨rfl,rfl⟩)))
  go_region
  all_goals go_wp2
  all_goals go_ret
  all_goals exact⟨F,by rw[e.out.1];rfl,by rw[e.out.2];exact⟨hB.out.ref.same rfl,hB.out.low,hB.out.own⟩,chF h.out.own (two_ch _ b i (.int .i64 sel) (.int .i64 met)),fun k hk=>Or.inl hk⟩
end Wd
end Go.Proofs.YtgfnelhbdhbklaaGreat
namespace Go.Proofs.YtgfnelhbdhbklaaGreat
open Go.RowKit
set_option linter.unusedVariables false
set_option maxRecDepth 20000
namespace Wd
theorem dzero (w:World):RefD (w.alloc (.cells #[.int .i64 0,.int .i64 0,.int .i64 0,.int .i64 0,.int .i64 0,.int .i64 0,.int .i64 0,.int .i64 0,.int .i64 0,.int .i64 0,.int .i64 0,.int .i64 0,.int .i64 0,.int .i64 0,.int .i64 0,.int .i64 0,.int .i64 0,.int .i64 0,.int .i64 0,.int .i64 0,.int .i64 0,.int .i64 0,.int .i64 0,.int .i64 0,.int .i64 0,.int .i64 0,.int .i64 0,.int .i64 0,.int .i64 0,.int .i64 0,.int .i64 0,.int .i64 0] 157)) w.heap.size (DK 0):=by
 have hh:(w.alloc (.cells #[.int .i64 0,.int .i64 0,.int .i64 0,.int .i64 0,.int .i64 0,.int .i64 0,.int .i64 0,.int .i64 0,.int .i64 0,.int .i64 0,.int .i64 0,.int .i64 0,.int .i64 0,.int .i64 0,.int .i64 0,.int .i64 0,.int .i64 0,.int .i64 0,.int .i64 0,.int .i64 0,.int .i64 0,.int .i64 0,.int .i64 0,.int .i64 0,.int .i64 0,.int .i64 0,.int .i64 0,.int .i64 0,.int .i64 0,.int .i64 0,.int .i64 0,.int .i64 0] 157)).heap[w.heap.size]?=some (.cells #[.int .i64 0,.int .i64 0,.int .i64 0,.int .i64 0,.int .i64 0,.int .i64 0,.int .i64 0,.int .i64 0,.int .i64 0,.int .i64 0,.int .i64 0,.int .i64 0,.int .i64 0,.int .i64 0,.int .i64 0,.int .i64 0,.int .i64 0,.int .i64 0,.int .i64 0,.int .i64 0,.int .i64 0,.int .i64 0,.int .i64 0,.int .i64 0,.int .i64 0,.int .i64 0,.int .i64 0,.int .i64 0,.int .i64 0,.int .i64 0,.int .i64 0,.int .i64 0] 157 (0,0)):=heap_alloc_new _ _;generalize w.alloc (.cells #[.int .i64 0,.int .i64 0,.int .i64 0,.int .i64 0,.int .i64 0,.int .i64 0,.int .i64 0,.int .i64 0,.int .i64 0,.int .i64 0,.int .i64 0,.int .i64 0,.int .i64 0,.int .i64 0,.int .i64 0,.int .i64 0,.int .i64 0,.int .i64 0,.int .i64 0,.int .i64 0,.int .i64 0,.int .i64 0,.int .i64 0,.int .i64 0,.int .i64 0,.int .i64 0,.int .i64 0,.int .i64 0,.int .i64 0,.int .i64 0,.int .i64 0,.int .i64 0] 157)=W at hh ⊢;generalize w.heap.size=b at hh ⊢;have hs:∀ k,k < 16→selA (DK 0) k=0:=fun k hk=>by rcases (show k=0∨k=1∨k=2∨k=3∨k=4∨k=5∨k=6∨k=7∨k=8∨k=9∨k=10∨k=11∨k=12∨k=13∨k=14∨k=15 by omega) with rfl | rfl | rfl | rfl | rfl | rfl | rfl | rfl | rfl | rfl | rfl | rfl | rfl | rfl | rfl | rfl <;> rfl
 have hm:∀ k,k < 16→metA (DK 0) k=0:=fun k hk=>by rcases (show k=0∨k=1∨k=2∨k=3∨k=4∨k=5∨k=6∨k=7∨k=8∨k=9∨k=10∨k=11∨k=12∨k=13∨k=14∨k=15 by omega) with rfl | rfl | rfl | rfl | rfl | rfl | rfl | rfl | rfl | rfl | rfl | rfl | rfl | rfl | rfl | rfl <;> rfl
 refine⟨rfl,fun k hk=>by rw[hs k hk];constructor <;> omega,fun k hk=>by rw[hm k hk];constructor <;> omega,fun k hk=>?_,fun k hk=>?_,fun k=>by simp[World.frozen?,hh]⟩
 ·rw[hs k hk];rcases (show k=0∨k=1∨k=2∨k=3∨k=4∨k=5∨k=6∨k=7∨k=8∨k=9∨k=10∨k=11∨k=12∨k=13∨k=14∨k=15 by omega) with rfl | rfl | rfl | rfl | rfl | rfl | rfl | rfl | rfl | rfl | rfl | rfl | rfl | rfl | rfl | rfl <;> simp[World.cell?,hh]
 ·rw[hm k hk];rcases (show k=0∨k=1∨k=2∨k=3∨k=4∨k=5∨k=6∨k=7∨k=8∨k=9∨k=10∨k=11∨k=12∨k=13∨k=14∨k=15 by omega) with rfl | rfl | rfl | rfl | rfl | rfl | rfl | rfl | rfl | rfl | rfl | rfl | rfl | rfl | rfl | rfl <;> simp[World.cell?,hh]
set_option maxHeartbeats 8000000 in
theorem dnew_c (w:World) :
  Calls Tryz.prog 110 #[] w fun e w'=>∃ b,e=.returned (.pointer (some ⟨b,0,none⟩))∧RefD w' b D0∧w.heap.size≤b∧Below w.heap.size w w':=by
 go_enter Tryz.func110,Tryz.ntmps110
 go_upto_region 2 with fail
 have hR:=HD (dzero w);have hB:=HD ((Below.refl w.heap.size w).alloc (Nat.le_refl _) (.cells #[.int .i64 0,.int .i64 0,.int .i64 0,.int .i64 0,.int .i64 0,.int .i64 0,.int .i64 0,.int .i64 0,.int .i64 0,.int .i64 0,.int .i64 0,.int .i64 0,.int .i64 0,.int .i64 0,.int .i64 0,.int .i64 0,.int .i64 0,.int .i64 0,.int .i64 0,.int .i64 0,.int .i64 0,.int .i64 0,.int .i64 0,.int .i64 0,.int .i64 0,.int .i64 0,.int .i64 0,.int .i64 0,.int .i64 0,.int .i64 0,.int .i64 0,.int .i64 0] 157));generalize w.alloc (.cells #[.int .i64 0,.int .i64 0,.int .i64 0,.int .i64 0,.int .i64 0,.int .i64 0,.int .i64 0,.int .i64 0,.int .i64 0,.int .i64 0,.int .i64 0,.int .i64 0,.int .i64 0,.int .i64 0,.int .i64 0,.int .i64 0,.int .i64 0,.int .i64 0,.int .i64 0,.int .i64 0,.int .i64 0,.int .i64 0,.int .i64 0,.int .i64 0,.int .i64 0,.int .i64 0,.int .i64 0,.int .i64 0,.int .i64 0,.int .i64 0,.int .i64 0,.int .i64 0] 157)=W at *;obtain⟨b,hb⟩:∃ b,w.heap.size=b:=⟨_,rfl⟩
 rw[hb] at hR hB ⊢
 go_wp2
 go_loopw [5] (fun i5 wr=>∃ k:Nat,k≤16∧i5=.int .i64 k∧Hid (RefD wr b (DK k))∧Hid (Below b w wr)) (fun i5 _=>16 - (intOf i5).toNat)
 case atStart=>exact⟨0,by omega,rfl,hR,hB⟩
 case round =>
  clear hR hB;obtain⟨k,hk,rfl,hR,hB⟩:=hrel;by_cases hlt:k < 16
  ·have d1:decide ((k:Int) < 16)=true:=by simp;omega
   have i0:(0:Int)≤(k:Int):=by omega
   have i1:(k:Int) < 16:=by omega
   have c1:=hR.out.cs k hlt;have z1:=hR.out.z k;have h1:=hR.out.set1 hlt (x:=-1) ⟨by omega,by omega⟩;rw[DK_next hlt] at h1;have hR':=HD h1;have hB':Hid (Below b w (wr.setCell ⟨b,k,none⟩ (.int .i64 (-1)))):=HD (hB.out.setCell (p:=⟨b,k,none⟩) (Nat.le_refl _) _);clear h1
   go_wp2
   go_roundw
   case rel=>exact⟨k+1,by omega,by go_num,hR',hB'⟩
   case measure=>simp[intOf];omega
  ·have d1:decide ((k:Int) < 16)=false:=by simp;omega
   have hR':RefD wr b D0:=by rw[← DK_all,← show k=16 by omega];exact hR.out
   go_wp2
   go_ret;exact⟨b,rfl,hR',by rw[hb];exact Nat.le_refl _,by rw[hb];exact hB.out⟩
theorem D0_low:∀ k,k < 16→-1≤selA D0 k:=fun k hk=>by
 rcases (show k=0∨k=1∨k=2∨k=3∨k=4∨k=5∨k=6∨k=7∨k=8∨k=9∨k=10∨k=11∨k=12∨k=13∨k=14∨k=15 by omega) with rfl | rfl | rfl | rfl | rfl | rfl | rfl | rfl | rfl | rfl | rfl | rfl | rfl | rfl | rfl | rfl <;> decide
theorem dnew_d (w:World):Calls Tryz.prog 110 #[] w fun e w'=>∃ b,e=.returned (.pointer (some ⟨b,0,none⟩))∧DA w' b D0 (fun k=>k=b)∧w.heap.size≤b∧Below w.heap.size w w':=by
 refine (dnew_c w).mono ?_;rintro e w' ⟨b,rfl,hR,hb,hB⟩;exact⟨b,rfl,⟨hR,D0_low,fun k=>Iff.rfl⟩,hb,hB⟩
theorem DA.keepF {w w':World} {p:Nat} {D:Dst} {F:Nat→Prop} (h:DA w p D F) (g:∀ k,F k→w'.heap[k]?=w.heap[k]?):DA w' p D F :=
 ⟨h.ref.same (g p ((h.own p).2 rfl)),h.low,h.own⟩
theorem dput_p {w:World} {b:Nat} {D:Dst} (h:DA w b D (fun k=>k=b)) (sel met:Int) (hs:I64 sel) (hm:I64 met) :
  Calls Tryz.prog 111 #[.pointer (some ⟨b,0,none⟩),.int .i64 sel,.int .i64 met] w fun e w'=>e=.returned (.bool (putB D sel))∧DA w' b (putD D sel met) (fun k=>k=b)∧Ch (fun k=>k=b) w w':=by
 refine (dput_c h sel met hs hm).mono ?_;rintro e w' ⟨F',rfl,hd,hc,hn⟩;exact⟨rfl,⟨hd.ref,hd.low,fun k=>Iff.rfl⟩,hc⟩
set_option maxHeartbeats 8000000 in
theorem dof_c {w:World} {v:Value} {B:List (Int × Int)} (h:PrV w v B) :
  Calls Tryz.prog 91 #[v] w fun e w'=>((∃ D b,ofD B D0=some D∧e=.returned (.tuple #[.pointer (some ⟨b,0,none⟩),.bool true])∧DA w' b D (fun k=>k=b)∧w.heap.size≤b)∨(ofD B D0=none∧e=.returned (.tuple #[.pointer none,.bool false])))∧Below w.heap.size w w':=by
 obtain⟨ad,cap,rfl,hcap,hmx⟩:=h.form;obtain⟨n,hn⟩:∃ n,n=B.length:=⟨_,rfl⟩
 rw[← hn] at h hcap ⊢;replace h:=HD h;have hn':=HD hn
 have hnm:n≤9223372036854775807:=by have:maxLen≤9223372036854775807:=by decide
                                    omega
 clear hmx hn;go_enter Tryz.func91,Tryz.ntmps91
 go_upto_region 2 with (first | (go_at_call 110;((with_reducible refine (dnew_d _).mono ?_);rintro e1 w1 ⟨b,rfl,hR,hb,hB⟩)))
 replace hR:=HD hR;replace hB:=HD hB;have hst:Hid (ofD B D0=ofD (B.drop 0) D0):=HD (by simp)
 go_wp2
 go_loopw [10] (fun i10 wr=>∃ (k:Nat) (D:Dst),k≤n∧i10=.int .i64 k∧Hid (DA wr b D (fun k=>k=b))∧Hid (ofD B D0=ofD (B.drop k) D)∧Hid (Below w.heap.size w wr)) (fun i10 _=>n - (intOf i10).toNat)
 case atStart=>exact⟨0,D0,by omega,rfl,hR,hst,hB⟩
 case round =>
  clear hR hst hB;obtain⟨k,D,hk,rfl,hR,hO,hB⟩:=hrel;by_cases hlt:k < n
  ·have d1:decide ((k:Int) < (n:Int))=true:=by simp;omega
   have p0:(0:Int)≤(k:Int):=by omega
   have p1:(k:Int) < (n:Int):=by omega
   obtain⟨⟨bs,bm⟩,hx⟩:∃ x,B[k]?=some x:=⟨B[k]'(by have:=hn'.out;omega),by simp⟩
   obtain⟨s64,m64,g,off,rfl,c0,c1⟩:=(h.out.up hB.out).at hx;simp only at s64 m64 c0 c1;have hB1:=HD (hB.out.alloc hB.out.size (.cells #[.int .i64 bs,.int .i64 bm] 66));have hR1:=hR.out.keepF (w':=wr.alloc (.cells #[.int .i64 bs,.int .i64 bm] 66)) (fun k hk=>((Below.refl wr.heap.size wr).alloc (Nat.le_refl _) (.cells #[.int .i64 bs,.int .i64 bm] 66)).block k (by subst hk;exact hR.out.ref.lt));have PP:=dput_p hR1 bs bm s64 m64;have hs:=fun h=>of_step (D:=D) hx h;have ht:=fun h=>of_stop (D:=D) hx h;clear hx;cases hpb:putB D bs with
   | true =>
    rw[hpb] at PP;replace PP:=HD PP;have hO':=HD (hO.out.trans (hs hpb));clear hpb hs ht hR1
    go_wp2_with (first | (go_at_call 111;((with_reducible refine PP.out.mono ?_);rintro e1 w2 ⟨rfl,hR2,hc2⟩)))
    go_roundw
    case rel=>exact⟨k+1,_,by omega,by go_num,HD hR2,hO',HD (rel_below hB1.out hc2 hb)⟩
    case measure=>simp[intOf];omega
   | false =>
    rw[hpb] at PP;replace PP:=HD PP;have hO':=HD (hO.out.trans (ht hpb));clear hpb hs ht hR1
    go_wp2_with (first | (go_at_call 111;((with_reducible refine PP.out.mono ?_);rintro e1 w2 ⟨rfl,hR2,hc2⟩)))
    go_ret2
    exact⟨Or.inr ⟨hO'.out,rfl⟩,rel_below hB1.out hc2 hb⟩
  ·have d1:decide ((k:Int) < (n:Int))=false:=by simp;omega
   have e:=hO.out;rw[show k=B.length by have:=hn'.out;omega,List.drop_length,ofD] at e;replace e:=HD e
   go_wp2
   go_ret2
   exact⟨Or.inl ⟨D,b,e.out,rfl,hR.out,hb⟩,hB.out⟩
theorem UnK.v1 {w:World} {u:Value} {U:UnitA} (hu:UnK w u U):∃ na nc ca cc ma mc oa oc l1 l2 l3 l4,u=.agg #[.slice na l1 nc,.slice ca l2 cc,.slice ma l3 mc,.slice oa l4 oc,.int .i64 U.main]∧V1 w (w.alloc (.cells #[.slice na l1 nc,.slice ca l2 cc,.slice ma l3 mc,.slice oa l4 oc,.int .i64 U.main] 27)) U na nc ca cc ma mc oa oc l1 l2 l3 l4∧(l1:Int)≤9223372036854775807∧(l2:Int)≤9223372036854775807∧(l3:Int)≤9223372036854775807∧(l4:Int)≤9223372036854775807:=by
 obtain⟨na,nc,ca,cc,ma,mc,oa,oc,rfl,ha'⟩:=hu.ex;obtain⟨_,_,e1,k1,m1,-⟩:=ha'.n.ex;cases e1;obtain⟨_,_,e2,k2,m2⟩:=ha'.c.form;cases e2;obtain⟨_,_,e3,k3,m3,-⟩:=ha'.m.ex;cases e3;obtain⟨_,_,e4,k4,m4,-⟩:=ha'.o.ex;cases e4;obtain⟨v1,v2,v3,v4⟩:=ha';have hmx:maxLen≤9223372036854775807:=by decide
 have hw1:=(Below.refl w.heap.size w).alloc (Nat.le_refl _) (.cells #[.slice na U.names.length nc,.slice ca U.classes.length cc,.slice ma U.methods.length mc,.slice oa U.objects.length oc,.int .i64 U.main] 27);exact⟨na,nc,ca,cc,ma,mc,oa,oc,_,_,_,_,rfl,⟨⟨by simp,by simp,by simp,by simp,by simp⟩,⟨v1.up hw1,v2.up hw1,v3.up hw1,v4.up hw1⟩,⟨rfl,rfl,rfl,rfl⟩,⟨by omega,by omega,by omega,by omega⟩,⟨k1,k2,k3,k4⟩,hw1⟩,by omega,by omega,by omega,by omega⟩
structure FE (r:Int) (X:List Int):Prop where
 mk ::
 eq:r=firstE X
theorem FE.ok {r e:Int} {X:List Int} (h:FE r (e :: X)) (he:e=0):FE r X:=⟨by rw[h.eq,firstE,if_pos he]⟩
theorem FE.bad {r e:Int} {X:List Int} (h:FE r (e :: X)) (he:¬ e=0):r=e:=by rw[h.eq,firstE,if_neg he]
theorem firstE_app:∀ (A B:List Int),firstE (A++B)=if firstE A=0 then firstE B else firstE A
 | [],B=>by simp[firstE]
 | e :: A,B=>by
  rw[List.cons_append,firstE,firstE];by_cases h:e=0
  ·rw[if_pos h,if_pos h];exact firstE_app A B
  ·rw[if_neg h,if_neg h,if_neg h]
def cRest (U:UnitA) (k:Nat):List Int:=(U.classes.drop k).map (fun c=>eBinds c.binds)
def whyC (U:UnitA):Int:=firstE (shapeR U.classes U.names.length U.methods.length :: cRest U 0)
theorem cRest_next {U:UnitA} {k:Nat} {c:ClassA} (h:U.classes[k]?=some c):cRest U k=eBinds c.binds :: cRest U (k+1):=by unfold cRest;rw[drop_next h];rfl
theorem cRest_last {U:UnitA} {k:Nat} (h:k=U.classes.length):cRest U k=[]:=by unfold cRest;rw[drop_all h];rfl
theorem longB_no {U:UnitA} {l1 l3 l4:Nat} (g1:l1=U.names.length) (g3:l3=U.methods.length) (g4:l4=U.objects.length) (h:l1≤48∧1≤l3∧l3≤32∧1≤l4∧l4≤40):longB U=false:=by
 unfold longB;rw[← g1,← g3,← g4];simp;omega
theorem longB_yes {U:UnitA} {l1 l3 l4:Nat} (g1:l1=U.names.length) (g3:l3=U.methods.length) (g4:l4=U.objects.length) (h:¬ (l1≤48∧1≤l3∧l3≤32∧1≤l4∧l4≤40)):longB U=true:=by
 unfold longB;rw[← g1,← g3,← g4];simp;omega
set_option maxHeartbeats 16000000 in
theorem ulengths_c {w:World} {u:Value} {U:UnitA} (hu:UnK w u U) :
  Calls Tryz.prog 58 #[u] w fun e w'=>e=.returned (.bool (!longB U))∧Below w.heap.size w w':=by
 obtain⟨na,nc,ca,cc,ma,mc,oa,oc,l1,l2,l3,l4,rfl,hS,j1,j2,j3,j4⟩:=hu.v1;clear hu;obtain⟨g1,g2,g3,g4⟩:=hS.lens;have LN:=HD (longB_no (U:=U) g1 g3 g4);have LY:=HD (longB_yes (U:=U) g1 g3 g4);replace hS:=HD hS;clear g1 g2 g3 g4;generalize longB U=r at *;go_enter Tryz.func58,Tryz.ntmps58
 go_upto_region 1 with fail
 generalize w.alloc (.cells #[.slice na l1 nc,.slice ca l2 cc,.slice ma l3 mc,.slice oa l4 oc,.int .i64 U.main] 27)=W at *;obtain⟨a0,a1,a2,a3,a4⟩:=hS.out.cells;by_cases t0:¬ (l1≤48)
 ·as_aux_lemma =>
  have e:Hid (r=true):=HD (LY.out (by omega));have d0:decide ((l1:Int)≤48)=false:=by simp;omega
  clear t0
  go_wp2
  go_ret;exact⟨by rw[e.out];rfl,hS.out.bel⟩
 have d0:decide ((l1:Int)≤48)=true:=by simp;omega
 by_cases t1:¬ (1≤l3)
 ·as_aux_lemma =>
  have e:Hid (r=true):=HD (LY.out (by omega));have d1:decide ((l3:Int) ≥ 1)=false:=by simp;omega
  clear t1
  go_wp2
  go_ret;exact⟨by rw[e.out];rfl,hS.out.bel⟩
 have d1:decide ((l3:Int) ≥ 1)=true:=by simp;omega
 by_cases t2:¬ (l3≤32)
 ·as_aux_lemma =>
  have e:Hid (r=true):=HD (LY.out (by omega));have d2:decide ((l3:Int)≤32)=false:=by simp;omega
  clear t2
  go_wp2
  go_ret;exact⟨by rw[e.out];rfl,hS.out.bel⟩
 have d2:decide ((l3:Int)≤32)=true:=by simp;omega
 by_cases t3:¬ (1≤l4)
 ·as_aux_lemma =>
  have e:Hid (r=true):=HD (LY.out (by omega));have d3:decide ((l4:Int) ≥ 1)=false:=by simp;omega
  clear t3
  go_wp2
  go_ret;exact⟨by rw[e.out];rfl,hS.out.bel⟩
 have d3:decide ((l4:Int) ≥ 1)=true:=by simp;omega
 by_cases t4:¬ (l4≤40)
 ·as_aux_lemma =>
  have e:Hid (r=true):=HD (LY.out (by omega));have d4:decide ((l4:Int)≤40)=false:=by simp;omega
  clear t4
  go_wp2
  go_ret;exact⟨by rw[e.out];rfl,hS.out.bel⟩
 have d4:decide ((l4:Int)≤40)=true:=by simp;omega
 have e:Hid (r=false):=HD (LN.out (by omega));clear t0 t1 t2 t3 t4
 go_wp2
 go_ret;exact⟨by rw[e.out];rfl,hS.out.bel⟩
set_option maxHeartbeats 32000000 in
theorem uwhyC_c {w:World} {u:Value} {U:UnitA} (hu:UnK w u U) :
  Calls Tryz.prog 60 #[u] w fun e w'=>e=.returned (.int .i64 (whyC U))∧Below w.heap.size w w':=by
 obtain⟨na,nc,ca,cc,ma,mc,oa,oc,l1,l2,l3,l4,rfl,hS,j1,j2,j3,j4⟩:=hu.v1;clear hu;have gg:=HD hS.lens;replace hS:=HD hS;have PS:=HD (fun (w':World) (h:ClV w' (.slice ca l2 cc) U.classes)=>kright h l1 l3 (in64 _ ⟨by omega,by omega⟩) (in64 _ ⟨by omega,by omega⟩));have T2:Hid (FE (whyC U) (shapeR U.classes l1 l3 :: cRest U 0)):=HD (by obtain⟨g1,g2,g3,g4⟩:=gg.out;rw[g1,g3];exact⟨rfl⟩);generalize whyC U=r at *;go_enter Tryz.func60,Tryz.ntmps60
 go_upto_region 1 with fail
 generalize w.alloc (.cells #[.slice na l1 nc,.slice ca l2 cc,.slice ma l3 mc,.slice oa l4 oc,.int .i64 U.main] 27)=W at *;obtain⟨a0,a1,a2,a3,a4⟩:=hS.out.cells
 go_wp2_with fail
 refine (PS.out _ hS.out.views.2.1).mono ?_;rintro e w2 ⟨rfl,hb2⟩;replace hS:=HD (hS.out.up hb2);clear hb2 a0 a1 a2 a3 a4 PS;obtain⟨a0,a1,a2,a3,a4⟩:=hS.out.cells;generalize shapeR U.classes l1 l3=s at *;by_cases hz:¬ s=0
 ·as_aux_lemma =>
  have e:Hid (r=s):=HD (T2.out.bad hz);have hz':(s != 0)=true:=by simpa using hz
  clear T2 hz
  go_wp2
  go_ret;exact⟨congrArg (fun b=>Ending.returned (Value.int .i64 b)) e.out.symm,hS.out.bel⟩
 replace hz:s=0:=Decidable.not_not.1 hz;subst hz;have T3:=HD (T2.out.ok rfl);clear T2
 go_wp2
 clear a0 a1 a2 a3 a4
 go_loopw [23] (fun i wr=>∃ (k:Nat),k≤l2∧i=.int .i64 k∧Hid (FE r (cRest U k))∧Hid (V1 w wr U na nc ca cc ma mc oa oc l1 l2 l3 l4)) (fun i _=>l2 - (intOf i).toNat)
 case atStart=>exact⟨0,by omega,rfl,T3,hS⟩
 case round =>
  clear hS T3;obtain⟨k,hk,rfl,hT,hS⟩:=hrel;by_cases hlt:k < l2
  ·as_aux_lemma =>
   have hlt':decide ((k:Int) < (l2:Int))=true:=by simp;omega
   have p0:(0:Int)≤(k:Int):=by omega
   have p1:(k:Int) < (l2:Int):=by omega
   obtain⟨x,hx⟩:∃ x,U.classes[k]?=some x:=⟨U.classes[k]'(by obtain⟨h1,h2,h3,h4⟩:=gg.out;omega),by simp⟩
   obtain⟨_,_,g,off,bv,rfl,d0,d1,d2,d3,pb⟩:=ClV.at hS.out.views.2.1 hx;obtain⟨ba,bc,rfl,_,_⟩:=pb.form;have T:=hT.out;rw[cRest_next hx] at T;have hS2:=HD (hS.out.up ((Below.refl _ _).alloc (Nat.le_refl _) (.cells #[.string x.nm,.int .i64 x.super,.int .i64 x.fields,.slice ba x.binds.length bc] 60)));have pb2:=HD (pb.up ((Below.refl _ _).alloc (Nat.le_refl _) (.cells #[.string x.nm,.int .i64 x.super,.int .i64 x.fields,.slice ba x.binds.length bc] 60)));clear hT pb hx;by_cases hz:¬ eBinds x.binds=0
   ·as_aux_lemma =>
    have e:Hid (r=14):=HD (by rw[T.bad hz];exact eBinds_14 hz);have hzh:=HD hz;clear T hz
    go_wp2_with fail
    refine (dof_c pb2.out).mono ?_;rintro e1 w3 ⟨hor,hb3⟩;obtain⟨hno,rfl⟩:ofD x.binds D0=none∧e1=.returned (.tuple #[.pointer none,.bool false]):=by
     rcases hor with ⟨D,b,h,_⟩ | ⟨h1,h2⟩
     ·exact absurd (by unfold eBinds;rw[h];rfl) hzh.out
     ·exact⟨h1,h2⟩
    replace hS:=HD (hS2.out.up hb3);clear hS2 hb3 pb2 hor hno
    go_wp2
    go_ret;exact⟨congrArg (fun b=>Ending.returned (Value.int .i64 b)) e.out.symm,hS.out.bel⟩
   replace hz:eBinds x.binds=0:=Decidable.not_not.1 hz;have hzh:=HD hz;have hT':=HD (T.ok hz);clear T hz
   go_wp2_with fail
   refine (dof_c pb2.out).mono ?_;rintro e1 w3 ⟨hor,hb3⟩;obtain⟨bq,rfl⟩:∃ bq,e1=.returned (.tuple #[.pointer (some ⟨bq,0,none⟩),.bool true]):=by
    rcases hor with ⟨D,b,_,h,_⟩ | ⟨h1,h2⟩
    ·exact⟨b,h⟩
    ·exact absurd hzh.out (by unfold eBinds;rw[h1];decide)
   replace hS:=HD (hS2.out.up hb3);clear hS2 hb3 pb2 hor
   go_wp2
   go_roundw
   case rel=>exact⟨k+1,by omega,by go_num,hT',hS⟩
   case measure=>simp[intOf];omega
  ·as_aux_lemma =>
   have hlt':decide ((k:Int) < (l2:Int))=false:=by simp;omega
   have e:Hid (r=0):=HD (by
    have h:=hT.out;rw[cRest_last (by obtain⟨h1,h2,h3,h4⟩:=gg.out;omega)] at h;exact h.eq)
   go_wp2
   go_ret;exact⟨congrArg (fun b=>Ending.returned (Value.int .i64 b)) e.out.symm,hS.out.bel⟩
end Wd
end Go.Proofs.YtgfnelhbdhbklaaGreat
