/- Texts joined: QBind, QR, DB, DP, DN, DO, VC, USA, UOS, UOT, USK, OLaw, CA. -/
import Derived.Test.YteiejjmhmmkdhaaGreatJ8
import Derived.Test.YteiejjmhmmkdhaaGreatJ9
import Derived.Test.YteiejjmhmmkdhaaGreatJ10
import Derived.Deep.DeepCutAuto
import Derived.BigRegion
import Derived.Deep.RegionHeld3
import Derived.Deep.RegionWith
import Derived.Deep.MidRow
/- The landed package's judgement of binds. -/
namespace Go.Proofs.YteiejjmhmmkdhaaGreat
open Go.RowKit
set_option linter.unusedVariables false
set_option maxRecDepth 20000
namespace Wd
theorem any_at {B:List (Int × Int)} {j:Nat} {x:Int × Int} {s:Int} (h:B[j]?=some x) (e:x.1=s):B.any (fun x=>decide (x.1=s))=true:=by
 rw [List.any_eq_true]
 exact⟨x,List.mem_of_getElem? h,by simpa using e⟩
theorem any_not {B:List (Int × Int)} {s:Int} (h:∀ x∈B,x.1≠s):B.any (fun x=>decide (x.1=s))=false:=by
 rw [Bool.eq_false_iff]
 intro ha
 obtain⟨x,hx,e⟩:=List.any_eq_true.1 ha
 exact h x hx (by simpa using e)
set_option maxHeartbeats 4000000 in
theorem kbindsname {w:World} {v:Value} {B:List (Int × Int)} (h:PrV w v B) (s:Int) (hs:In64 s) :
  Calls Tryz.prog 110 #[v,.int .i64 s] w fun e w'=>e=.returned (.bool (B.any (fun x=>decide (x.1=s))))∧Below w.heap.size w w':=by
 obtain⟨ad,cap,rfl,hcap,hmx⟩:=h.form
 obtain⟨n,hn⟩:∃ n,n=B.length:=⟨_,rfl⟩
 rw [← hn] at h hcap ⊢
 replace h:=Lib.hid h
 have hn':=Lib.hid hn
 have hnm:n≤9223372036854775807:=by have:maxLen≤9223372036854775807:=by decide
                                    omega
 have hst:Hid (∀ x∈B.take 0,x.1≠s):=Lib.hid (by simp)
 clear hmx hn
 go_enter Tryz.func110,Tryz.ntmps110
 go_wp2
 go_loopw [9] (fun i9 wr=>∃ (j:Nat),j≤n∧i9=.int .i64 j∧Hid (∀ x∈B.take j,x.1≠s)∧Hid (Below w.heap.size w wr)) (fun i9 _=>n - (intOf i9).toNat)
 case atStart=>exact⟨0,by omega,rfl,hst,Lib.hid (Below.refl _ _)⟩
 case round =>
  obtain⟨j,hj,rfl,hD,hB⟩:=hrel
  by_cases hlt:j < n
  ·have hlt':decide ((j:Int) < (n:Int))=true:=by simp;omega
   have p0:(0:Int)≤(j:Int):=by omega
   have p1:(j:Int) < (n:Int):=by omega
   obtain⟨⟨xs,xm⟩,hx⟩:∃ x,B[j]?=some x:=⟨B[j]'(by have:=hn'.out;omega),by simp⟩
   obtain⟨⟨x0,x1⟩,⟨y0,y1⟩,g',off',rfl,d0,d1⟩:=(h.out.up hB.out).at hx
   have hx':=Lib.hid hx
   clear hx
   simp only at x0 x1 y0 y1 d0 d1
   by_cases he:xs=s
   ·have e:=Lib.hid (any_at hx'.out he)
    have he':(xs == s)=true:=by simpa using he
    go_wp2
    go_ret
    exact⟨congrArg (fun b=>Ending.returned (Value.bool b)) e.out.symm,hB.out.alloc hB.out.size _⟩
   ·have he':(xs == s)=false:=by simpa using he
    have hD':Hid (∀ x∈B.take (j+1),x.1≠s):=Lib.hid (fun x hx=>by
     rw [List.take_add_one,hx'.out] at hx
     rcases List.mem_append.1 hx with hx | hx
     ·exact hD.out x hx
     ·have e:x=(xs,xm):=by simpa using hx
      rw [e];exact he)
    go_wp2
    go_roundw
    case rel=>exact⟨j+1,by omega,by go_num,hD',Lib.hid (hB.out.alloc hB.out.size _)⟩
    case measure=>simp [intOf];omega
  ·have hlt':decide ((j:Int) < (n:Int))=false:=by simp;omega
   have e:=Lib.hid (any_not (B:=B) (s:=s) (by have:=hD.out;rw [show j=B.length by have:=hn'.out;omega,List.take_length] at this;exact this))
   go_wp2
   go_ret
   exact⟨congrArg (fun b=>Ending.returned (Value.bool b)) e.out.symm,hB.out⟩
theorem binds_over {B:List (Int × Int)} {names methods:Int} (h:16 < B.length):bindsOk B names methods=false:=by
 unfold bindsOk;rw [decide_eq_false (p:=B.length≤16) (by omega)];simp
theorem take_any {B:List (Int × Int)} {k:Nat} {s:Int} (h:(B.take k).any (fun x=>decide (x.1=s))=true):∃ j x,j < k∧B[j]?=some x∧x.1=s:=by
 obtain⟨x,hx,e⟩:=List.any_eq_true.1 h
 obtain⟨j,hj⟩:=List.getElem?_of_mem hx
 rw [List.getElem?_take] at hj
 by_cases hk:j < k
 ·rw [if_pos hk] at hj
  exact⟨j,x,hk,hj,by simpa using e⟩
 ·rw [if_neg hk] at hj;cases hj
theorem take_none {B:List (Int × Int)} {s:Int} (h:B.any (fun x=>decide (x.1=s))=false):∀ x∈B,x.1≠s:=by
 intro x hx e
 have:B.any (fun x=>decide (x.1=s))=true:=List.any_eq_true.2 ⟨x,hx,by simpa using e⟩
 rw [h] at this;cases this
set_option maxHeartbeats 16000000 in
theorem kbinds {w:World} {v:Value} {B:List (Int × Int)} (h:PrV w v B) (names methods:Int) (hn:In64 names) (hm:In64 methods) :
  Calls Tryz.prog 95 #[v,.int .i64 names,.int .i64 methods] w fun e w'=>e=.returned (.bool (bindsOk B names methods))∧Below w.heap.size w w':=by
 obtain⟨ad,cap,rfl,hcap,hmx⟩:=h.form
 obtain⟨n,hn⟩:∃ n,n=B.length:=⟨_,rfl⟩
 rw [← hn] at h hcap ⊢
 replace h:=Lib.hid h
 have hn':=Lib.hid hn
 by_cases h16:16 < n
 ·have e:=Lib.hid (binds_over (names:=names) (methods:=methods) (by omega:16 < B.length))
  have h16':decide ((n:Int) > 16)=true:=by simp;omega
  clear hn
  go_enter Tryz.func95,Tryz.ntmps95
  go_wp2
  go_ret
  exact⟨congrArg (fun b=>Ending.returned (Value.bool b)) e.out.symm,Below.refl _ _⟩
 have h16':decide ((n:Int) > 16)=false:=by simp;omega
 have hst:Hid (BdR B names methods 0):=Lib.hid (BdR.start B names methods)
 clear hmx hn
 go_enter Tryz.func95,Tryz.ntmps95
 go_wp2
 go_loopw [14] (fun i14 wr=>∃ (k:Nat),k≤n∧i14=.int .i64 k∧Hid (BdR B names methods k)∧Hid (Below w.heap.size w wr)) (fun i14 _=>n - (intOf i14).toNat)
 case atStart=>exact⟨0,by omega,rfl,hst,Lib.hid (Below.refl _ _)⟩
 case round =>
  obtain⟨k,hk,rfl,hR,hB⟩:=hrel
  by_cases hlt:k < n
  ·have hlt':decide ((k:Int) < (n:Int))=true:=by simp;omega
   have p0:(0:Int)≤(k:Int):=by omega
   have p1:(k:Int) < (n:Int):=by omega
   have p2:(k:Int)≤(cap:Int):=by omega
   obtain⟨b,hb⟩:∃ b,B[k]?=some b:=⟨B[k]'(by have:=hn'.out;omega),by simp⟩
   obtain⟨⟨s0,s1⟩,⟨m0,m1⟩,g,off,rfl,c0,c1⟩:=(h.out.up hB.out).at hb
   have hb':=Lib.hid hb
   clear hb
   obtain⟨bs,bm⟩:=b
   simp only at s0 s1 m0 m1 c0 c1
   have hs0:=hB.out.size
   have hB':=Lib.hid (hB.out.alloc hs0 (.cells #[.int .i64 bs,.int .i64 bm] 78))
   by_cases q0:bs < 0
   ·have e:=Lib.hid (bind_bad hb'.out (bindOk_not (Or.inl q0):bindOk names methods (bs,bm)=false))
    have q0':decide (bs < 0)=true:=by simpa using q0
    go_wp2
    go_big_quiet (fail)
    go_wp2
    go_ret
    exact⟨congrArg (fun b=>Ending.returned (Value.bool b)) e.out.symm,hB'.out.trans ((drewK _ _).mono hB'.out.size)⟩
   have q0':decide (bs < 0)=false:=by simpa using q0
   by_cases q1:names≤bs
   ·have e:=Lib.hid (bind_bad hb'.out (bindOk_not (Or.inr (Or.inl q1)):bindOk names methods (bs,bm)=false))
    have q1':decide (bs ≥ names)=true:=by simpa using q1
    go_wp2
    go_big_quiet (fail)
    go_wp2
    go_ret
    exact⟨congrArg (fun b=>Ending.returned (Value.bool b)) e.out.symm,hB'.out.trans ((drewK _ _).mono hB'.out.size)⟩
   have q1':decide (bs ≥ names)=false:=by simpa using q1
   by_cases q2:bm < 0
   ·have e:=Lib.hid (bind_bad hb'.out (bindOk_not (Or.inr (Or.inr (Or.inl q2))):bindOk names methods (bs,bm)=false))
    have q2':decide (bm < 0)=true:=by simpa using q2
    go_wp2
    go_big_quiet (fail)
    go_wp2
    go_ret
    exact⟨congrArg (fun b=>Ending.returned (Value.bool b)) e.out.symm,hB'.out.trans ((drewK _ _).mono hB'.out.size)⟩
   have q2':decide (bm < 0)=false:=by simpa using q2
   by_cases q3:methods≤bm
   ·have e:=Lib.hid (bind_bad hb'.out (bindOk_not (Or.inr (Or.inr (Or.inr q3))):bindOk names methods (bs,bm)=false))
    have q3':decide (bm ≥ methods)=true:=by simpa using q3
    go_wp2
    go_big_quiet (fail)
    go_wp2
    go_ret
    exact⟨congrArg (fun b=>Ending.returned (Value.bool b)) e.out.symm,hB'.out.trans ((drewK _ _).mono hB'.out.size)⟩
   have q3':decide (bm ≥ methods)=false:=by simpa using q3
   have hok:=Lib.hid (bindOk_of (b:=(bs,bm)) (by omega) (by omega) (by omega) (by omega):bindOk names methods (bs,bm)=true)
   have h':=Lib.hid ((h.out.up hB'.out).take k (by have:=hn'.out;omega))
   have hs64:Hid (In64 bs):=Lib.hid ⟨s0,s1⟩
   clear hs0
   cases ha:(B.take k).any (fun x=>decide (x.1=bs)) with
   | true =>
    obtain⟨j,x,hj,hx,ex⟩:=take_any ha
    have e:=Lib.hid (bind_twice (names:=names) (methods:=methods) hb'.out hx hj ex)
    have ha':=Lib.hid ha
    clear hx ex ha
    go_wp2
    go_region_with (first | (go_at_call 110;(with_reducible refine (kbindsname (h'.out.up ((Below.refl _ _).drew)) bs hs64.out).mono ?_);rintro e1 w2 ⟨he1,hw2⟩;rw [ha'.out] at he1;subst he1;have hq:Below (wr.alloc (.cells #[.int .i64 bs,.int .i64 bm] 78)).heap.size (wr.alloc (.cells #[.int .i64 bs,.int .i64 bm] 78)) w2:=((Below.refl _ _).drew).trans hw2;have hB2:=Lib.hid (hB'.out.trans (hq.mono hB'.out.size));clear hw2 hq))
    go_wp2
    go_ret
    exact⟨congrArg (fun b=>Ending.returned (Value.bool b)) e.out.symm,hB2.out⟩
   | false =>
    have hR':=Lib.hid (hR.out.step hb'.out hok.out (take_none ha))
    have ha':=Lib.hid ha
    clear ha
    go_wp2
    go_region_with (first | (go_at_call 110;(with_reducible refine (kbindsname (h'.out.up ((Below.refl _ _).drew)) bs hs64.out).mono ?_);rintro e1 w2 ⟨he1,hw2⟩;rw [ha'.out] at he1;subst he1;have hq:Below (wr.alloc (.cells #[.int .i64 bs,.int .i64 bm] 78)).heap.size (wr.alloc (.cells #[.int .i64 bs,.int .i64 bm] 78)) w2:=((Below.refl _ _).drew).trans hw2;have hB2:=Lib.hid (hB'.out.trans (hq.mono hB'.out.size));clear hw2 hq))
    go_wp2
    go_roundw
    case rel=>exact⟨k+1,by omega,by go_num,hR',hB2⟩
    case measure=>simp [intOf];omega
  ·have hlt':decide ((k:Int) < (n:Int))=false:=by simp;omega
   have hR':BdR B names methods B.length:=by have:=hR.out;rw [show k=B.length by have:=hn'.out;omega] at this;exact this
   have e:=hR'.last
   rw [decide_eq_true (show B.length≤16 by have:=hn'.out;omega)] at e
   replace e:=Lib.hid e
   clear hR'
   go_wp2
   go_ret
   exact⟨congrArg (fun b=>Ending.returned (Value.bool b)) e.out.symm,hB.out⟩
end Wd
end Go.Proofs.YteiejjmhmmkdhaaGreat

/- The landed judgement of classes. -/
namespace Go.Proofs.YteiejjmhmmkdhaaGreat
open Go.RowKit
set_option linter.unusedVariables false
set_option maxRecDepth 20000
namespace Wd
theorem name_of {A:List ClassA} {nm:ByteArray} (h:nameR A nm=true):textOk nm=true∧∀ x∈A,x.nm≠nm:=by
 unfold nameR at h
 rw [Bool.and_eq_true] at h
 refine⟨h.1,fun x hx e=>?_⟩
 have:A.any (fun x=>decide (x.nm=nm))=true:=List.any_eq_true.2 ⟨x,hx,by simpa using e⟩
 rw [this] at h
 exact absurd h.2 (by decide)
theorem ShR.nm {L:List ClassA} {names methods:Int} {k:Nat} {c:ClassA} (h:ShR L names methods k) (hc:L[k]?=some c) (e:nameR (L.take k) c.nm=false):shapeR L names methods=13:=by
 rw [h.eq,drop_next hc,shapeFrom]
 by_cases ht:textOk c.nm=false
 ·rw [if_pos ht]
 ·rw [if_neg ht]
  have:(L.take k).any (fun x=>decide (x.nm=c.nm))=true:=by
   unfold nameR at e
   have ht':textOk c.nm=true:=by simpa using ht
   rw [ht',Bool.true_and] at e
   simpa using e
  rw [if_pos this]
set_option maxHeartbeats 16000000 in
theorem kright {w:World} {v:Value} {L:List ClassA} (h:ClV w v L) (names methods:Int) (hn:In64 names) (hm:In64 methods) :
  Calls Tryz.prog 79 #[v,.int .i64 names,.int .i64 methods] w fun e w'=>e=.returned (.int .i64 (shapeR L names methods))∧Below w.heap.size w w':=by
 obtain⟨ad,cap,rfl,hcap,hmx⟩:=h.form
 obtain⟨n,hnn⟩:∃ n,n=L.length:=⟨_,rfl⟩
 rw [← hnn] at h hcap ⊢
 replace h:=Lib.hid h
 have hn':=Lib.hid hnn
 by_cases q0:n < 2
 ·have e:=Lib.hid (shape_short (names:=names) (methods:=methods) (Or.inl (by omega:L.length < 2)))
  have q0':decide ((n:Int) < 2)=true:=by simp;omega
  go_enter Tryz.func79,Tryz.ntmps79
  go_wp2
  go_ret
  exact⟨congrArg (fun b=>Ending.returned (Value.int .i64 b)) e.out.symm,Below.refl _ _⟩
 have q0':decide ((n:Int) < 2)=false:=by simp;omega
 by_cases q1:12 < n
 ·have e:=Lib.hid (shape_short (names:=names) (methods:=methods) (Or.inr (by omega:12 < L.length)))
  have q1':decide ((n:Int) > 12)=true:=by simp;omega
  go_enter Tryz.func79,Tryz.ntmps79
  go_wp2
  go_ret
  exact⟨congrArg (fun b=>Ending.returned (Value.int .i64 b)) e.out.symm,Below.refl _ _⟩
 have q1':decide ((n:Int) > 12)=false:=by simp;omega
 have q2':(0:Int) < (n:Int):=by omega
 have q3':(1:Int) < (n:Int):=by omega
 obtain⟨⟨an,sa,af,ab⟩,ha⟩:∃ x,L[0]?=some x:=⟨L[0]'(by omega),by simp⟩
 obtain⟨⟨bn,sb,bf,bb⟩,hb⟩:∃ x,L[1]?=some x:=⟨L[1]'(by omega),by simp⟩
 have hh:=head_at ha hb
 obtain⟨_,_,g,off,av,rfl,c0,c1,c2,c3,_⟩:=h.out.at ha
 obtain⟨_,_,g',off',bv,eg,d0,d1,d2,d3,_⟩:=h.out.at hb
 cases eg
 clear hmx
 simp only at c0 c1 c2 d0 d1 d2 hh
 simp only [Nat.zero_mul,Nat.add_zero] at c0 c1 c2 c3
 simp only [Nat.one_mul] at d0 d1 d2 d3
 have d0':=Lib.hid d0
 have d1':=Lib.hid d1
 have d2':=Lib.hid d2
 have d3':=Lib.hid d3
 clear d0 d1 d2 d3
 obtain⟨b1,hb1⟩:∃ b,b=(decide (sa=-1) && decide (af=4)):=⟨_,rfl⟩
 obtain⟨b2,hb2⟩:∃ b,b=(decide (sb=-1) && decide (bf=0)):=⟨_,rfl⟩
 have P1:=Lib.hid (fun w=>isroot_c an sa af av 4 w b1 hb1)
 have P2:=Lib.hid (fun w=>isroot_c bn sb bf bv 0 w b2 hb2)
 have hh':headOk L=(b1 && b2):=by
  rw [hh,hb1,hb2]
  cases decide (sa=-1) <;> cases decide (af=4) <;> cases decide (sb=-1) <;> cases decide (bf=0) <;> rfl
 clear hb1 hb2 hh
 cases b1 with
 | false =>
  have e:=Lib.hid (shape_head (L:=L) (names:=names) (methods:=methods) (by omega) (by omega) (by rw [hh'];rfl))
  clear hh' hnn ha hb
  go_enter Tryz.func79,Tryz.ntmps79
  go_wp2_with (first | (go_at_call 92;((with_reducible refine (P1.out _).mono ?_);rintro e1 w2 ⟨rfl,hw2⟩)))
  go_ret
  exact⟨congrArg (fun b=>Ending.returned (Value.int .i64 b)) e.out.symm,hw2⟩
 | true =>
 cases b2 with
 | false =>
  have e:=Lib.hid (shape_head (L:=L) (names:=names) (methods:=methods) (by omega) (by omega) (by rw [hh'];rfl))
  clear hh' hnn ha hb
  go_enter Tryz.func79,Tryz.ntmps79
  go_wp2_with (first | (go_at_call 92;first | ((with_reducible refine (P1.out _).mono ?_);rintro e1 w2 ⟨rfl,hw2⟩;have d0:=cell_up hw2 d0'.out;have d1:=cell_up hw2 d1'.out;have d2:=cell_up hw2 d2'.out;have d3:=cell_up hw2 d3'.out;have d1b:w2.cell? ⟨g,off+5,none⟩=some (.int .i64 sb):=d1;have d2b:w2.cell? ⟨g,off+6,none⟩=some (.int .i64 bf):=d2;have d3b:w2.cell? ⟨g,off+7,none⟩=some bv:=d3) | ((with_reducible refine (P2.out _).mono ?_);rintro e1 w3 ⟨rfl,hw3⟩)))
  go_ret
  exact⟨congrArg (fun b=>Ending.returned (Value.int .i64 b)) e.out.symm,hw2.trans (hw3.mono hw2.size)⟩
 | true =>
 have hst:Hid (ShR L names methods 0):=Lib.hid (ShR.start (by omega) (by omega) (by rw [hh'];rfl))
 have hn12:n≤12:=by omega
 clear hh' hnn ha hb
 go_enter Tryz.func79,Tryz.ntmps79
 go_wp2_with (first | (go_at_call 92;first | ((with_reducible refine (P1.out _).mono ?_);rintro e1 w2 ⟨rfl,hw2⟩;have d0:=cell_up hw2 d0'.out;have d1:=cell_up hw2 d1'.out;have d2:=cell_up hw2 d2'.out;have d3:=cell_up hw2 d3'.out;have d1b:w2.cell? ⟨g,off+5,none⟩=some (.int .i64 sb):=d1;have d2b:w2.cell? ⟨g,off+6,none⟩=some (.int .i64 bf):=d2;have d3b:w2.cell? ⟨g,off+7,none⟩=some bv:=d3) | ((with_reducible refine (P2.out _).mono ?_);rintro e1 w3 ⟨rfl,hw3⟩;have hB0:=Lib.hid (hw2.trans (hw3.mono hw2.size));clear hw2 hw3)))
 clear c0 c1 c2 c3 d0 d1 d2 d3 d1b d2b d3b d0' d1' d2' d3' P1 P2
 go_loopw [31] (fun i31 wr=>∃ (k:Nat),k≤n∧i31=.int .i64 k∧Hid (ShR L names methods k)∧Hid (Below w.heap.size w wr)) (fun i31 _=>n - (intOf i31).toNat)
 case atStart=>exact⟨0,by omega,rfl,hst,hB0⟩
 case round =>
  clear hB0 hst
  obtain⟨k,hk,rfl,hR,hB⟩:=hrel
  by_cases hlt:k < n
  ·have hlt':decide ((k:Int) < (n:Int))=true:=by simp;omega
   have p0:(0:Int)≤(k:Int):=by omega
   have p1:(k:Int) < (n:Int):=by omega
   have p2:(k:Int)≤(cap:Int):=by omega
   obtain⟨⟨nm,s,fl,bds⟩,hc⟩:∃ x,L[k]?=some x:=⟨L[k]'(by have:=hn'.out;omega),by simp⟩
   obtain⟨s64,f64,g',off',bv,eg,c0,c1,c2,c3,hbv⟩:=(h.out.up hB.out).at hc
   cases eg
   obtain⟨ba,bc,rfl,_⟩:=hbv.form
   simp only at s64 f64 c0 c1 c2 c3 hbv
   have hc':=Lib.hid hc
   have hs0:=hB.out.size
   have hB1:=Lib.hid (hB.out.alloc hs0 (.cells #[.string nm,.int .i64 s,.int .i64 fl,.slice ba bds.length bc] 72))
   have hbv':=Lib.hid (hbv.up ((Below.refl wr.heap.size wr).alloc (Nat.le_refl _) (.cells #[.string nm,.int .i64 s,.int .i64 fl,.slice ba bds.length bc] 72)))
   have hA:=Lib.hid ((h.out.up hB1.out).take k (by have:=hn'.out;omega))
   have k0:Hid ((wr.alloc (.cells #[.string nm,.int .i64 s,.int .i64 fl,.slice ba bds.length bc] 72)).cell? ⟨wr.heap.size,0,none⟩=some (.string nm)):=Lib.hid (by simp)
   have k1:Hid ((wr.alloc (.cells #[.string nm,.int .i64 s,.int .i64 fl,.slice ba bds.length bc] 72)).cell? ⟨wr.heap.size,1,none⟩=some (.int .i64 s)):=Lib.hid (by simp)
   have k2:Hid ((wr.alloc (.cells #[.string nm,.int .i64 s,.int .i64 fl,.slice ba bds.length bc] 72)).cell? ⟨wr.heap.size,2,none⟩=some (.int .i64 fl)):=Lib.hid (by simp)
   have k3:Hid ((wr.alloc (.cells #[.string nm,.int .i64 s,.int .i64 fl,.slice ba bds.length bc] 72)).cell? ⟨wr.heap.size,3,none⟩=some (.slice ba bds.length bc)):=Lib.hid (by simp)
   have eS:=Lib.hid (sup_eq (c:=⟨nm,s,fl,bds⟩) hR.out.down (by have:=hn'.out;omega:k≤L.length))
   simp only at eS
   have hs64:=Lib.hid s64
   have hf64:=Lib.hid f64
   clear hbv hc hs0 s64 f64
   generalize bds.length=bm at *
   go_upto_region 8 with fail
   clear c0 c1 c2 c3
   generalize wr.alloc (.cells #[.string nm,.int .i64 s,.int .i64 fl,.slice ba bm bc] 72)=w1 at *
   generalize wr.heap.size=B8 at *
   have c0:=k0.out
   cases hN:nameR (L.take k) nm with
   | false =>
    have e:=Lib.hid (hR.out.nm hc'.out hN)
    have hN':=Lib.hid hN
    clear hN
    go_region_with (first | (go_at_call 93;(with_reducible refine (kname (hA.out.up ((Below.refl _ _).drew)) nm).mono ?_);rintro e1 w2 ⟨he1,hw2⟩;rw [hN'.out] at he1;subst he1;have hq:Below w1.heap.size w1 w2:=((Below.refl _ _).drew).trans hw2;have hB2:=Lib.hid (hB1.out.trans (hq.mono hB1.out.size));clear hw2 hq))
    go_wp2
    go_ret
    exact⟨congrArg (fun b=>Ending.returned (Value.int .i64 b)) e.out.symm,hB2.out⟩
   | true =>
    obtain⟨ht,hna⟩:=name_of hN
    have ht':=Lib.hid ht
    have hna':=Lib.hid hna
    have hN':=Lib.hid hN
    clear hN ht hna
    go_region_with (first | (go_at_call 93;(with_reducible refine (kname (hA.out.up ((Below.refl _ _).drew)) nm).mono ?_);rintro e1 w2 ⟨he1,hw2⟩;rw [hN'.out] at he1;subst he1;have hq:Below w1.heap.size w1 w2:=((Below.refl _ _).drew).trans hw2;have hB2:=Lib.hid (hB1.out.trans (hq.mono hB1.out.size));have m0:=cell_up hq k0.out;have m1:=cell_up hq k1.out;have m2:=cell_up hq k2.out;have m3:=cell_up hq k3.out;have m3':=Lib.hid m3;have hA2:=Lib.hid (hA.out.up hq);have hbv2:=Lib.hid (hbv'.out.up hq);clear hw2 hq))
    clear hA hbv' hB1 k0 k1 k2 k3 c0
    go_upto_region 10 with fail
    have hKS:=Lib.hid (fun w' (b:Below w2.heap.size w2 w')=>ksuper (hA2.out.up b) nm s fl (.slice ba bm bc) hs64.out hf64.out)
    cases hC:classOk L k ⟨nm,s,fl,bds⟩ with
    | false =>
     have e:=Lib.hid (hR.out.cls hc'.out ht'.out hna'.out hC)
     have hC':=Lib.hid (eS.out.symm.trans hC)
     clear hC
     go_region_with (first | (go_at_call 94;(with_reducible refine (hKS.out _ (Below.refl _ _).drew).mono ?_);rintro e1 w3 ⟨he1,hw3⟩;rw [hC'.out] at he1;subst he1;have hq:Below w2.heap.size w2 w3:=((Below.refl _ _).drew).trans hw3;have hB3:=Lib.hid (hB2.out.trans (hq.mono hB2.out.size));clear hw3 hq))
     go_wp2
     go_ret
     exact⟨congrArg (fun b=>Ending.returned (Value.int .i64 b)) e.out.symm,hB3.out⟩
    | true =>
     have hC':=Lib.hid (eS.out.symm.trans hC)
     have hC2:=Lib.hid hC
     clear hC
     go_region_with (first | (go_at_call 94;(with_reducible refine (hKS.out _ (Below.refl _ _).drew).mono ?_);rintro e1 w3 ⟨he1,hw3⟩;rw [hC'.out] at he1;subst he1;have hq:Below w2.heap.size w2 w3:=((Below.refl _ _).drew).trans hw3;have hB3:=Lib.hid (hB2.out.trans (hq.mono hB2.out.size));have n3:=cell_up hq m3'.out;have hbv3:=Lib.hid (hbv2.out.up hq);clear hw3 hq))
     clear m0 m1 m2 m3 m3' hA2 hbv2 hKS hB2
     have PB:=Lib.hid (kbinds hbv3.out names methods hn hm)
     cases hb:bindsOk bds names methods with
     | false =>
      have e:=Lib.hid (hR.out.bnd hc'.out ht'.out hna'.out hC2.out hb)
      rw [hb] at PB
      clear hb
      go_wp2_with (first | (go_at_call 95;((with_reducible refine PB.out.mono ?_);rintro e1 w4 ⟨rfl,hw4⟩)))
      go_ret
      exact⟨congrArg (fun b=>Ending.returned (Value.int .i64 b)) e.out.symm,hB3.out.trans (hw4.mono hB3.out.size)⟩
     | true =>
      have hR':=Lib.hid (hR.out.step hc'.out ht'.out hna'.out hC2.out hb)
      rw [hb] at PB
      clear hb
      go_wp2_with (first | (go_at_call 95;((with_reducible refine PB.out.mono ?_);rintro e1 w4 ⟨rfl,hw4⟩)))
      go_roundw
      case rel=>exact⟨k+1,by omega,by go_num,hR',Lib.hid (hB3.out.trans (hw4.mono hB3.out.size))⟩
      case measure=>simp [intOf];omega
  ·have hlt':decide ((k:Int) < (n:Int))=false:=by simp;omega
   have e:Hid (shapeR L names methods=0):=Lib.hid (ShR.last (by have:=hR.out;rw [show k=L.length by have:=hn'.out;omega] at this;exact this))
   go_wp2
   go_ret
   exact⟨congrArg (fun b=>Ending.returned (Value.int .i64 b)) e.out.symm,hB.out⟩
end Wd
end Go.Proofs.YteiejjmhmmkdhaaGreat

/- The landed dict: how it lies; a name's first place; the place that has a name, or the first empty one. -/
namespace Go.Proofs.YteiejjmhmmkdhaaGreat
open Go.RowKit
set_option linter.unusedVariables false
set_option maxRecDepth 20000
namespace Wd
structure DA (w:World) (p:Nat) (D:Dst) (F:Nat→Prop):Prop where
 ref:RefD w p D
 low:∀ k,k < 16→-1≤selA D k
 own:∀ k,F k↔k=p
theorem chF {F:Nat→Prop} {p:Nat} (h:∀ k,F k↔k=p) {w w':World} (c:Ch (fun k=>k=p) w w'):Ch F w w' :=
 ⟨c.os,c.tape,c.output,c.size,fun k hk hF=>c.block k hk (fun e=>hF ((h k).2 e))⟩
theorem plc_first {sel:Int} (h:0≤sel):∃ r:Nat,r < 16∧Int.tmod sel 16=(r:Int)∧Int.tmod ((r:Int)*7) 16=((plc sel 0:Nat):Int):=by
 obtain⟨r,hr,e1,e2⟩:=plc_int h 0
 exact⟨r,hr,e1,by simpa using e2⟩
theorem plc_step (sel:Int) (k:Nat):Int.tmod (((plc sel 0:Nat):Int)+(k:Int)) 16=((plc sel k:Nat):Int):=by
 have e:(((plc sel 0:Nat):Int)+(k:Int))=((plc sel 0+k:Nat):Int):=by push_cast;rfl
 rw [e]
 show Int.tmod _ ((16:Nat):Int)=_
 rw [← Int.ofNat_tmod]
 congr 1
 unfold plc
 omega
def prF (D:Dst) (sel:Int):Nat→Nat→Int × Int
 | 0,_=>(-1,4)
 | f+1,k=>if selA D (plc sel k)=sel∨selA D (plc sel k)=-1 then (((plc sel k:Nat):Int),(k:Int)+1) else prF D sel f (k+1)
def prD (D:Dst) (sel:Int):Int × Int:=if sel < 0 then (-1,0) else prF D sel 4 0
theorem pr_neg {D:Dst} {sel:Int} (h:sel < 0):prD D sel=(-1,0):=if_pos h
theorem pr_pos {D:Dst} {sel:Int} (h:0≤sel):prD D sel=prF D sel 4 0:=if_neg (by omega)
theorem prF_has {D:Dst} {sel:Int} {k:Nat} (hk:k < 4) (h:selA D (plc sel k)=sel∨selA D (plc sel k)=-1):prF D sel (4 - k) k=(((plc sel k:Nat):Int),(k:Int)+1):=by
 rw [show 4 - k=(3 - k)+1 by omega,prF,if_pos h]
theorem prF_next {D:Dst} {sel:Int} {k:Nat} (hk:k < 4) (h:¬ (selA D (plc sel k)=sel∨selA D (plc sel k)=-1)):prF D sel (4 - k) k=prF D sel (4 - (k+1)) (k+1):=by
 rw [show 4 - k=(4 - (k+1))+1 by omega,prF,if_neg h]
def Pr (D:Dst) (sel:Int) (x:Int × Int) (y:Option Nat) (z:Int × Int):Prop :=
 (x.1=-1∧y=none∧z=(-1,x.2))∨(∃ i:Nat,i < 16∧x.1=(i:Int)∧y=some i∧((selA D i=-1∧z=(-1,x.2))∨(selA D i=sel∧0≤sel∧z=(metA D i,x.2))))
theorem pr_f {D:Dst} (hl:∀ k,k < 16→-1≤selA D k) {sel:Int} (h:0≤sel):∀ f k,Pr D sel (prF D sel f k) (putF D sel f k) (findF D sel f k)
 | 0,k=>Or.inl ⟨rfl,rfl,rfl⟩
 | f+1,k=>by
  have hp:=plc_lt sel k
  have hm:=hl _ hp
  unfold prF putF findF
  by_cases h1:selA D (plc sel k)=sel
  ·rw [if_pos (Or.inl h1),if_pos (Or.inl h1),if_pos h1]
   exact Or.inr ⟨plc sel k,hp,rfl,rfl,Or.inr ⟨h1,h,rfl⟩⟩
  ·by_cases h2:selA D (plc sel k)=-1
   ·rw [if_pos (Or.inr h2),if_pos (Or.inr (by omega)),if_neg h1,if_pos (by omega)]
    exact Or.inr ⟨plc sel k,hp,rfl,rfl,Or.inl ⟨h2,rfl⟩⟩
   ·rw [if_neg (by omega),if_neg (by omega),if_neg h1,if_neg (by omega)]
    exact pr_f hl h f (k+1)
theorem pr_d {D:Dst} (hl:∀ k,k < 16→-1≤selA D k) (sel:Int):Pr D sel (prD D sel) (putP D sel) (findD D sel):=by
 by_cases h:sel < 0
 ·rw [pr_neg h,put_neg h,find_neg h]
  exact Or.inl ⟨rfl,rfl,rfl⟩
 ·rw [pr_pos (by omega),put_pos (by omega),find_pos (by omega)]
  exact pr_f hl (by omega) 4 0
set_option maxHeartbeats 4000000 in
theorem first_c (w:World) {sel:Int} (hs:I64 sel) (h:0≤sel) :
  Calls Tryz.prog 117 #[.int .i64 sel] w fun e w'=>e=.returned (.int .i64 (plc sel 0:Nat))∧w'=w:=by
 obtain⟨r,hr,e1,e2⟩:=plc_first h
 have w1:IntKind.i64.wrap ((r:Int)*7)=(r:Int)*7:=by rw [IntKind.wrap_i64];omega
 go_enter Tryz.func117,Tryz.ntmps117
 go_wp2
 go_ret
 exact⟨rfl,rfl⟩
set_option maxHeartbeats 8000000 in
theorem probe_c {w:World} {b:Nat} {D:Dst} (h:RefD w b D) (sel:Int) (hs:I64 sel) :
  Calls Tryz.prog 111 #[.pointer (some ⟨b,0,none⟩),.int .i64 sel] w fun e w'=>e=.returned (.tuple #[.int .i64 (prD D sel).1,.int .i64 (prD D sel).2])∧w'=w:=by
 replace h:=Lib.hid h
 have hs':=Lib.hid hs
 obtain⟨s0,s1⟩:=hs
 by_cases hn:sel < 0
 ·have d2:decide (sel < 0)=true:=by simpa using hn
  have e:=Lib.hid (pr_neg (D:=D) hn)
  go_enter Tryz.func111,Tryz.ntmps111
  go_wp2
  go_ret2
  exact⟨by rw [e.out];rfl,rfl⟩
 ·have d2:decide (sel < 0)=false:=by simpa using hn
  have h0:0≤sel:=by omega
  have hst:Hid (prD D sel=prF D sel (4 - 0) 0):=Lib.hid (pr_pos h0)
  go_enter Tryz.func111,Tryz.ntmps111
  go_wp2_with (first | (go_at_call 117;((with_reducible refine (first_c _ hs'.out h0).mono ?_);rintro e1 w1 ⟨rfl,rfl⟩)))
  go_loopw [13] (fun i13 wr=>∃ k:Nat,k≤4∧i13=.int .i64 k∧Hid (prD D sel=prF D sel (4 - k) k)∧wr=w1) (fun i13 _=>4 - (intOf i13).toNat)
  case atStart=>exact⟨0,by omega,rfl,hst,rfl⟩
  case round =>
   clear hst
   obtain⟨k,hk,rfl,hF,rfl⟩:=hrel
   by_cases hlt:k < 4
   ·have hlt':decide ((k:Int) < 4)=true:=by simp;omega
    have e2:=plc_step sel k
    have hi:=plc_lt sel k
    have hj:=plc_lt sel 0
    have y1:=Lib.hid (prF_has (D:=D) (sel:=sel) hlt)
    have y3:=Lib.hid (prF_next (D:=D) (sel:=sel) hlt)
    generalize plc sel 0=j at *
    generalize plc sel k=i at *
    have i0:(0:Int)≤(i:Int):=by omega
    have i1:(i:Int) < 16:=by omega
    have c1:=h.out.cs i hi
    have w2:IntKind.i64.wrap ((j:Int)+(k:Int))=(j:Int)+(k:Int):=by rw [IntKind.wrap_i64];omega
    obtain⟨x,hx⟩:∃ x,x=selA D i:=⟨_,rfl⟩
    rw [← hx] at c1 y1 y3
    by_cases he:x=sel
    ·have he':(x == sel)=true:=by simpa using he
     have e:=Lib.hid (hF.out.trans (y1.out (Or.inl he)))
     clear he hx
     go_wp2
     go_ret2
     exact⟨by rw [e.out];rfl,rfl⟩
    ·have he':(x == sel)=false:=by simpa using he
     by_cases hx0:x=-1
     ·have hx':(x == -1)=true:=by simpa using hx0
      have e:=Lib.hid (hF.out.trans (y1.out (Or.inr hx0)))
      clear he hx0 hx
      go_wp2
      go_ret2
      exact⟨by rw [e.out];rfl,rfl⟩
     ·have hx':(x == -1)=false:=by simpa using hx0
      have e:=Lib.hid (hF.out.trans (y3.out (by omega)))
      clear he hx0 hx
      go_wp2
      go_roundw
      case rel=>exact⟨k+1,by omega,by go_num,e,trivial⟩
      case measure=>simp [intOf];omega
   ·have hlt':decide ((k:Int) < 4)=false:=by simp;omega
    have e:=hF.out
    rw [show 4 - k=0 by omega,prF] at e
    replace e:=Lib.hid e
    go_wp2
    go_ret2
    exact⟨by rw [e.out];rfl,rfl⟩
end Wd
end Go.Proofs.YteiejjmhmmkdhaaGreat

/- The landed dict: Put, Find. -/
namespace Go.Proofs.YteiejjmhmmkdhaaGreat
open Go.RowKit
set_option linter.unusedVariables false
set_option maxRecDepth 20000
namespace Wd
set_option maxHeartbeats 8000000 in
theorem dput_c {w:World} {b:Nat} {D:Dst} {F:Nat→Prop} (h:DA w b D F) (sel met:Int) (hs:I64 sel) (hm:I64 met) :
  Calls Tryz.prog 97 #[.pointer (some ⟨b,0,none⟩),.int .i64 sel,.int .i64 met] w fun e w'=>∃ F',e=.returned (.bool (putB D sel))∧DA w' b (putD D sel met) F'∧Ch F w w'∧Newer F F' w.heap.size:=by
 have hP:=pr_d h.low sel
 have PP:=Lib.hid (probe_c h.ref sel hs)
 replace h:=Lib.hid h
 have hm':=Lib.hid hm
 have hs':=Lib.hid hs
 generalize prD D sel=X at hP PP
 obtain⟨xa,xl⟩:=X
 rcases hP with ⟨h1,h2,-⟩ | ⟨i,hi,h1,h2,h3⟩
 ·simp only at h1
  subst h1
  have e:=Lib.hid (put_n (met:=met) h2)
  go_enter Tryz.func97,Tryz.ntmps97
  go_wp2_with (first | (go_at_call 111;((with_reducible refine PP.out.mono ?_);rintro e1 w1 ⟨rfl,rfl⟩)))
  go_ret
  exact⟨F,by rw [e.out.1];rfl,by rw [e.out.2];exact h.out,Ch.refl _ _,fun k hk=>Or.inl hk⟩
 ·simp only at h1
  subst h1
  have e:=Lib.hid (put_y (met:=met) h2)
  have hsel:-1≤sel:=by
   unfold putP at h2
   split at h2
   ·cases h2
   ·omega
  have hB:Hid (DA ((w.setCell ⟨b,i,none⟩ (.int .i64 sel)).setCell ⟨b,16+i,none⟩ (.int .i64 met)) b (D.set i (sel,met)) F):=Lib.hid ⟨h.out.ref.both hi hs'.out hm'.out,fun k hk=>by
   rw [sel_set h.out.ref.len hi]
   split
   ·exact hsel
   ·exact h.out.low k hk,h.out.own⟩
  have i0:(0:Int)≤(i:Int):=by omega
  have i1:(i:Int) < 16:=by omega
  have c1:=h.out.ref.cs i hi
  have c2:=h.out.ref.cm i hi
  have z1:=h.out.ref.z i
  have z2:=h.out.ref.z (16+i)
  have ne:((i:Int) == -1)=false:=by simp
  clear h2 h3
  go_enter Tryz.func97,Tryz.ntmps97
  go_wp2_with (first | (go_at_call 111;((with_reducible refine PP.out.mono ?_);rintro e1 w1 ⟨rfl,rfl⟩)))
  go_region
  all_goals go_wp2
  all_goals go_ret
  all_goals exact⟨F,by rw [e.out.1];rfl,by rw [e.out.2];exact⟨hB.out.ref.same rfl,hB.out.low,hB.out.own⟩,chF h.out.own (two_ch _ b i (.int .i64 sel) (.int .i64 met)),fun k hk=>Or.inl hk⟩
end Wd
end Go.Proofs.YteiejjmhmmkdhaaGreat

/- The landed dict: New, Len. -/
namespace Go.Proofs.YteiejjmhmmkdhaaGreat
open Go.RowKit
set_option linter.unusedVariables false
set_option maxRecDepth 20000
namespace Wd
theorem dzero (w:World):RefD (w.alloc (.cells #[.int .i64 0,.int .i64 0,.int .i64 0,.int .i64 0,.int .i64 0,.int .i64 0,.int .i64 0,.int .i64 0,.int .i64 0,.int .i64 0,.int .i64 0,.int .i64 0,.int .i64 0,.int .i64 0,.int .i64 0,.int .i64 0,.int .i64 0,.int .i64 0,.int .i64 0,.int .i64 0,.int .i64 0,.int .i64 0,.int .i64 0,.int .i64 0,.int .i64 0,.int .i64 0,.int .i64 0,.int .i64 0,.int .i64 0,.int .i64 0,.int .i64 0,.int .i64 0] 172)) w.heap.size (DK 0):=by
 have hh:(w.alloc (.cells #[.int .i64 0,.int .i64 0,.int .i64 0,.int .i64 0,.int .i64 0,.int .i64 0,.int .i64 0,.int .i64 0,.int .i64 0,.int .i64 0,.int .i64 0,.int .i64 0,.int .i64 0,.int .i64 0,.int .i64 0,.int .i64 0,.int .i64 0,.int .i64 0,.int .i64 0,.int .i64 0,.int .i64 0,.int .i64 0,.int .i64 0,.int .i64 0,.int .i64 0,.int .i64 0,.int .i64 0,.int .i64 0,.int .i64 0,.int .i64 0,.int .i64 0,.int .i64 0] 172)).heap[w.heap.size]?=some (.cells #[.int .i64 0,.int .i64 0,.int .i64 0,.int .i64 0,.int .i64 0,.int .i64 0,.int .i64 0,.int .i64 0,.int .i64 0,.int .i64 0,.int .i64 0,.int .i64 0,.int .i64 0,.int .i64 0,.int .i64 0,.int .i64 0,.int .i64 0,.int .i64 0,.int .i64 0,.int .i64 0,.int .i64 0,.int .i64 0,.int .i64 0,.int .i64 0,.int .i64 0,.int .i64 0,.int .i64 0,.int .i64 0,.int .i64 0,.int .i64 0,.int .i64 0,.int .i64 0] 172 (0,0)):=heap_alloc_new _ _
 generalize w.alloc (.cells #[.int .i64 0,.int .i64 0,.int .i64 0,.int .i64 0,.int .i64 0,.int .i64 0,.int .i64 0,.int .i64 0,.int .i64 0,.int .i64 0,.int .i64 0,.int .i64 0,.int .i64 0,.int .i64 0,.int .i64 0,.int .i64 0,.int .i64 0,.int .i64 0,.int .i64 0,.int .i64 0,.int .i64 0,.int .i64 0,.int .i64 0,.int .i64 0,.int .i64 0,.int .i64 0,.int .i64 0,.int .i64 0,.int .i64 0,.int .i64 0,.int .i64 0,.int .i64 0] 172)=W at hh ⊢
 generalize w.heap.size=b at hh ⊢
 have hs:∀ k,k < 16→selA (DK 0) k=0:=fun k hk=>by rcases (show k=0∨k=1∨k=2∨k=3∨k=4∨k=5∨k=6∨k=7∨k=8∨k=9∨k=10∨k=11∨k=12∨k=13∨k=14∨k=15 by omega) with rfl | rfl | rfl | rfl | rfl | rfl | rfl | rfl | rfl | rfl | rfl | rfl | rfl | rfl | rfl | rfl <;> rfl
 have hm:∀ k,k < 16→metA (DK 0) k=0:=fun k hk=>by rcases (show k=0∨k=1∨k=2∨k=3∨k=4∨k=5∨k=6∨k=7∨k=8∨k=9∨k=10∨k=11∨k=12∨k=13∨k=14∨k=15 by omega) with rfl | rfl | rfl | rfl | rfl | rfl | rfl | rfl | rfl | rfl | rfl | rfl | rfl | rfl | rfl | rfl <;> rfl
 refine⟨rfl,fun k hk=>by rw [hs k hk];constructor <;> omega,fun k hk=>by rw [hm k hk];constructor <;> omega,fun k hk=>?_,fun k hk=>?_,fun k=>by simp [World.frozen?,hh]⟩
 ·rw [hs k hk]
  rcases (show k=0∨k=1∨k=2∨k=3∨k=4∨k=5∨k=6∨k=7∨k=8∨k=9∨k=10∨k=11∨k=12∨k=13∨k=14∨k=15 by omega) with rfl | rfl | rfl | rfl | rfl | rfl | rfl | rfl | rfl | rfl | rfl | rfl | rfl | rfl | rfl | rfl <;> simp [World.cell?,hh]
 ·rw [hm k hk]
  rcases (show k=0∨k=1∨k=2∨k=3∨k=4∨k=5∨k=6∨k=7∨k=8∨k=9∨k=10∨k=11∨k=12∨k=13∨k=14∨k=15 by omega) with rfl | rfl | rfl | rfl | rfl | rfl | rfl | rfl | rfl | rfl | rfl | rfl | rfl | rfl | rfl | rfl <;> simp [World.cell?,hh]
set_option maxHeartbeats 8000000 in
theorem dnew_c (w:World) :
  Calls Tryz.prog 96 #[] w fun e w'=>∃ b,e=.returned (.pointer (some ⟨b,0,none⟩))∧RefD w' b D0∧w.heap.size≤b∧Below w.heap.size w w':=by
 go_enter Tryz.func96,Tryz.ntmps96
 go_upto_region 2 with fail
 have hR:=Lib.hid (dzero w)
 have hB:=Lib.hid ((Below.refl w.heap.size w).alloc (Nat.le_refl _) (.cells #[.int .i64 0,.int .i64 0,.int .i64 0,.int .i64 0,.int .i64 0,.int .i64 0,.int .i64 0,.int .i64 0,.int .i64 0,.int .i64 0,.int .i64 0,.int .i64 0,.int .i64 0,.int .i64 0,.int .i64 0,.int .i64 0,.int .i64 0,.int .i64 0,.int .i64 0,.int .i64 0,.int .i64 0,.int .i64 0,.int .i64 0,.int .i64 0,.int .i64 0,.int .i64 0,.int .i64 0,.int .i64 0,.int .i64 0,.int .i64 0,.int .i64 0,.int .i64 0] 172))
 generalize w.alloc (.cells #[.int .i64 0,.int .i64 0,.int .i64 0,.int .i64 0,.int .i64 0,.int .i64 0,.int .i64 0,.int .i64 0,.int .i64 0,.int .i64 0,.int .i64 0,.int .i64 0,.int .i64 0,.int .i64 0,.int .i64 0,.int .i64 0,.int .i64 0,.int .i64 0,.int .i64 0,.int .i64 0,.int .i64 0,.int .i64 0,.int .i64 0,.int .i64 0,.int .i64 0,.int .i64 0,.int .i64 0,.int .i64 0,.int .i64 0,.int .i64 0,.int .i64 0,.int .i64 0] 172)=W at *
 obtain⟨b,hb⟩:∃ b,w.heap.size=b:=⟨_,rfl⟩
 rw [hb] at hR hB ⊢
 go_wp2
 go_loopw [5] (fun i5 wr=>∃ k:Nat,k≤16∧i5=.int .i64 k∧Hid (RefD wr b (DK k))∧Hid (Below b w wr)) (fun i5 _=>16 - (intOf i5).toNat)
 case atStart=>exact⟨0,by omega,rfl,hR,hB⟩
 case round =>
  clear hR hB
  obtain⟨k,hk,rfl,hR,hB⟩:=hrel
  by_cases hlt:k < 16
  ·have d1:decide ((k:Int) < 16)=true:=by simp;omega
   have i0:(0:Int)≤(k:Int):=by omega
   have i1:(k:Int) < 16:=by omega
   have c1:=hR.out.cs k hlt
   have z1:=hR.out.z k
   have h1:=hR.out.set1 hlt (x:=-1) ⟨by omega,by omega⟩
   rw [DK_next hlt] at h1
   have hR':=Lib.hid h1
   have hB':Hid (Below b w (wr.setCell ⟨b,k,none⟩ (.int .i64 (-1)))):=Lib.hid (hB.out.setCell (p:=⟨b,k,none⟩) (Nat.le_refl _) _)
   clear h1
   go_wp2
   go_roundw
   case rel=>exact⟨k+1,by omega,by go_num,hR',hB'⟩
   case measure=>simp [intOf];omega
  ·have d1:decide ((k:Int) < 16)=false:=by simp;omega
   have hR':RefD wr b D0:=by rw [← DK_all,← show k=16 by omega];exact hR.out
   go_wp2
   go_ret
   exact⟨b,rfl,hR',by rw [hb];exact Nat.le_refl _,by rw [hb];exact hB.out⟩
end Wd
end Go.Proofs.YteiejjmhmmkdhaaGreat

/- The landed dict: Of. -/
namespace Go.Proofs.YteiejjmhmmkdhaaGreat
open Go.RowKit
set_option linter.unusedVariables false
set_option maxRecDepth 20000
namespace Wd
theorem D0_low:∀ k,k < 16→-1≤selA D0 k:=fun k hk=>by
 rcases (show k=0∨k=1∨k=2∨k=3∨k=4∨k=5∨k=6∨k=7∨k=8∨k=9∨k=10∨k=11∨k=12∨k=13∨k=14∨k=15 by omega) with rfl | rfl | rfl | rfl | rfl | rfl | rfl | rfl | rfl | rfl | rfl | rfl | rfl | rfl | rfl | rfl <;> decide
theorem dnew_d (w:World):Calls Tryz.prog 96 #[] w fun e w'=>∃ b,e=.returned (.pointer (some ⟨b,0,none⟩))∧DA w' b D0 (fun k=>k=b)∧w.heap.size≤b∧Below w.heap.size w w':=by
 refine (dnew_c w).mono ?_
 rintro e w' ⟨b,rfl,hR,hb,hB⟩
 exact⟨b,rfl,⟨hR,D0_low,fun k=>Iff.rfl⟩,hb,hB⟩
theorem DA.keepF {w w':World} {p:Nat} {D:Dst} {F:Nat→Prop} (h:DA w p D F) (g:∀ k,F k→w'.heap[k]?=w.heap[k]?):DA w' p D F :=
 ⟨h.ref.same (g p ((h.own p).2 rfl)),h.low,h.own⟩
theorem dput_p {w:World} {b:Nat} {D:Dst} (h:DA w b D (fun k=>k=b)) (sel met:Int) (hs:I64 sel) (hm:I64 met) :
  Calls Tryz.prog 97 #[.pointer (some ⟨b,0,none⟩),.int .i64 sel,.int .i64 met] w fun e w'=>e=.returned (.bool (putB D sel))∧DA w' b (putD D sel met) (fun k=>k=b)∧Ch (fun k=>k=b) w w':=by
 refine (dput_c h sel met hs hm).mono ?_
 rintro e w' ⟨F',rfl,hd,hc,hn⟩
 exact⟨rfl,⟨hd.ref,hd.low,fun k=>Iff.rfl⟩,hc⟩
set_option maxHeartbeats 8000000 in
theorem dof_c {w:World} {v:Value} {B:List (Int × Int)} (h:PrV w v B) :
  Calls Tryz.prog 80 #[v] w fun e w'=>((∃ D b,ofD B D0=some D∧e=.returned (.tuple #[.pointer (some ⟨b,0,none⟩),.bool true])∧DA w' b D (fun k=>k=b)∧w.heap.size≤b)∨(ofD B D0=none∧e=.returned (.tuple #[.pointer none,.bool false])))∧Below w.heap.size w w':=by
 obtain⟨ad,cap,rfl,hcap,hmx⟩:=h.form
 obtain⟨n,hn⟩:∃ n,n=B.length:=⟨_,rfl⟩
 rw [← hn] at h hcap ⊢
 replace h:=Lib.hid h
 have hn':=Lib.hid hn
 have hnm:n≤9223372036854775807:=by have:maxLen≤9223372036854775807:=by decide
                                    omega
 clear hmx hn
 go_enter Tryz.func80,Tryz.ntmps80
 go_upto_region 2 with (first | (go_at_call 96;((with_reducible refine (dnew_d _).mono ?_);rintro e1 w1 ⟨b,rfl,hR,hb,hB⟩)))
 replace hR:=Lib.hid hR
 replace hB:=Lib.hid hB
 have hst:Hid (ofD B D0=ofD (B.drop 0) D0):=Lib.hid (by simp)
 go_wp2
 go_loopw [10] (fun i10 wr=>∃ (k:Nat) (D:Dst),k≤n∧i10=.int .i64 k∧Hid (DA wr b D (fun k=>k=b))∧Hid (ofD B D0=ofD (B.drop k) D)∧Hid (Below w.heap.size w wr)) (fun i10 _=>n - (intOf i10).toNat)
 case atStart=>exact⟨0,D0,by omega,rfl,hR,hst,hB⟩
 case round =>
  clear hR hst hB
  obtain⟨k,D,hk,rfl,hR,hO,hB⟩:=hrel
  by_cases hlt:k < n
  ·have d1:decide ((k:Int) < (n:Int))=true:=by simp;omega
   have p0:(0:Int)≤(k:Int):=by omega
   have p1:(k:Int) < (n:Int):=by omega
   obtain⟨⟨bs,bm⟩,hx⟩:∃ x,B[k]?=some x:=⟨B[k]'(by have:=hn'.out;omega),by simp⟩
   obtain⟨s64,m64,g,off,rfl,c0,c1⟩:=(h.out.up hB.out).at hx
   simp only at s64 m64 c0 c1
   have hB1:=Lib.hid (hB.out.alloc hB.out.size (.cells #[.int .i64 bs,.int .i64 bm] 78))
   have hR1:=hR.out.keepF (w':=wr.alloc (.cells #[.int .i64 bs,.int .i64 bm] 78)) (fun k hk=>((Below.refl wr.heap.size wr).alloc (Nat.le_refl _) (.cells #[.int .i64 bs,.int .i64 bm] 78)).block k (by subst hk;exact hR.out.ref.lt))
   have PP:=dput_p hR1 bs bm s64 m64
   have hs:=fun h=>of_step (D:=D) hx h
   have ht:=fun h=>of_stop (D:=D) hx h
   clear hx
   cases hpb:putB D bs with
   | true =>
    rw [hpb] at PP
    replace PP:=Lib.hid PP
    have hO':=Lib.hid (hO.out.trans (hs hpb))
    clear hpb hs ht hR1
    go_wp2_with (first | (go_at_call 97;((with_reducible refine PP.out.mono ?_);rintro e1 w2 ⟨rfl,hR2,hc2⟩)))
    go_roundw
    case rel=>exact⟨k+1,_,by omega,by go_num,Lib.hid hR2,hO',Lib.hid (rel_below hB1.out hc2 hb)⟩
    case measure=>simp [intOf];omega
   | false =>
    rw [hpb] at PP
    replace PP:=Lib.hid PP
    have hO':=Lib.hid (hO.out.trans (ht hpb))
    clear hpb hs ht hR1
    go_wp2_with (first | (go_at_call 97;((with_reducible refine PP.out.mono ?_);rintro e1 w2 ⟨rfl,hR2,hc2⟩)))
    go_ret2
    exact⟨Or.inr ⟨hO'.out,rfl⟩,rel_below hB1.out hc2 hb⟩
  ·have d1:decide ((k:Int) < (n:Int))=false:=by simp;omega
   have e:=hO.out
   rw [show k=B.length by have:=hn'.out;omega,List.drop_length,ofD] at e
   replace e:=Lib.hid e
   go_wp2
   go_ret2
   exact⟨Or.inl ⟨D,b,e.out,rfl,hR.out,hb⟩,hB.out⟩
end Wd
end Go.Proofs.YteiejjmhmmkdhaaGreat

/- The landed programs: how much of each; what is wrong with the classes. -/
namespace Go.Proofs.YteiejjmhmmkdhaaGreat
open Go.RowKit
set_option linter.unusedVariables false
set_option maxRecDepth 20000
namespace Wd
theorem UnK.v1 {w:World} {u:Value} {U:UnitA} (hu:UnK w u U):∃ na nc ca cc ma mc oa oc l1 l2 l3 l4,u=.agg #[.slice na l1 nc,.slice ca l2 cc,.slice ma l3 mc,.slice oa l4 oc,.int .i64 U.main]∧V1 w (w.alloc (.cells #[.slice na l1 nc,.slice ca l2 cc,.slice ma l3 mc,.slice oa l4 oc,.int .i64 U.main] 32)) U na nc ca cc ma mc oa oc l1 l2 l3 l4∧(l1:Int)≤9223372036854775807∧(l2:Int)≤9223372036854775807∧(l3:Int)≤9223372036854775807∧(l4:Int)≤9223372036854775807:=by
 obtain⟨na,nc,ca,cc,ma,mc,oa,oc,rfl,ha'⟩:=hu.ex
 obtain⟨_,_,e1,k1,m1,-⟩:=ha'.n.ex
 cases e1
 obtain⟨_,_,e2,k2,m2⟩:=ha'.c.form
 cases e2
 obtain⟨_,_,e3,k3,m3,-⟩:=ha'.m.ex
 cases e3
 obtain⟨_,_,e4,k4,m4,-⟩:=ha'.o.ex
 cases e4
 obtain⟨v1,v2,v3,v4⟩:=ha'
 have hmx:maxLen≤9223372036854775807:=by decide
 have hw1:=(Below.refl w.heap.size w).alloc (Nat.le_refl _) (.cells #[.slice na U.names.length nc,.slice ca U.classes.length cc,.slice ma U.methods.length mc,.slice oa U.objects.length oc,.int .i64 U.main] 32)
 exact⟨na,nc,ca,cc,ma,mc,oa,oc,_,_,_,_,rfl,⟨⟨by simp,by simp,by simp,by simp,by simp⟩,⟨v1.up hw1,v2.up hw1,v3.up hw1,v4.up hw1⟩,⟨rfl,rfl,rfl,rfl⟩,⟨by omega,by omega,by omega,by omega⟩,⟨k1,k2,k3,k4⟩,hw1⟩,by omega,by omega,by omega,by omega⟩
structure FE (r:Int) (X:List Int):Prop where
 mk ::
 eq:r=firstE X
theorem FE.ok {r e:Int} {X:List Int} (h:FE r (e :: X)) (he:e=0):FE r X:=⟨by rw [h.eq,firstE,if_pos he]⟩
theorem FE.bad {r e:Int} {X:List Int} (h:FE r (e :: X)) (he:¬ e=0):r=e:=by rw [h.eq,firstE,if_neg he]
theorem firstE_app:∀ (A B:List Int),firstE (A++B)=if firstE A=0 then firstE B else firstE A
 | [],B=>by simp [firstE]
 | e :: A,B=>by
  rw [List.cons_append,firstE,firstE]
  by_cases h:e=0
  ·rw [if_pos h,if_pos h];exact firstE_app A B
  ·rw [if_neg h,if_neg h,if_neg h]
def cRest (U:UnitA) (k:Nat):List Int:=(U.classes.drop k).map (fun c=>eBinds c.binds)
def whyC (U:UnitA):Int:=firstE (shapeR U.classes U.names.length U.methods.length :: cRest U 0)
theorem cRest_next {U:UnitA} {k:Nat} {c:ClassA} (h:U.classes[k]?=some c):cRest U k=eBinds c.binds :: cRest U (k+1):=by unfold cRest;rw [drop_next h];rfl
theorem cRest_last {U:UnitA} {k:Nat} (h:k=U.classes.length):cRest U k=[]:=by unfold cRest;rw [drop_all h];rfl
theorem longB_no {U:UnitA} {l1 l3 l4:Nat} (g1:l1=U.names.length) (g3:l3=U.methods.length) (g4:l4=U.objects.length) (h:l1≤48∧1≤l3∧l3≤32∧1≤l4∧l4≤40):longB U=false:=by
 unfold longB
 rw [← g1,← g3,← g4]
 simp;omega
theorem longB_yes {U:UnitA} {l1 l3 l4:Nat} (g1:l1=U.names.length) (g3:l3=U.methods.length) (g4:l4=U.objects.length) (h:¬ (l1≤48∧1≤l3∧l3≤32∧1≤l4∧l4≤40)):longB U=true:=by
 unfold longB
 rw [← g1,← g3,← g4]
 simp;omega
set_option maxHeartbeats 16000000 in
theorem ulengths_c {w:World} {u:Value} {U:UnitA} (hu:UnK w u U) :
  Calls Tryz.prog 63 #[u] w fun e w'=>e=.returned (.bool (!longB U))∧Below w.heap.size w w':=by
 obtain⟨na,nc,ca,cc,ma,mc,oa,oc,l1,l2,l3,l4,rfl,hS,j1,j2,j3,j4⟩:=hu.v1
 clear hu
 obtain⟨g1,g2,g3,g4⟩:=hS.lens
 have LN:=Lib.hid (longB_no (U:=U) g1 g3 g4)
 have LY:=Lib.hid (longB_yes (U:=U) g1 g3 g4)
 replace hS:=Lib.hid hS
 clear g1 g2 g3 g4
 generalize longB U=r at *
 go_enter Tryz.func63,Tryz.ntmps63
 go_upto_region 1 with fail
 generalize w.alloc (.cells #[.slice na l1 nc,.slice ca l2 cc,.slice ma l3 mc,.slice oa l4 oc,.int .i64 U.main] 32)=W at *
 obtain⟨a0,a1,a2,a3,a4⟩:=hS.out.cells
 by_cases t0:¬ (l1≤48)
 ·as_aux_lemma =>
  have e:Hid (r=true):=Lib.hid (LY.out (by omega))
  have d0:decide ((l1:Int)≤48)=false:=by simp;omega
  clear t0
  go_wp2
  go_ret
  exact⟨by rw [e.out];rfl,hS.out.bel⟩
 have d0:decide ((l1:Int)≤48)=true:=by simp;omega
 by_cases t1:¬ (1≤l3)
 ·as_aux_lemma =>
  have e:Hid (r=true):=Lib.hid (LY.out (by omega))
  have d1:decide ((l3:Int) ≥ 1)=false:=by simp;omega
  clear t1
  go_wp2
  go_ret
  exact⟨by rw [e.out];rfl,hS.out.bel⟩
 have d1:decide ((l3:Int) ≥ 1)=true:=by simp;omega
 by_cases t2:¬ (l3≤32)
 ·as_aux_lemma =>
  have e:Hid (r=true):=Lib.hid (LY.out (by omega))
  have d2:decide ((l3:Int)≤32)=false:=by simp;omega
  clear t2
  go_wp2
  go_ret
  exact⟨by rw [e.out];rfl,hS.out.bel⟩
 have d2:decide ((l3:Int)≤32)=true:=by simp;omega
 by_cases t3:¬ (1≤l4)
 ·as_aux_lemma =>
  have e:Hid (r=true):=Lib.hid (LY.out (by omega))
  have d3:decide ((l4:Int) ≥ 1)=false:=by simp;omega
  clear t3
  go_wp2
  go_ret
  exact⟨by rw [e.out];rfl,hS.out.bel⟩
 have d3:decide ((l4:Int) ≥ 1)=true:=by simp;omega
 by_cases t4:¬ (l4≤40)
 ·as_aux_lemma =>
  have e:Hid (r=true):=Lib.hid (LY.out (by omega))
  have d4:decide ((l4:Int)≤40)=false:=by simp;omega
  clear t4
  go_wp2
  go_ret
  exact⟨by rw [e.out];rfl,hS.out.bel⟩
 have d4:decide ((l4:Int)≤40)=true:=by simp;omega
 have e:Hid (r=false):=Lib.hid (LN.out (by omega))
 clear t0 t1 t2 t3 t4
 go_wp2
 go_ret
 exact⟨by rw [e.out];rfl,hS.out.bel⟩
set_option maxHeartbeats 32000000 in
theorem uwhyC_c {w:World} {u:Value} {U:UnitA} (hu:UnK w u U) :
  Calls Tryz.prog 65 #[u] w fun e w'=>e=.returned (.int .i64 (whyC U))∧Below w.heap.size w w':=by
 obtain⟨na,nc,ca,cc,ma,mc,oa,oc,l1,l2,l3,l4,rfl,hS,j1,j2,j3,j4⟩:=hu.v1
 clear hu
 have gg:=Lib.hid hS.lens
 replace hS:=Lib.hid hS
 have PS:=Lib.hid (fun (w':World) (h:ClV w' (.slice ca l2 cc) U.classes)=>kright h l1 l3 (in64 _ ⟨by omega,by omega⟩) (in64 _ ⟨by omega,by omega⟩))
 have T2:Hid (FE (whyC U) (shapeR U.classes l1 l3 :: cRest U 0)):=Lib.hid (by obtain⟨g1,g2,g3,g4⟩:=gg.out;rw [g1,g3];exact⟨rfl⟩)
 generalize whyC U=r at *
 go_enter Tryz.func65,Tryz.ntmps65
 go_upto_region 1 with fail
 generalize w.alloc (.cells #[.slice na l1 nc,.slice ca l2 cc,.slice ma l3 mc,.slice oa l4 oc,.int .i64 U.main] 32)=W at *
 obtain⟨a0,a1,a2,a3,a4⟩:=hS.out.cells
 go_wp2_with fail
 refine (PS.out _ hS.out.views.2.1).mono ?_
 rintro e w2 ⟨rfl,hb2⟩
 replace hS:=Lib.hid (hS.out.up hb2)
 clear hb2 a0 a1 a2 a3 a4 PS
 obtain⟨a0,a1,a2,a3,a4⟩:=hS.out.cells
 generalize shapeR U.classes l1 l3=s at *
 by_cases hz:¬ s=0
 ·as_aux_lemma =>
  have e:Hid (r=s):=Lib.hid (T2.out.bad hz)
  have hz':(s != 0)=true:=by simpa using hz
  clear T2 hz
  go_wp2
  go_ret
  exact⟨congrArg (fun b=>Ending.returned (Value.int .i64 b)) e.out.symm,hS.out.bel⟩
 replace hz:s=0:=Decidable.not_not.1 hz
 subst hz
 have T3:=Lib.hid (T2.out.ok rfl)
 clear T2
 go_wp2
 clear a0 a1 a2 a3 a4
 go_loopw [23] (fun i wr=>∃ (k:Nat),k≤l2∧i=.int .i64 k∧Hid (FE r (cRest U k))∧Hid (V1 w wr U na nc ca cc ma mc oa oc l1 l2 l3 l4)) (fun i _=>l2 - (intOf i).toNat)
 case atStart=>exact⟨0,by omega,rfl,T3,hS⟩
 case round =>
  clear hS T3
  obtain⟨k,hk,rfl,hT,hS⟩:=hrel
  by_cases hlt:k < l2
  ·as_aux_lemma =>
   have hlt':decide ((k:Int) < (l2:Int))=true:=by simp;omega
   have p0:(0:Int)≤(k:Int):=by omega
   have p1:(k:Int) < (l2:Int):=by omega
   obtain⟨x,hx⟩:∃ x,U.classes[k]?=some x:=⟨U.classes[k]'(by obtain⟨h1,h2,h3,h4⟩:=gg.out;omega),by simp⟩
   obtain⟨_,_,g,off,bv,rfl,d0,d1,d2,d3,pb⟩:=ClV.at hS.out.views.2.1 hx
   obtain⟨ba,bc,rfl,_,_⟩:=pb.form
   have T:=hT.out
   rw [cRest_next hx] at T
   have hS2:=Lib.hid (hS.out.up ((Below.refl _ _).alloc (Nat.le_refl _) (.cells #[.string x.nm,.int .i64 x.super,.int .i64 x.fields,.slice ba x.binds.length bc] 72)))
   have pb2:=Lib.hid (pb.up ((Below.refl _ _).alloc (Nat.le_refl _) (.cells #[.string x.nm,.int .i64 x.super,.int .i64 x.fields,.slice ba x.binds.length bc] 72)))
   clear hT pb hx
   by_cases hz:¬ eBinds x.binds=0
   ·as_aux_lemma =>
    have e:Hid (r=14):=Lib.hid (by rw [T.bad hz];exact eBinds_14 hz)
    have hzh:=Lib.hid hz
    clear T hz
    go_wp2_with fail
    refine (dof_c pb2.out).mono ?_
    rintro e1 w3 ⟨hor,hb3⟩
    obtain⟨hno,rfl⟩:ofD x.binds D0=none∧e1=.returned (.tuple #[.pointer none,.bool false]):=by
     rcases hor with ⟨D,b,h,_⟩ | ⟨h1,h2⟩
     ·exact absurd (by unfold eBinds;rw [h];rfl) hzh.out
     ·exact⟨h1,h2⟩
    replace hS:=Lib.hid (hS2.out.up hb3)
    clear hS2 hb3 pb2 hor hno
    go_wp2
    go_ret
    exact⟨congrArg (fun b=>Ending.returned (Value.int .i64 b)) e.out.symm,hS.out.bel⟩
   replace hz:eBinds x.binds=0:=Decidable.not_not.1 hz
   have hzh:=Lib.hid hz
   have hT':=Lib.hid (T.ok hz)
   clear T hz
   go_wp2_with fail
   refine (dof_c pb2.out).mono ?_
   rintro e1 w3 ⟨hor,hb3⟩
   obtain⟨bq,rfl⟩:∃ bq,e1=.returned (.tuple #[.pointer (some ⟨bq,0,none⟩),.bool true]):=by
    rcases hor with ⟨D,b,_,h,_⟩ | ⟨h1,h2⟩
    ·exact⟨b,h⟩
    ·exact absurd hzh.out (by unfold eBinds;rw [h1];decide)
   replace hS:=Lib.hid (hS2.out.up hb3)
   clear hS2 hb3 pb2 hor
   go_wp2
   go_roundw
   case rel=>exact⟨k+1,by omega,by go_num,hT',hS⟩
   case measure=>simp [intOf];omega
  ·as_aux_lemma =>
   have hlt':decide ((k:Int) < (l2:Int))=false:=by simp;omega
   have e:Hid (r=0):=Lib.hid (by
    have h:=hT.out
    rw [cRest_last (by obtain⟨h1,h2,h3,h4⟩:=gg.out;omega)] at h
    exact h.eq)
   go_wp2
   go_ret
   exact⟨congrArg (fun b=>Ending.returned (Value.int .i64 b)) e.out.symm,hS.out.bel⟩
end Wd
end Go.Proofs.YteiejjmhmmkdhaaGreat

/- Are two programs the same? (the document's own: the walk) -/
namespace Go.Proofs.YteiejjmhmmkdhaaGreat
open Go.RowKit
set_option linter.unusedVariables false
set_option maxRecDepth 20000
namespace Wd
end Wd
end Go.Proofs.YteiejjmhmmkdhaaGreat

/- A program that is being turned: a copy in blocks of the call's own. -/
namespace Go.Proofs.YteiejjmhmmkdhaaGreat
open Go.RowKit
set_option linter.unusedVariables false
set_option maxRecDepth 20000
namespace Wd
theorem PrV.far {w w1:World} {v:Value} {L:List (Int × Int)} {F:Nat→Prop} (h:PrV w v L) (c:Cg F w w1) (hF:0 < L.length→∀ k,v.ownBlock=some k→¬ F k):PrV w1 v L:=by
 obtain⟨ad,cap,rfl,h1,h2,h3⟩:=h.ex
 refine⟨ad,cap,rfl,h1,h2,fun k x hx=>?_⟩
 obtain⟨i1,i2,g,off,e,c0,c1⟩:=h3 k x hx
 have hg:¬ F g:=hF (by have:=(List.getElem?_eq_some_iff.1 hx).1;omega) g (by rw [e];rfl)
 exact⟨i1,i2,g,off,e,(World.cell?_of_block (a:=⟨g,off+k*2,none⟩) (c.block g (World.block_lt_of_cell? w _ c0) hg)).trans c0,(World.cell?_of_block (a:=⟨g,off+k*2+1,none⟩) (c.block g (World.block_lt_of_cell? w _ c1) hg)).trans c1⟩
theorem ByV.far {w w1:World} {v:Value} {L:List Int} {F:Nat→Prop} (h:ByV w v L) (c:Cg F w w1) (hF:0 < L.length→∀ k,v.ownBlock=some k→¬ F k):ByV w1 v L:=by
 obtain⟨ad,cap,rfl,h1,h2,h3⟩:=h.ex
 refine⟨ad,cap,rfl,h1,h2,fun k x hx=>?_⟩
 obtain⟨i1,g,off,e,c0⟩:=h3 k x hx
 have hg:¬ F g:=hF (by have:=(List.getElem?_eq_some_iff.1 hx).1;omega) g (by rw [e];rfl)
 exact⟨i1,g,off,e,(World.cell?_of_block (a:=⟨g,off+k,none⟩) (c.block g (World.block_lt_of_cell? w _ c0) hg)).trans c0⟩
def StP (s:Nat) (I:Nat→Prop) (w:World) (v:Value) (L:List (Int × Int)):Prop:=∀ w2,Cg (fun k=>s≤k∧¬ I k) w w2→PrV w2 v L
def StB (s:Nat) (I:Nat→Prop) (w:World) (v:Value) (L:List Int):Prop:=∀ w2,Cg (fun k=>s≤k∧¬ I k) w w2→ByV w2 v L
section
variable {s:Nat} {I I':Nat→Prop} {w w1 w2:World} {v:Value} {L:List (Int × Int)} {C:List Int} {F:Nat→Prop}
theorem StP.cg (h:StP s I w v L) (c:Cg F w w1) (hF:∀ k,F k→s≤k∧¬ I k):StP s I w1 v L:=fun w2 c2=>h w2 ((c.mono hF).trans c2)
theorem StB.cg (h:StB s I w v C) (c:Cg F w w1) (hF:∀ k,F k→s≤k∧¬ I k):StB s I w1 v C:=fun w2 c2=>h w2 ((c.mono hF).trans c2)
theorem StP.more (h:StP s I w v L) (hI:∀ k,I k→I' k):StP s I' w v L:=fun w2 c=>h w2 (c.mono (fun k hk=>⟨hk.1,fun hi=>hk.2 (hI k hi)⟩))
theorem StB.more (h:StB s I w v C) (hI:∀ k,I k→I' k):StB s I' w v C:=fun w2 c=>h w2 (c.mono (fun k hk=>⟨hk.1,fun hi=>hk.2 (hI k hi)⟩))
theorem StP.view (h:StP s I w v L):PrV w v L:=h w (Cg.refl _ _)
theorem StB.view (h:StB s I w v C):ByV w v C:=h w (Cg.refl _ _)
theorem below_cg {w0:World} (b:Below w0.heap.size w0 w) (c:Cg F w w2) (hF:∀ k,F k→w0.heap.size≤k):Below w0.heap.size w0 w2 :=
 ⟨c.os.trans b.os,c.tape.trans b.tape,c.output.trans b.output,Nat.le_trans b.size c.size,fun k hk=>(c.block k (Nat.lt_of_lt_of_le hk b.size) (fun hf=>by have:=hF k hf;omega)).trans (b.block k hk)⟩
theorem StP.old {w0:World} (h:PrV w0 v L) (b:Below w0.heap.size w0 w):StP w0.heap.size I w v L:=fun w2 c=>h.up (below_cg b c (fun k hk=>hk.1))
theorem StB.old {w0:World} (h:ByV w0 v C) (b:Below w0.heap.size w0 w):StB w0.heap.size I w v C:=fun w2 c=>h.up (below_cg b c (fun k hk=>hk.1))
theorem StP.new (h:PrV w v L) (hI:∀ k,v.ownBlock=some k→I k):StP s I w v L:=fun w2 c=>h.far c (fun _ k hk hF=>hF.2 (hI k hk))
theorem StB.new (h:ByV w v C) (hI:∀ k,v.ownBlock=some k→I k):StB s I w v C:=fun w2 c=>h.far c (fun _ k hk hF=>hF.2 (hI k hk))
end
structure Zb (b:Nat) (U:UnitA):Prop where
 n:U.names.length≤b
 c1:1≤U.classes.length
 c:U.classes.length≤b
 m1:1≤U.methods.length
 m:U.methods.length≤b
 o1:1≤U.objects.length
 o:U.objects.length≤b
 cb:∀ x∈U.classes,x.binds.length≤b
 mb:∀ x∈U.methods,x.lits.length≤b∧x.code.length≤b
 ob:∀ x∈U.objects,x.flds.length≤b
 ns:∀ x∈U.names,x.size≤140737488355328
 cs:∀ x∈U.classes,x.nm.size≤140737488355328
abbrev uz5:Obj:=.cells #[.slice none 0 0,.slice none 0 0,.slice none 0 0,.slice none 0 0,.int .i64 0] 32 (0,0)
structure OB (w0 wr:World) (x0 x1 x2 x3:Value) (main:Int):Prop where
 c0:wr.cell? ⟨w0.heap.size,0,none⟩=some x0
 c1:wr.cell? ⟨w0.heap.size,1,none⟩=some x1
 c2:wr.cell? ⟨w0.heap.size,2,none⟩=some x2
 c3:wr.cell? ⟨w0.heap.size,3,none⟩=some x3
 c4:wr.cell? ⟨w0.heap.size,4,none⟩=some (.int .i64 main)
 z:∀ j,wr.frozen? ⟨w0.heap.size,j,none⟩=false
 r:wr.heap[w0.heap.size+1]?=some uz5
 bel:Below w0.heap.size w0 wr
section
variable {w0 wr w1:World} {x0 x1 x2 x3 x:Value} {main:Int} {F:Nat→Prop}
theorem OB.sz (h:OB w0 wr x0 x1 x2 x3 main):w0.heap.size+2≤wr.heap.size:=by have:=(Array.getElem?_eq_some_iff.1 h.r).1;omega
theorem OB.cg (h:OB w0 wr x0 x1 x2 x3 main) (c:Cg F wr w1) (hF:∀ k,F k→w0.heap.size+2≤k):OB w0 w1 x0 x1 x2 x3 main:=by
 have hs:=h.sz
 have hb:=c.block w0.heap.size (by omega) (fun hf=>by have:=hF _ hf;omega)
 have hr:=c.block (w0.heap.size+1) (by omega) (fun hf=>by have:=hF _ hf;omega)
 exact⟨(World.cell?_of_block (a:=⟨w0.heap.size,0,none⟩) hb).trans h.c0,(World.cell?_of_block (a:=⟨w0.heap.size,1,none⟩) hb).trans h.c1,(World.cell?_of_block (a:=⟨w0.heap.size,2,none⟩) hb).trans h.c2,(World.cell?_of_block (a:=⟨w0.heap.size,3,none⟩) hb).trans h.c3,(World.cell?_of_block (a:=⟨w0.heap.size,4,none⟩) hb).trans h.c4,fun j=>(World.frozen?_of_block (a:=⟨w0.heap.size,j,none⟩) hb).trans (h.z j),hr.trans h.r,below_cg h.bel c (fun k hk=>by have:=hF k hk;omega)⟩
theorem OB.up (h:OB w0 wr x0 x1 x2 x3 main) (b:Below wr.heap.size wr w1):OB w0 w1 x0 x1 x2 x3 main:=h.cg (F:=fun _=>False) (Cg.below _ b) (fun _ e=>e.elim)
theorem OB.oth {i j:Nat} {v:Value} (hij:i≠j) (h:wr.cell? ⟨w0.heap.size,j,none⟩=some v):(wr.setCell ⟨w0.heap.size,i,none⟩ x).cell? ⟨w0.heap.size,j,none⟩=some v:=(World.cell?_setCell_other _ _ _ _ (by intro e;injection e with _ h2;omega)).trans h
theorem OB.set1 (h:OB w0 wr x0 x1 x2 x3 main) (x:Value):OB w0 (wr.setCell ⟨w0.heap.size,1,none⟩ x) x0 x x2 x3 main :=
 ⟨OB.oth (by decide) h.c0,World.cell?_setCell_same _ _ _ h.c1,OB.oth (by decide) h.c2,OB.oth (by decide) h.c3,OB.oth (by decide) h.c4,fun j=>(World.frozen?_setCell _ _ _ _).trans (h.z j),(Below.heap_setCell _ _ _ _ (by simp only;omega)).trans h.r,h.bel.setCell (Nat.le_refl _) _⟩
theorem OB.set2 (h:OB w0 wr x0 x1 x2 x3 main) (x:Value):OB w0 (wr.setCell ⟨w0.heap.size,2,none⟩ x) x0 x1 x x3 main :=
 ⟨OB.oth (by decide) h.c0,OB.oth (by decide) h.c1,World.cell?_setCell_same _ _ _ h.c2,OB.oth (by decide) h.c3,OB.oth (by decide) h.c4,fun j=>(World.frozen?_setCell _ _ _ _).trans (h.z j),(Below.heap_setCell _ _ _ _ (by simp only;omega)).trans h.r,h.bel.setCell (Nat.le_refl _) _⟩
theorem OB.set3 (h:OB w0 wr x0 x1 x2 x3 main) (x:Value):OB w0 (wr.setCell ⟨w0.heap.size,3,none⟩ x) x0 x1 x2 x main :=
 ⟨OB.oth (by decide) h.c0,OB.oth (by decide) h.c1,OB.oth (by decide) h.c2,World.cell?_setCell_same _ _ _ h.c3,OB.oth (by decide) h.c4,fun j=>(World.frozen?_setCell _ _ _ _).trans (h.z j),(Below.heap_setCell _ _ _ _ (by simp only;omega)).trans h.r,h.bel.setCell (Nat.le_refl _) _⟩
theorem OB.set4 (h:OB w0 wr x0 x1 x2 x3 main) (m:Int):OB w0 (wr.setCell ⟨w0.heap.size,4,none⟩ (.int .i64 m)) x0 x1 x2 x3 m :=
 ⟨OB.oth (by decide) h.c0,OB.oth (by decide) h.c1,OB.oth (by decide) h.c2,OB.oth (by decide) h.c3,World.cell?_setCell_same _ _ _ h.c4,fun j=>(World.frozen?_setCell _ _ _ _).trans (h.z j),(Below.heap_setCell _ _ _ _ (by simp only;omega)).trans h.r,h.bel.setCell (Nat.le_refl _) _⟩
end
structure OU (w0 wr:World) (I:Nat→Prop) (b:Nat) (N:List ByteArray) (T:List (ClassA × Value)) (M:List (MethA × Value × Value)) (O:List (ObjA × Value)) (nv cv mv ov:Value) (main:Int):Prop where
 bx:OB w0 wr nv cv mv ov main
 on:wr.ownsRow (w0.heap.size+2) 9 1 nv N.length (strs N)
 oc:wr.ownsRow (w0.heap.size+2) 72 4 cv T.length (cl4s T)
 om:wr.ownsRow (w0.heap.size+2) 75 4 mv M.length (mt4s M)
 oo:wr.ownsRow (w0.heap.size+2) 66 2 ov O.length (ob2s O)
 ic:∀ x∈T,In64 x.1.super∧In64 x.1.fields∧x.1.binds.length≤b∧StP w0.heap.size I wr x.2 x.1.binds
 im:∀ x∈M,In64 x.1.args∧In64 x.1.temps∧x.1.lits.length≤b∧x.1.code.length≤b∧StP w0.heap.size I wr x.2.1 x.1.lits∧StB w0.heap.size I wr x.2.2 x.1.code
 io:∀ x∈O,In64 x.1.cls∧x.1.flds.length≤b∧StP w0.heap.size I wr x.2 x.1.flds
 ap:(∀ k,nv.ownBlock=some k→cv.ownBlock≠some k∧mv.ownBlock≠some k∧ov.ownBlock≠some k∧¬ I k)∧(∀ k,cv.ownBlock=some k→mv.ownBlock≠some k∧ov.ownBlock≠some k∧¬ I k)∧(∀ k,mv.ownBlock=some k→ov.ownBlock≠some k∧¬ I k)∧(∀ k,ov.ownBlock=some k→¬ I k)
 iI:∀ k,I k→w0.heap.size+2≤k
 ct:1≤T.length∧1≤M.length∧1≤O.length
 cn:N.length≤b∧T.length≤b∧M.length≤b∧O.length≤b
 ns:∀ x∈N,x.size≤140737488355328
 cs:∀ x∈T,x.1.nm.size≤140737488355328
section
variable {w0 wr w1 w2:World} {I I':Nat→Prop} {b b':Nat} {N:List ByteArray} {T:List (ClassA × Value)} {M:List (MethA × Value × Value)} {O:List (ObjA × Value)} {nv cv mv ov:Value} {main:Int} {F:Nat→Prop}
theorem OU.cg (h:OU w0 wr I b N T M O nv cv mv ov main) (c:Cg F wr w1) (hF:∀ k,F k→w0.heap.size+2≤k∧¬ I k∧nv.ownBlock≠some k∧cv.ownBlock≠some k∧mv.ownBlock≠some k∧ov.ownBlock≠some k):OU w0 w1 I b N T M O nv cv mv ov main:=by
 have hi:∀ k,F k→w0.heap.size≤k∧¬ I k:=fun k hk=>⟨by have:=(hF k hk).1;omega,(hF k hk).2.1⟩
 exact⟨h.bx.cg c (fun k hk=>(hF k hk).1),row_cg h.on c (fun k e hf=>(hF k hf).2.2.1 e),row_cg h.oc c (fun k e hf=>(hF k hf).2.2.2.1 e),row_cg h.om c (fun k e hf=>(hF k hf).2.2.2.2.1 e),row_cg h.oo c (fun k e hf=>(hF k hf).2.2.2.2.2 e),fun x hx=>by obtain⟨a,d,e,f⟩:=h.ic x hx;exact⟨a,d,e,f.cg c hi⟩,fun x hx=>by obtain⟨a,d,e,f,g,k⟩:=h.im x hx;exact⟨a,d,e,f,g.cg c hi,k.cg c hi⟩,fun x hx=>by obtain⟨a,d,e⟩:=h.io x hx;exact⟨a,d,e.cg c hi⟩,h.ap,h.iI,h.ct,h.cn,h.ns,h.cs⟩
theorem OU.up (h:OU w0 wr I b N T M O nv cv mv ov main) (bl:Below wr.heap.size wr w1):OU w0 w1 I b N T M O nv cv mv ov main:=h.cg (F:=fun _=>False) (Cg.below _ bl) (fun _ e=>e.elim)
theorem OU.more (h:OU w0 wr I b N T M O nv cv mv ov main) (hb:b≤b') (hI:∀ k,I k→I' k) (hI':∀ k,I' k→I k∨wr.heap.size≤k):OU w0 wr I' b' N T M O nv cv mv ov main:=by
 have hs:=h.bx.sz
 have lt:∀ {v:Value} {e:TypeId} {sz n:Nat} {xs:List Value},wr.ownsRow (w0.heap.size+2) e sz v n xs→∀ k,v.ownBlock=some k→¬ I k→¬ I' k:=fun hr k hk hn hi=>by
  rcases hI' k hi with h1 | h1
  ·exact hn h1
  ·have:=(hr.lt k hk).2;omega
 obtain⟨a1,a2,a3,a4⟩:=h.ap
 exact⟨h.bx,h.on,h.oc,h.om,h.oo,fun x hx=>by obtain⟨a,d,e,f⟩:=h.ic x hx;exact⟨a,d,Nat.le_trans e hb,f.more hI⟩,fun x hx=>by obtain⟨a,d,e,f,g,k⟩:=h.im x hx;exact⟨a,d,Nat.le_trans e hb,Nat.le_trans f hb,g.more hI,k.more hI⟩,fun x hx=>by obtain⟨a,d,e⟩:=h.io x hx;exact⟨a,Nat.le_trans d hb,e.more hI⟩,
  ⟨fun k hk=>⟨(a1 k hk).1,(a1 k hk).2.1,(a1 k hk).2.2.1,lt h.on k hk (a1 k hk).2.2.2⟩,fun k hk=>⟨(a2 k hk).1,(a2 k hk).2.1,lt h.oc k hk (a2 k hk).2.2⟩,fun k hk=>⟨(a3 k hk).1,lt h.om k hk (a3 k hk).2⟩,fun k hk=>lt h.oo k hk (a4 k hk)⟩,
  fun k hk=>by rcases hI' k hk with h1 | h1;exact h.iI k h1;omega,h.ct,by obtain⟨p,q,r,t⟩:=h.cn;exact⟨Nat.le_trans p hb,Nat.le_trans q hb,Nat.le_trans r hb,Nat.le_trans t hb⟩,h.ns,h.cs⟩
theorem OU.cls {g n cp k j:Nat} {y:ClassA × Value} {u:Value} (h:OU w0 wr I b N T M O nv (.slice (some ⟨g,0,none⟩) n cp) mv ov main) (hn:T.length=n) (hc:cl4s (T.set k y)=(cl4s T).set (k*4+j) u) (hy:In64 y.1.super∧In64 y.1.fields∧y.1.binds.length≤b∧StP w0.heap.size I wr y.2 y.1.binds) (hyn:y.1.nm.size≤140737488355328):OU w0 (wr.setCell ⟨g,k*4+j,none⟩ u) I b N (T.set k y) M O nv (.slice (some ⟨g,0,none⟩) n cp) mv ov main:=by
 have hg:=(h.oc.lt g rfl).1
 have c:Cg (fun q=>q=g) wr (wr.setCell ⟨g,k*4+j,none⟩ u):=(Cg.refl (fun q=>q=g) wr).set ⟨g,k*4+j,none⟩ rfl u
 obtain⟨a1,a2,a3,a4⟩:=h.ap
 have hi:∀ q,q=g→w0.heap.size≤q∧¬ I q:=fun q hq=>⟨by omega,by subst hq;exact (a2 q rfl).2.2⟩
 have ho:=h.oc
 rw [hn] at ho
 have hst:=(ho.stored (k*4+j) u).1
 rw [← hc] at hst
 have hl:(T.set k y).length=T.length:=List.length_set
 refine⟨h.bx.cg c (fun q hq=>by omega),row_set h.on _ _ (fun e=>?_),by rw [hl,hn];exact hst,row_set h.om _ _ (fun e=>?_),row_set h.oo _ _ (fun e=>?_),?_,?_,?_,h.ap,h.iI,by rw [hl];exact h.ct,by rw [hl];exact h.cn,h.ns,fun x hx=>(List.mem_or_eq_of_mem_set hx).elim (fun m=>h.cs x m) (fun e=>by rw [e];exact hyn)⟩
 ·exact (a1 g e).1 rfl
 ·exact (a2 g rfl).1 e
 ·exact (a2 g rfl).2.1 e
 ·intro x hx
  have hx':=(List.mem_or_eq_of_mem_set hx).elim (fun m=>h.ic x m) (fun e=>by rw [e];exact hy)
  obtain⟨a,d,e,f⟩:=hx'
  exact⟨a,d,e,f.cg c hi⟩
 ·intro x hx;obtain⟨a,d,e,f,p,q⟩:=h.im x hx;exact⟨a,d,e,f,p.cg c hi,q.cg c hi⟩
 ·intro x hx;obtain⟨a,d,e⟩:=h.io x hx;exact⟨a,d,e.cg c hi⟩
theorem OU.met {g n cp k j:Nat} {y:MethA × Value × Value} {u:Value} (h:OU w0 wr I b N T M O nv cv (.slice (some ⟨g,0,none⟩) n cp) ov main) (hn:M.length=n) (hc:mt4s (M.set k y)=(mt4s M).set (k*4+j) u) (hy:In64 y.1.args∧In64 y.1.temps∧y.1.lits.length≤b∧y.1.code.length≤b∧StP w0.heap.size I wr y.2.1 y.1.lits∧StB w0.heap.size I wr y.2.2 y.1.code):OU w0 (wr.setCell ⟨g,k*4+j,none⟩ u) I b N T (M.set k y) O nv cv (.slice (some ⟨g,0,none⟩) n cp) ov main:=by
 have hg:=(h.om.lt g rfl).1
 have c:Cg (fun q=>q=g) wr (wr.setCell ⟨g,k*4+j,none⟩ u):=(Cg.refl (fun q=>q=g) wr).set ⟨g,k*4+j,none⟩ rfl u
 obtain⟨a1,a2,a3,a4⟩:=h.ap
 have hi:∀ q,q=g→w0.heap.size≤q∧¬ I q:=fun q hq=>⟨by omega,by subst hq;exact (a3 q rfl).2⟩
 have ho:=h.om
 rw [hn] at ho
 have hst:=(ho.stored (k*4+j) u).1
 rw [← hc] at hst
 have hl:(M.set k y).length=M.length:=List.length_set
 refine⟨h.bx.cg c (fun q hq=>by omega),row_set h.on _ _ (fun e=>?_),row_set h.oc _ _ (fun e=>?_),by rw [hl,hn];exact hst,row_set h.oo _ _ (fun e=>?_),?_,?_,?_,h.ap,h.iI,by rw [hl];exact h.ct,by rw [hl];exact h.cn,h.ns,h.cs⟩
 ·exact (a1 g e).2.1 rfl
 ·exact (a2 g e).1 rfl
 ·exact (a3 g rfl).1 e
 ·intro x hx;obtain⟨a,d,e,f⟩:=h.ic x hx;exact⟨a,d,e,f.cg c hi⟩
 ·intro x hx
  have hx':=(List.mem_or_eq_of_mem_set hx).elim (fun m=>h.im x m) (fun e=>by rw [e];exact hy)
  obtain⟨a,d,e,f,p,q⟩:=hx'
  exact⟨a,d,e,f,p.cg c hi,q.cg c hi⟩
 ·intro x hx;obtain⟨a,d,e⟩:=h.io x hx;exact⟨a,d,e.cg c hi⟩
end
end Wd
end Go.Proofs.YteiejjmhmmkdhaaGreat

/- Turning a program: rows that grow; how it ends. -/
namespace Go.Proofs.YteiejjmhmmkdhaaGreat
open Go.RowKit
set_option linter.unusedVariables false
set_option maxRecDepth 20000
namespace Wd
theorem NmV.own2 {w:World} {base:Nat} {e:TypeId} {v:Value} {T:List ByteArray} (h:w.ownsRow base e 1 v T.length (strs T)):NmV w v T:=by
 rcases h.2 with ⟨rfl,h0⟩ | ⟨g,cap,cur,rfl,h1,h2,h3,h4,_⟩
 ·have:T=[]:=List.length_eq_zero_iff.1 h0
  subst this
  exact⟨none,0,rfl,by simp,by decide,fun k x hx=>by simp at hx⟩
 ·refine⟨_,cap,rfl,h3,h4,fun k x hx=>⟨g,0,rfl,?_⟩⟩
  have hk:=(List.getElem?_eq_some_iff.1 hx).1
  rw [Nat.zero_add]
  exact (h.cellAt k (by omega)).trans (by simp [strs,hx])
theorem NmV.take {w:World} {ad:Option Addr} {n cap:Nat} {L:List ByteArray} (h:NmV w (.slice ad n cap) L) (k:Nat) (hk:k≤L.length):NmV w (.slice ad k cap) (L.take k):=by
 obtain⟨ad',cap',e,h1,h2,h3⟩:=h.ex
 cases e
 have hl:(L.take k).length=k:=by rw [List.length_take];omega
 refine⟨ad,cap,by rw [hl],by omega,h2,fun j x hx=>h3 j x ?_⟩
 rw [List.getElem?_take] at hx
 split at hx
 ·exact hx
 ·cases hx
structure OUf (w0 wx:World) (b:Nat):Prop where
 mk ::
 ex:∃ nv cv mv ov U,OB w0 wx nv cv mv ov U.main∧(∀ w2,Cg (fun k=>k=w0.heap.size+1) wx w2→UnV w2 nv cv mv ov U)∧Zb b U
section
variable {w0 wr w1 w2:World} {I I':Nat→Prop} {b b':Nat} {N:List ByteArray} {T:List (ClassA × Value)} {M:List (MethA × Value × Value)} {O:List (ObjA × Value)} {nv cv mv ov:Value} {main:Int} {F:Nat→Prop}
theorem OU.lst (h:OU w0 wr I b N T M O nv cv mv ov main) {w2:World} (c:Cg (fun k=>k=w0.heap.size+1) wr w2):UnV w2 nv cv mv ov ⟨N,T.map (·.1),M.map (·.1),O.map (·.1),main⟩:=by
 have hF:∀ {v:Value} {e:TypeId} {sz n:Nat} {xs:List Value},wr.ownsRow (w0.heap.size+2) e sz v n xs→∀ k,v.ownBlock=some k→¬ k=w0.heap.size+1:=fun hr k hk e=>by have:=(hr.lt k hk).1;omega
 have hi:∀ k,k=w0.heap.size+1→w0.heap.size≤k∧¬ I k:=fun k hk=>⟨by omega,fun hI=>by have:=h.iI k hI;omega⟩
 exact⟨NmV.own2 (row_cg h.on c (hF h.on)),ClV.own (row_cg h.oc c (hF h.oc)) (fun x hx=>by obtain⟨a,d,_,f⟩:=h.ic x hx;exact⟨a,d,(f.cg c hi).view⟩),MtV.own (row_cg h.om c (hF h.om)) (fun x hx=>by obtain⟨a,d,_,_,f,g⟩:=h.im x hx;exact⟨a,d,(f.cg c hi).view,(g.cg c hi).view⟩),ObV.own (row_cg h.oo c (hF h.oo)) (fun x hx=>by obtain⟨a,_,f⟩:=h.io x hx;exact⟨a,(f.cg c hi).view⟩)⟩
theorem OU.zb (h:OU w0 wr I b N T M O nv cv mv ov main):Zb b ⟨N,T.map (·.1),M.map (·.1),O.map (·.1),main⟩:=by
 obtain⟨p,q,r⟩:=h.ct
 obtain⟨n1,n2,n3,n4⟩:=h.cn
 exact⟨n1,by simpa using p,by simpa using n2,by simpa using q,by simpa using n3,by simpa using r,by simpa using n4,fun x hx=>by obtain⟨y,hy,rfl⟩:=List.mem_map.1 hx;exact (h.ic y hy).2.2.1,fun x hx=>by obtain⟨y,hy,rfl⟩:=List.mem_map.1 hx;exact⟨(h.im y hy).2.2.1,(h.im y hy).2.2.2.1⟩,fun x hx=>by obtain⟨y,hy,rfl⟩:=List.mem_map.1 hx;exact (h.io y hy).2.1,h.ns,fun x hx=>by obtain⟨y,hy,rfl⟩:=List.mem_map.1 hx;exact h.cs y hy⟩
theorem Zb.le {U:UnitA} (h:Zb b U) (hb:b≤b'):Zb b' U:=⟨Nat.le_trans h.n hb,h.c1,Nat.le_trans h.c hb,h.m1,Nat.le_trans h.m hb,h.o1,Nat.le_trans h.o hb,fun x hx=>Nat.le_trans (h.cb x hx) hb,fun x hx=>⟨Nat.le_trans (h.mb x hx).1 hb,Nat.le_trans (h.mb x hx).2 hb⟩,fun x hx=>Nat.le_trans (h.ob x hx) hb,h.ns,h.cs⟩
theorem OU.fin (h:OU w0 wr I b N T M O nv cv mv ov main) (hb:b≤b'):OUf w0 wr b':=⟨nv,cv,mv,ov,⟨N,T.map (·.1),M.map (·.1),O.map (·.1),main⟩,h.bx,fun w2 c=>h.lst c,h.zb.le hb⟩
theorem UnV.forms {w:World} {nv cv mv ov:Value} {U:UnitA} (h:UnV w nv cv mv ov U):∃ na nc ca cc ma mc oa oc,nv=.slice na U.names.length nc∧cv=.slice ca U.classes.length cc∧mv=.slice ma U.methods.length mc∧ov=.slice oa U.objects.length oc:=by
 obtain⟨na,nc,e1,_⟩:=h.n.ex
 obtain⟨ca,cc,e2,_⟩:=h.c.form
 obtain⟨ma,mc,e3,_⟩:=h.m.ex
 obtain⟨oa,oc,e4,_⟩:=h.o.form
 exact⟨na,nc,ca,cc,ma,mc,oa,oc,e1,e2,e3,e4⟩
theorem UnV.unk {w:World} {nv cv mv ov:Value} {U:UnitA} (h:UnV w nv cv mv ov U):UnK w (.agg #[nv,cv,mv,ov,.int .i64 U.main]) U:=by
 obtain⟨na,nc,ca,cc,ma,mc,oa,oc,rfl,rfl,rfl,rfl⟩:=h.forms
 exact⟨⟨na,nc,ca,cc,ma,mc,oa,oc,rfl,h⟩⟩
theorem OUf.last {w0 wx:World} {nv cv mv ov:Value} {U:UnitA} (hO:OB w0 wx nv cv mv ov U.main) (hU:∀ w2,Cg (fun k=>k=w0.heap.size+1) wx w2→UnV w2 nv cv mv ov U) (u0 u1 u2 u3 u4:Value):UnV (set5 wx (w0.heap.size+1) u0 u1 u2 u3 u4) nv cv mv ov U∧Below w0.heap.size w0 (set5 wx (w0.heap.size+1) u0 u1 u2 u3 u4):=by
 have c:Cg (fun k=>k=w0.heap.size+1) wx (set5 wx (w0.heap.size+1) u0 u1 u2 u3 u4):=by
  unfold set5 set4
  exact (((((Cg.refl (fun k=>k=w0.heap.size+1) wx).set ⟨w0.heap.size+1,0,none⟩ rfl u0).set ⟨w0.heap.size+1,1,none⟩ rfl u1).set ⟨w0.heap.size+1,2,none⟩ rfl u2).set ⟨w0.heap.size+1,3,none⟩ rfl u3).set ⟨w0.heap.size+1,4,none⟩ rfl u4
 exact⟨hU _ c,below_cg hO.bel c (fun k hk=>by omega)⟩
end
end Wd
end Go.Proofs.YteiejjmhmmkdhaaGreat

/- What the laws ask of the package; its answers are the document's own. -/
namespace Go.Proofs.YteiejjmhmmkdhaaGreat
open Go.RowKit
set_option linter.unusedVariables false
set_option maxRecDepth 20000
namespace Wd
def Fr (s:Nat) (w:World) (v:Value):Prop:=∀ g off n cap,v=.slice (some ⟨g,off,none⟩) n cap→0 < n→s≤g∧∀ j,w.frozen? ⟨g,j,none⟩=false
theorem range5 {w:World} {q:Nat} {a b c d e:Value} (h0:w.cell? ⟨q,0,none⟩=some a) (h1:w.cell? ⟨q,1,none⟩=some b) (h2:w.cell? ⟨q,2,none⟩=some c) (h3:w.cell? ⟨q,3,none⟩=some d) (h4:w.cell? ⟨q,4,none⟩=some e):w.rangeAt q 0 [a,b,c,d,e]:=by
 intro j v hj
 match j,hj with
 | 0,hj=>simp at hj;subst hj;exact h0
 | 1,hj=>simp at hj;subst hj;exact h1
 | 2,hj=>simp at hj;subst hj;exact h2
 | 3,hj=>simp at hj;subst hj;exact h3
 | 4,hj=>simp at hj;subst hj;exact h4
 | j+5,hj=>simp at hj
theorem UnB.range {w:World} {q:Nat} {u:Value} {U:UnitA} {na ka ma oa:Option Addr} {nc kc mc oc:Nat} (h:UnB w q u U na ka ma oa nc kc mc oc):w.rangeAt q 0 [.slice na U.names.length nc,.slice ka U.classes.length kc,.slice ma U.methods.length mc,.slice oa U.objects.length oc,.int .i64 U.main]:=range5 h.c0 h.c1 h.c2 h.c3 h.c4
structure SmB (w wr:World) (u:Value) (U:UnitA) (na ka ma oa:Option Addr) (nc kc mc oc:Nat):Prop where
 b:UnB wr w.heap.size u U na ka ma oa nc kc mc oc
 bel:Below w.heap.size w wr
theorem SmB.up {w wr w2:World} {u:Value} {U:UnitA} {na ka ma oa:Option Addr} {nc kc mc oc:Nat} (h:SmB w wr u U na ka ma oa nc kc mc oc) (b:Below wr.heap.size wr w2):SmB w w2 u U na ka ma oa nc kc mc oc:=⟨h.b.up b,h.bel.trans (b.mono h.bel.size)⟩
end Wd
end Go.Proofs.YteiejjmhmmkdhaaGreat

/- What the laws ask of the package's instructions. -/
namespace Go.Proofs.YteiejjmhmmkdhaaGreat
open Go.RowKit
set_option linter.unusedVariables false
set_option maxRecDepth 20000
namespace Wd
theorem range4 {w:World} {q:Nat} {a b c d:Value} (h0:w.cell? ⟨q,0,none⟩=some a) (h1:w.cell? ⟨q,1,none⟩=some b) (h2:w.cell? ⟨q,2,none⟩=some c) (h3:w.cell? ⟨q,3,none⟩=some d):w.rangeAt q 0 [a,b,c,d]:=by
 intro j v hj
 match j,hj with
 | 0,hj=>simp at hj;subst hj;exact h0
 | 1,hj=>simp at hj;subst hj;exact h1
 | 2,hj=>simp at hj;subst hj;exact h2
 | 3,hj=>simp at hj;subst hj;exact h3
 | j+4,hj=>simp at hj
theorem MeB.range {w:World} {q:Nat} {v:Value} {m:MethA} {la ca:Option Addr} {lc cc:Nat} (h:MeB w q v m la ca lc cc):w.rangeAt q 0 [.int .i64 m.args,.int .i64 m.temps,.slice la m.lits.length lc,.slice ca m.code.length cc]:=range4 h.c0 h.c1 h.c2 h.c3
structure SmS (w0 wr:World) (q q2 q7:Nat) (v u:Value) (m:MethA) (U:UnitA) (la ca na ka ma oa:Option Addr) (lc cc nc kc mc oc:Nat) (x y:Int):Prop where
 ms:MSt w0 wr q q2 v u m U la ca na ka ma oa lc cc nc kc mc oc
 x0:wr.cell? ⟨q7,0,none⟩=some (.int .i64 x)
 x1:wr.cell? ⟨q7,1,none⟩=some (.int .i64 y)
theorem SmS.up {w0 w w1:World} {q q2 q7:Nat} {v u:Value} {m:MethA} {U:UnitA} {la ca na ka ma oa:Option Addr} {lc cc nc kc mc oc:Nat} {x y:Int} (h:SmS w0 w q q2 q7 v u m U la ca na ka ma oa lc cc nc kc mc oc x y) (b:Below w.heap.size w w1):SmS w0 w1 q q2 q7 v u m U la ca na ka ma oa lc cc nc kc mc oc x y :=
 ⟨h.ms.up b,cell_up b h.x0,cell_up b h.x1⟩
theorem SmS.born {w0 w:World} {q q2:Nat} {v u:Value} {m:MethA} {U:UnitA} {la ca na ka ma oa:Option Addr} {lc cc nc kc mc oc:Nat} (h:MSt w0 w q q2 v u m U la ca na ka ma oa lc cc nc kc mc oc) (x y:Int) (T:TypeId):SmS w0 (w.alloc (.cells #[.int .i64 x,.int .i64 y] T)) q q2 w.heap.size v u m U la ca na ka ma oa lc cc nc kc mc oc x y :=
 ⟨h.up ((Below.refl _ _).alloc (Nat.le_refl _) _),by simp,by simp⟩
end Wd
end Go.Proofs.YteiejjmhmmkdhaaGreat

/- The landed instructions: one of so many, slots, what a primitive takes, names, has a method such a literal. -/
namespace Go.Proofs.YteiejjmhmmkdhaaGreat
open Go.RowKit
set_option linter.unusedVariables false
set_option maxRecDepth 20000
namespace Wd
theorem kisOne_c (x n:Int) (w:World):Calls Tryz.prog 118 #[.int .i64 x,.int .i64 n] w fun e w'=>e=.returned (.bool (decide (0≤x) && decide (x < n)))∧w'=w:=by
 by_cases h:0≤x
 ·have d1:decide (x ≥ 0)=true:=by simpa using h
  rw [decide_eq_true h]
  go_enter Tryz.func118,Tryz.ntmps118
  go_wp2
  go_ret
  exact⟨rfl,rfl⟩
 ·have d1:decide (x ≥ 0)=false:=by simpa using h
  rw [decide_eq_false h]
  go_enter Tryz.func118,Tryz.ntmps118
  go_wp2
  go_ret
  exact⟨rfl,rfl⟩
set_option maxHeartbeats 8000000 in
theorem ktakes_c (p:Int) (hp:In64 p) (w:World):Calls Tryz.prog 121 #[.int .i64 p] w fun e w'=>e=.returned (.int .i64 (takR p))∧Below w.heap.size w w':=by
 by_cases h:p < 0∨p > 23
 ·have e:Hid (takR p=-1):=Lib.hid (if_pos h)
  have f0:(p == 0)=false:=by simp;omega
  have f1:(p == 1)=false:=by simp;omega
  have f2:(p == 2)=false:=by simp;omega
  have f3:(p == 3)=false:=by simp;omega
  have f4:(p == 4)=false:=by simp;omega
  have f5:(p == 5)=false:=by simp;omega
  have f6:(p == 6)=false:=by simp;omega
  have f7:(p == 7)=false:=by simp;omega
  have f8:(p == 8)=false:=by simp;omega
  have f9:(p == 9)=false:=by simp;omega
  have f10:(p == 10)=false:=by simp;omega
  have f11:(p == 11)=false:=by simp;omega
  have f12:(p == 12)=false:=by simp;omega
  have f13:(p == 13)=false:=by simp;omega
  have f14:(p == 14)=false:=by simp;omega
  have f15:(p == 15)=false:=by simp;omega
  have f16:(p == 16)=false:=by simp;omega
  have f17:(p == 17)=false:=by simp;omega
  have f18:(p == 18)=false:=by simp;omega
  have f19:(p == 19)=false:=by simp;omega
  have f20:(p == 20)=false:=by simp;omega
  have f21:(p == 21)=false:=by simp;omega
  have f22:(p == 22)=false:=by simp;omega
  have f23:(p == 23)=false:=by simp;omega
  clear h
  go_enter Tryz.func121,Tryz.ntmps121
  go_wp2
  go_ret
  exact⟨by rw [e.out];rfl,Below.refl _ _⟩
 ·rcases (show p=0∨p=1∨p=2∨p=3∨p=4∨p=5∨p=6∨p=7∨p=8∨p=9∨p=10∨p=11∨p=12∨p=13∨p=14∨p=15∨p=16∨p=17∨p=18∨p=19∨p=20∨p=21∨p=22∨p=23 by omega) with rfl | rfl | rfl | rfl | rfl | rfl | rfl | rfl | rfl | rfl | rfl | rfl | rfl | rfl | rfl | rfl | rfl | rfl | rfl | rfl | rfl | rfl | rfl | rfl
  ·have e:Hid (takR 0=2):=Lib.hid (by decide +kernel)
   go_enter Tryz.func121,Tryz.ntmps121
   go_wp2
   go_ret
   exact⟨by rw [e.out];rfl,Below.refl _ _⟩
  ·have e:Hid (takR 1=2):=Lib.hid (by decide +kernel)
   go_enter Tryz.func121,Tryz.ntmps121
   go_wp2
   go_ret
   exact⟨by rw [e.out];rfl,Below.refl _ _⟩
  ·have e:Hid (takR 2=2):=Lib.hid (by decide +kernel)
   go_enter Tryz.func121,Tryz.ntmps121
   go_wp2
   go_ret
   exact⟨by rw [e.out];rfl,Below.refl _ _⟩
  ·have e:Hid (takR 3=2):=Lib.hid (by decide +kernel)
   go_enter Tryz.func121,Tryz.ntmps121
   go_wp2
   go_ret
   exact⟨by rw [e.out];rfl,Below.refl _ _⟩
  ·have e:Hid (takR 4=2):=Lib.hid (by decide +kernel)
   go_enter Tryz.func121,Tryz.ntmps121
   go_wp2
   go_ret
   exact⟨by rw [e.out];rfl,Below.refl _ _⟩
  ·have e:Hid (takR 5=2):=Lib.hid (by decide +kernel)
   go_enter Tryz.func121,Tryz.ntmps121
   go_wp2
   go_ret
   exact⟨by rw [e.out];rfl,Below.refl _ _⟩
  ·have e:Hid (takR 6=1):=Lib.hid (by decide +kernel)
   go_enter Tryz.func121,Tryz.ntmps121
   go_wp2
   go_ret
   exact⟨by rw [e.out];rfl,Below.refl _ _⟩
  ·have e:Hid (takR 7=1):=Lib.hid (by decide +kernel)
   go_enter Tryz.func121,Tryz.ntmps121
   go_wp2
   go_ret
   exact⟨by rw [e.out];rfl,Below.refl _ _⟩
  ·have e:Hid (takR 8=2):=Lib.hid (by decide +kernel)
   go_enter Tryz.func121,Tryz.ntmps121
   go_wp2
   go_ret
   exact⟨by rw [e.out];rfl,Below.refl _ _⟩
  ·have e:Hid (takR 9=3):=Lib.hid (by decide +kernel)
   go_enter Tryz.func121,Tryz.ntmps121
   go_wp2
   go_ret
   exact⟨by rw [e.out];rfl,Below.refl _ _⟩
  ·have e:Hid (takR 10=1):=Lib.hid (by decide +kernel)
   go_enter Tryz.func121,Tryz.ntmps121
   go_wp2
   go_ret
   exact⟨by rw [e.out];rfl,Below.refl _ _⟩
  ·have e:Hid (takR 11=1):=Lib.hid (by decide +kernel)
   go_enter Tryz.func121,Tryz.ntmps121
   go_wp2
   go_ret
   exact⟨by rw [e.out];rfl,Below.refl _ _⟩
  ·have e:Hid (takR 12=2):=Lib.hid (by decide +kernel)
   go_enter Tryz.func121,Tryz.ntmps121
   go_wp2
   go_ret
   exact⟨by rw [e.out];rfl,Below.refl _ _⟩
  ·have e:Hid (takR 13=2):=Lib.hid (by decide +kernel)
   go_enter Tryz.func121,Tryz.ntmps121
   go_wp2
   go_ret
   exact⟨by rw [e.out];rfl,Below.refl _ _⟩
  ·have e:Hid (takR 14=0):=Lib.hid (by decide +kernel)
   go_enter Tryz.func121,Tryz.ntmps121
   go_wp2
   go_ret
   exact⟨by rw [e.out];rfl,Below.refl _ _⟩
  ·have e:Hid (takR 15=1):=Lib.hid (by decide +kernel)
   go_enter Tryz.func121,Tryz.ntmps121
   go_wp2
   go_ret
   exact⟨by rw [e.out];rfl,Below.refl _ _⟩
  ·have e:Hid (takR 16=1):=Lib.hid (by decide +kernel)
   go_enter Tryz.func121,Tryz.ntmps121
   go_wp2
   go_ret
   exact⟨by rw [e.out];rfl,Below.refl _ _⟩
  ·have e:Hid (takR 17=0):=Lib.hid (by decide +kernel)
   go_enter Tryz.func121,Tryz.ntmps121
   go_wp2
   go_ret
   exact⟨by rw [e.out];rfl,Below.refl _ _⟩
  ·have e:Hid (takR 18=1):=Lib.hid (by decide +kernel)
   go_enter Tryz.func121,Tryz.ntmps121
   go_wp2
   go_ret
   exact⟨by rw [e.out];rfl,Below.refl _ _⟩
  ·have e:Hid (takR 19=3):=Lib.hid (by decide +kernel)
   go_enter Tryz.func121,Tryz.ntmps121
   go_wp2
   go_ret
   exact⟨by rw [e.out];rfl,Below.refl _ _⟩
  ·have e:Hid (takR 20=2):=Lib.hid (by decide +kernel)
   go_enter Tryz.func121,Tryz.ntmps121
   go_wp2
   go_ret
   exact⟨by rw [e.out];rfl,Below.refl _ _⟩
  ·have e:Hid (takR 21=0):=Lib.hid (by decide +kernel)
   go_enter Tryz.func121,Tryz.ntmps121
   go_wp2
   go_ret
   exact⟨by rw [e.out];rfl,Below.refl _ _⟩
  ·have e:Hid (takR 22=1):=Lib.hid (by decide +kernel)
   go_enter Tryz.func121,Tryz.ntmps121
   go_wp2
   go_ret
   exact⟨by rw [e.out];rfl,Below.refl _ _⟩
  ·have e:Hid (takR 23=0):=Lib.hid (by decide +kernel)
   go_enter Tryz.func121,Tryz.ntmps121
   go_wp2
   go_ret
   exact⟨by rw [e.out];rfl,Below.refl _ _⟩
set_option maxHeartbeats 8000000 in
theorem khasLit_c {w:World} {v:Value} {m:MethA} (h:MeV w v m) (i kind:Int) (i0:0≤i) (i1:i≤255) :
  Calls Tryz.prog 120 #[v,.int .i64 i,.int .i64 kind] w fun e w'=>e=.returned (.bool (hasLit m.lits i kind))∧Below w.heap.size w w':=by
 obtain⟨la,lc,ca,cc,rfl,hl,hc⟩:=h.ex
 have hB:=Lib.hid (MeB.born h)
 have hW:=Lib.hid ((Below.refl w.heap.size w).alloc (Nat.le_refl _) (.cells #[.int .i64 m.args,.int .i64 m.temps,.slice la m.lits.length lc,.slice ca m.code.length cc] 75))
 have hle:=len_le hl.le
 obtain⟨k,rfl⟩:∃ k:Nat,i=k:=⟨i.toNat,by omega⟩
 by_cases h0:k < m.lits.length
 ·have d0:decide ((k:Int) < (m.lits.length:Int))=true:=by simp;omega
  have k0:(0:Int)≤(k:Int):=by omega
  have k1:(k:Int) < (m.lits.length:Int):=by omega
  obtain⟨_,_,g,off,rfl,c0,c1⟩:=hB.out.py.1.at (litAt_some h0)
  have e:Hid (hasLit m.lits (k:Int) kind=((litAt m.lits (k:Int)).1 == kind)):=Lib.hid (by
   unfold hasLit;rw [d0,Bool.true_and];rfl)
  generalize (litAt m.lits (k:Int)).1=x at *
  have a2:=hB.out.c2
  go_enter Tryz.func120,Tryz.ntmps120
  go_upto_region 1 with fail
  generalize w.alloc (.cells #[.int .i64 m.args,.int .i64 m.temps,.slice (some ⟨g,off,none⟩) m.lits.length lc,.slice ca m.code.length cc] 75)=W at *
  go_wp2
  go_ret
  exact⟨by rw [e.out];rfl,hW.out⟩
 ·have d0:decide ((k:Int) < (m.lits.length:Int))=false:=by simp;omega
  have e:Hid (hasLit m.lits (k:Int) kind=false):=Lib.hid (by unfold hasLit;rw [d0];rfl)
  have a2:=hB.out.c2
  go_enter Tryz.func120,Tryz.ntmps120
  go_wp2
  go_ret
  exact⟨by rw [e.out];rfl,hW.out⟩
end Wd
end Go.Proofs.YteiejjmhmmkdhaaGreat
