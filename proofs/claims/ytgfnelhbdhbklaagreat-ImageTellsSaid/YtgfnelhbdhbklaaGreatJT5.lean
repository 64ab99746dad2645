/- Texts joined: OMeth, USU, IMP, IRD, IRE, IRF. -/
import Derived.Test.YtgfnelhbdhbklaaGreatJT1
import Derived.Test.YtgfnelhbdhbklaaGreatJT4
namespace Go.Proofs.YtgfnelhbdhbklaaGreat
open Go.RowKit
set_option linter.unusedVariables false
set_option maxRecDepth 20000
namespace Wd
structure UnB (w:World) (q:Nat) (u:Value) (U:UnitA) (na ka ma oa:Option Addr) (nc kc mc oc:Nat):Prop where
 e:u=.agg #[.slice na U.names.length nc,.slice ka U.classes.length kc,.slice ma U.methods.length mc,.slice oa U.objects.length oc,.int .i64 U.main]
 c0:w.cell? ⟨q,0,none⟩=some (.slice na U.names.length nc)
 c1:w.cell? ⟨q,1,none⟩=some (.slice ka U.classes.length kc)
 c2:w.cell? ⟨q,2,none⟩=some (.slice ma U.methods.length mc)
 c3:w.cell? ⟨q,3,none⟩=some (.slice oa U.objects.length oc)
 c4:w.cell? ⟨q,4,none⟩=some (.int .i64 U.main)
 un:UnK w u U
theorem UnB.born {w:World} {U:UnitA} {na ka ma oa:Option Addr} {nc kc mc oc:Nat} (h:UnK w (.agg #[.slice na U.names.length nc,.slice ka U.classes.length kc,.slice ma U.methods.length mc,.slice oa U.objects.length oc,.int .i64 U.main]) U):UnB (w.alloc (.cells #[.slice na U.names.length nc,.slice ka U.classes.length kc,.slice ma U.methods.length mc,.slice oa U.objects.length oc,.int .i64 U.main] 27)) w.heap.size (.agg #[.slice na U.names.length nc,.slice ka U.classes.length kc,.slice ma U.methods.length mc,.slice oa U.objects.length oc,.int .i64 U.main]) U na ka ma oa nc kc mc oc :=
 ⟨rfl,by simp,by simp,by simp,by simp,by simp,h.up ((Below.refl _ _).alloc (Nat.le_refl _) _)⟩
theorem UnB.up {w w1:World} {q:Nat} {u:Value} {U:UnitA} {na ka ma oa:Option Addr} {nc kc mc oc:Nat} (h:UnB w q u U na ka ma oa nc kc mc oc) (b:Below w.heap.size w w1):UnB w1 q u U na ka ma oa nc kc mc oc :=
 ⟨h.e,cell_up b h.c0,cell_up b h.c1,cell_up b h.c2,cell_up b h.c3,cell_up b h.c4,h.un.up b⟩
def metT (m:MethA) (nn nc nm:Nat):Int:=if m.lits.all (fun x=>litR x nn nc nm)=false then 12 else if insF m (m.code.length / 2) 0=false then 12 else 0
theorem met_long {m:MethA} {nn nc nm:Nat} (h:m.code.length > 128∨m.lits.length > 16∨m.args < 0∨m.temps < 0∨m.args > 8∨m.temps > 8 - m.args):metR m nn nc nm=3:=if_pos h
theorem met_len {m:MethA} {nn nc nm:Nat} (h:¬ (m.code.length > 128∨m.lits.length > 16∨m.args < 0∨m.temps < 0∨m.args > 8∨m.temps > 8 - m.args)) (h2:m.code.length < 2∨m.code.length % 2≠0):metR m nn nc nm=12:=by
 unfold metR;rw[if_neg h,if_pos h2]
theorem met_last {m:MethA} {nn nc nm:Nat} (h:¬ (m.code.length > 128∨m.lits.length > 16∨m.args < 0∨m.temps < 0∨m.args > 8∨m.temps > 8 - m.args)) (h2:¬ (m.code.length < 2∨m.code.length % 2≠0)) (h3:byAt m.code (m.code.length - 2)≠14∧byAt m.code (m.code.length - 2)≠19∧byAt m.code (m.code.length - 2)≠16):metR m nn nc nm=12:=by
 unfold metR;rw[if_neg h,if_neg h2,if_pos h3]
theorem met_t {m:MethA} {nn nc nm:Nat} (h:¬ (m.code.length > 128∨m.lits.length > 16∨m.args < 0∨m.temps < 0∨m.args > 8∨m.temps > 8 - m.args)) (h2:¬ (m.code.length < 2∨m.code.length % 2≠0)) (h3:¬ (byAt m.code (m.code.length - 2)≠14∧byAt m.code (m.code.length - 2)≠19∧byAt m.code (m.code.length - 2)≠16)):metR m nn nc nm=metT m nn nc nm:=by
 unfold metR;rw[if_neg h,if_neg h2,if_neg h3];rfl
theorem metT_lit {m:MethA} {nn nc nm:Nat} (h:m.lits.all (fun x=>litR x nn nc nm)=false):metT m nn nc nm=12:=if_pos h
theorem metT_ins {m:MethA} {nn nc nm:Nat} (h:m.lits.all (fun x=>litR x nn nc nm)=true) (h2:insF m (m.code.length / 2) 0=false):metT m nn nc nm=12:=by
 unfold metT;rw[if_neg (by rw[h];decide),if_pos h2]
theorem metT_ok {m:MethA} {nn nc nm:Nat} (h:m.lits.all (fun x=>litR x nn nc nm)=true) (h2:insF m (m.code.length / 2) 0=true):metT m nn nc nm=0:=by
 unfold metT;rw[if_neg (by rw[h];decide),if_neg (by rw[h2];decide)]
theorem all_next {α:Type} {L:List α} {f:α→Bool} {k:Nat} {x:α} (h:L[k]?=some x):(L.drop k).all f=(f x && (L.drop (k+1)).all f):=by
 obtain⟨hk,e⟩:=List.getElem?_eq_some_iff.1 h;rw[← e,List.drop_eq_getElem_cons hk,List.all_cons]
theorem ins_next {m:MethA} {N j:Nat} (h:j < N):insF m (N - j) (2*j)=(insR m ((2*j:Nat):Int) (byAt m.code (2*j)) (byAt m.code (2*j+1)) && insF m (N - (j+1)) (2*(j+1))):=by
 rw[show N - j=(N - (j+1))+1 by omega,insF,show 2*j+2=2*(j+1) by omega]
structure MSt (w0 wr:World) (q q2:Nat) (v u:Value) (m:MethA) (U:UnitA) (la ca na ka ma oa:Option Addr) (lc cc nc kc mc oc:Nat):Prop where
 b:MeB wr q v m la ca lc cc
 u:UnB wr q2 u U na ka ma oa nc kc mc oc
 bel:Below w0.heap.size w0 wr
theorem MSt.up {w0 w w1:World} {q q2:Nat} {v u:Value} {m:MethA} {U:UnitA} {la ca na ka ma oa:Option Addr} {lc cc nc kc mc oc:Nat} (h:MSt w0 w q q2 v u m U la ca na ka ma oa lc cc nc kc mc oc) (b:Below w.heap.size w w1):MSt w0 w1 q q2 v u m U la ca na ka ma oa lc cc nc kc mc oc :=
 ⟨h.b.up b,h.u.up b,h.bel.trans (b.mono h.bel.size)⟩
set_option maxHeartbeats 32000000 in
theorem rmeth_c {w:World} {v u:Value} {m:MethA} {U:UnitA} (h:MeV w v m) (hu:UnK w u U) :
  Calls Tryz.prog 50 #[v,u] w fun e w'=>e=.returned (.int .i64 (metR m U.names.length U.classes.length U.methods.length))∧Below w.heap.size w w':=by
 obtain⟨la,lc,ca,cc,rfl,hl,hc⟩:=h.ex;obtain⟨na,nc,ka,kc,ma,mc,oa,oc,rfl,_⟩:=hu.ex;have hw1:=(Below.refl w.heap.size w).alloc (Nat.le_refl _) (.cells #[.int .i64 m.args,.int .i64 m.temps,.slice la m.lits.length lc,.slice ca m.code.length cc] 63);have S0:Hid (MSt w ((w.alloc (.cells #[.int .i64 m.args,.int .i64 m.temps,.slice la m.lits.length lc,.slice ca m.code.length cc] 63)).alloc (.cells #[.slice na U.names.length nc,.slice ka U.classes.length kc,.slice ma U.methods.length mc,.slice oa U.objects.length oc,.int .i64 U.main] 27)) w.heap.size (w.alloc (.cells #[.int .i64 m.args,.int .i64 m.temps,.slice la m.lits.length lc,.slice ca m.code.length cc] 63)).heap.size _ _ m U la ca na ka ma oa lc cc nc kc mc oc):=HD ⟨(MeB.born h).up ((Below.refl _ _).alloc (Nat.le_refl _) _),UnB.born (hu.up hw1),hw1.trans (((Below.refl _ _).alloc (Nat.le_refl _) _).mono hw1.size)⟩;have hle:=len_le hc.le;have hle2:=len_le hl.le;obtain⟨p0,p1⟩:=h.a64;obtain⟨p2,p3⟩:=h.t64;have i1:(w.alloc (.cells #[.int .i64 m.args,.int .i64 m.temps,.slice la m.lits.length lc,.slice ca m.code.length cc] 63)).heap.size=w.heap.size+1:=by simp
 rw[i1] at S0;clear hl hc h hu hw1 i1;have a0:=S0.out.b.c0;have a1:=S0.out.b.c1;have a2:=S0.out.b.c2;have a3:=S0.out.b.c3;obtain⟨n,hn⟩:∃ n,n=m.code.length:=⟨_,rfl⟩
 obtain⟨nl,hnl⟩:∃ n,n=m.lits.length:=⟨_,rfl⟩
 go_enter Tryz.func50,Tryz.ntmps50
 go_upto_region 1 with fail
 generalize (w.alloc (.cells #[.int .i64 m.args,.int .i64 m.temps,.slice la m.lits.length lc,.slice ca m.code.length cc] 63)).alloc (.cells #[.slice na U.names.length nc,.slice ka U.classes.length kc,.slice ma U.methods.length mc,.slice oa U.objects.length oc,.int .i64 U.main] 27)=W at *;by_cases g1:m.code.length > 128
 ·have dg1:decide ((m.code.length:Int) > 128)=true:=by simp;omega
  have e:=HD (met_long (m:=m) (nn:=U.names.length) (nc:=U.classes.length) (nm:=U.methods.length) (Or.inl g1))
  go_wp2
  go_ret;exact⟨by rw[e.out];rfl,S0.out.bel⟩
 have dg1:decide ((m.code.length:Int) > 128)=false:=by simp;omega
 by_cases g2:m.lits.length > 16
 ·have dg2:decide ((m.lits.length:Int) > 16)=true:=by simp;omega
  have e:=HD (met_long (m:=m) (nn:=U.names.length) (nc:=U.classes.length) (nm:=U.methods.length) (Or.inr (Or.inl g2)))
  go_wp2
  go_ret;exact⟨by rw[e.out];rfl,S0.out.bel⟩
 have dg2:decide ((m.lits.length:Int) > 16)=false:=by simp;omega
 by_cases g3:m.args < 0
 ·have dg3:decide (m.args < 0)=true:=by simp;omega
  have e:=HD (met_long (m:=m) (nn:=U.names.length) (nc:=U.classes.length) (nm:=U.methods.length) (Or.inr (Or.inr (Or.inl g3))))
  go_wp2
  go_ret;exact⟨by rw[e.out];rfl,S0.out.bel⟩
 have dg3:decide (m.args < 0)=false:=by simp;omega
 by_cases g4:m.temps < 0
 ·have dg4:decide (m.temps < 0)=true:=by simp;omega
  have e:=HD (met_long (m:=m) (nn:=U.names.length) (nc:=U.classes.length) (nm:=U.methods.length) (Or.inr (Or.inr (Or.inr (Or.inl g4)))))
  go_wp2
  go_ret;exact⟨by rw[e.out];rfl,S0.out.bel⟩
 have dg4:decide (m.temps < 0)=false:=by simp;omega
 by_cases g5:m.args > 8
 ·have dg5:decide (m.args > 8)=true:=by simp;omega
  have e:=HD (met_long (m:=m) (nn:=U.names.length) (nc:=U.classes.length) (nm:=U.methods.length) (Or.inr (Or.inr (Or.inr (Or.inr (Or.inl g5))))))
  go_wp2
  go_ret;exact⟨by rw[e.out];rfl,S0.out.bel⟩
 have dg5:decide (m.args > 8)=false:=by simp;omega
 have wk:IntKind.i64.wrap (8 - m.args)=8 - m.args:=by rw[IntKind.wrap_i64];omega
 by_cases g6:m.temps > 8 - m.args
 ·have dg6:decide (m.temps > 8 - m.args)=true:=by simp;omega
  have e:=HD (met_long (m:=m) (nn:=U.names.length) (nc:=U.classes.length) (nm:=U.methods.length) (Or.inr (Or.inr (Or.inr (Or.inr (Or.inr g6))))))
  go_wp2
  go_ret;exact⟨by rw[e.out];rfl,S0.out.bel⟩
 have dg6:decide (m.temps > 8 - m.args)=false:=by simp;omega
 have G:¬ (m.code.length > 128∨m.lits.length > 16∨m.args < 0∨m.temps < 0∨m.args > 8∨m.temps > 8 - m.args):=by omega
 have ha:0≤m.args∧m.args≤8:=by omega
 have ht:0≤m.temps∧m.temps≤8:=by omega
 go_upto_region 3 with fail
 clear dg1 dg2 dg3 dg4 dg5 dg6;by_cases h2:m.code.length < 2
 ·have d2:decide ((m.code.length:Int) < 2)=true:=by simp;omega
  have e:=HD (met_len (nn:=U.names.length) (nc:=U.classes.length) (nm:=U.methods.length) G (Or.inl h2))
  go_wp2
  go_ret;exact⟨by rw[e.out];rfl,S0.out.bel⟩
 have d2:decide ((m.code.length:Int) < 2)=false:=by simp;omega
 have hm:=mod2 (n:=m.code.length);rcases (show m.code.length % 2=1∨m.code.length % 2=0 by omega) with h1 | h1
 ·have e:=HD (met_len (nn:=U.names.length) (nc:=U.classes.length) (nm:=U.methods.length) G (Or.inr (by omega)));rw[h1] at hm;replace hm:Int.tmod (m.code.length:Int) 2=1:=hm
  go_wp2
  go_ret;exact⟨by rw[e.out];rfl,S0.out.bel⟩
 rw[h1] at hm;replace hm:Int.tmod (m.code.length:Int) 2=0:=hm;have H2:¬ (m.code.length < 2∨m.code.length % 2≠0):=by omega
 go_upto_region 6 with fail
 obtain⟨k,hk⟩:∃ k,k=m.code.length - 2:=⟨_,rfl⟩
 have wm:IntKind.i64.wrap ((m.code.length:Int) - 2)=(k:Int):=by rw[IntKind.wrap_i64];omega
 have k0:(0:Int)≤(k:Int):=by omega
 have k1:(k:Int) < (m.code.length:Int):=by omega
 obtain⟨bb,g,off,rfl,c0⟩:=S0.out.b.py.2.at (byAt_some (C:=m.code) (k:=k) (by omega));have L3:byAt m.code k=byAt m.code (m.code.length - 2):=by rw[hk]
 have e1:=fun h=>met_last (nn:=U.names.length) (nc:=U.classes.length) (nm:=U.methods.length) G H2 h;have e2:=fun h=>met_t (nn:=U.names.length) (nc:=U.classes.length) (nm:=U.methods.length) G H2 h;rw[← L3] at e1 e2;clear L3;generalize byAt m.code k=x at *;have wx:IntKind.i64.wrap x=x:=by rw[IntKind.wrap_i64];omega
 by_cases hx:x=14∨x=19∨x=16
 ·have e:=HD (e2 (by omega));have hevn:=HD h1;have h128:=HD (show m.code.length≤128 by omega);have hge2:=HD (show 2≤m.code.length by omega);clear e1 e2 G H2 h2 hm hk h1 g1 g2 g3 g4 g5 g6 hn hnl;rcases hx with rfl | rfl | rfl
  ·have hst:Hid (m.lits.all (fun x=>litR x U.names.length U.classes.length U.methods.length)=(m.lits.drop 0).all (fun x=>litR x U.names.length U.classes.length U.methods.length)):=HD (by rw[List.drop_zero])
   go_upto_region 9 with fail
   clear c0 wm k0 k1 wx bb
   go_wp2
   go_loopw [73] (fun i73 wr=>∃ k:Nat,k≤m.lits.length∧i73=.int .i64 k∧Hid (m.lits.all (fun x=>litR x U.names.length U.classes.length U.methods.length)=(m.lits.drop k).all (fun x=>litR x U.names.length U.classes.length U.methods.length))∧Hid (MSt w wr w.heap.size (w.heap.size+1) _ _ m U la (some ⟨g,off,none⟩) na ka ma oa lc cc nc kc mc oc)) (fun i73 _=>m.lits.length - (intOf i73).toNat)
   case atStart=>exact⟨0,by omega,rfl,hst,S0⟩
   case round =>
    clear hst S0 a0 a1 a2 a3;obtain⟨j,hj,rfl,hA,S⟩:=hrel;by_cases hlt:j < m.lits.length
    ·have d1:decide ((j:Int) < (m.lits.length:Int))=true:=by simp;omega
     have j0:(0:Int)≤(j:Int):=by omega
     have j1:(j:Int) < (m.lits.length:Int):=by omega
     obtain⟨⟨lk,lx⟩,hx⟩:∃ x,m.lits[j]?=some x:=⟨m.lits[j]'hlt,by simp⟩
     obtain⟨_,_,g',off',rfl,l0,l1⟩:=S.out.b.py.1.at hx;have hnx:=all_next (f:=fun x=>litR x U.names.length U.classes.length U.methods.length) hx;have hS1:=S.out.up ((Below.refl _ _).alloc (Nat.le_refl _) (.cells #[.int .i64 lk,.int .i64 lx] 68));have PL:=HD (rliteral_c hS1.u.un lk lx);replace hS1:=HD hS1;have u0:=hS1.out.u.c0;have u1:=hS1.out.u.c1;have u2':=hS1.out.u.c2;have u3:=hS1.out.u.c3;have u4':=hS1.out.u.c4;clear hx S;cases hb:litR (lk,lx) U.names.length U.classes.length U.methods.length with
     | true =>
      rw[hb,Bool.true_and] at hnx;rw[hb] at PL;have hA':=HD (hA.out.trans hnx);clear hnx hb hA
      go_wp2_with fail
      with_reducible refine PL.out.mono ?_
      rintro e1 w2 ⟨rfl,hb2⟩
      go_wp2
      go_roundw
      case rel=>exact⟨j+1,by omega,by go_num,hA',HD (hS1.out.up hb2)⟩
      case measure=>simp[intOf];omega
     | false =>
      rw[hb,Bool.false_and] at hnx;rw[hb] at PL;have eT:=HD (metT_lit (m:=m) (hA.out.trans hnx));clear hnx hb hA
      go_wp2_with fail
      with_reducible refine PL.out.mono ?_
      rintro e1 w2 ⟨rfl,hb2⟩
      go_wp2
      go_ret;exact⟨by rw[e.out,eT.out];rfl,(hS1.out.up hb2).bel⟩
    ·have d1:decide ((j:Int) < (m.lits.length:Int))=false:=by simp;omega
     have hall:=hA.out;rw[show j=m.lits.length by omega,List.drop_length] at hall;replace hall:=HD (show m.lits.all (fun x=>litR x U.names.length U.classes.length U.methods.length)=true from hall);clear hA;obtain⟨N,hN⟩:∃ N,N=m.code.length / 2:=⟨_,rfl⟩
     have hN2:m.code.length=2*N:=by have:=hevn.out;omega
     have hst2:Hid (insF m (m.code.length / 2) 0=insF m (N - 0) (2*0)):=HD (by rw[hN];rfl);replace hN2:=HD hN2;clear hN
     go_wp2
     go_loopw [9] (fun i9 wr=>∃ t:Nat,t≤N∧i9=.int .i64 ((2*t:Nat):Int)∧Hid (insF m (m.code.length / 2) 0=insF m (N - t) (2*t))∧Hid (MSt w wr w.heap.size (w.heap.size+1) _ _ m U la (some ⟨g,off,none⟩) na ka ma oa lc cc nc kc mc oc)) (fun i9 _=>2*N - (intOf i9).toNat)
     case atStart=>exact⟨0,by omega,rfl,hst2,S⟩
     case round =>
      clear hst2 S;obtain⟨t,ht2,rfl,hI,S⟩:=hrel;by_cases hlt2:t < N
      ·have d2':decide (((2*t:Nat):Int) < (m.code.length:Int))=true:=by have:=hN2.out;simp;omega
       have d3':((2*t:Nat):Int) < (m.code.length:Int):=by have:=hN2.out;omega
       have wt:IntKind.i64.wrap (((2*t:Nat):Int)+2)=((2*(t+1):Nat):Int):=by have:=h128.out;have:=hN2.out;rw[IntKind.wrap_i64];omega
       have PI:=HD (rinst_c S.out.b.me (2*t) h128.out (by have:=hN2.out;omega) (by omega) ha ht);have hnx:=ins_next (m:=m) hlt2;have q0:=S.out.b.c0;have q1:=S.out.b.c1;have q2:=S.out.b.c2;have q3:=S.out.b.c3;cases hb:insR m ((2*t:Nat):Int) (byAt m.code (2*t)) (byAt m.code (2*t+1)) with
       | true =>
        rw[hb,Bool.true_and] at hnx;rw[hb] at PI;have hI':=HD (hI.out.trans hnx);clear hnx hb hI;generalize hTT:((2*t:Nat):Int)=tt at *
        go_wp2_with fail
        with_reducible refine PI.out.mono ?_
        rintro e1 w2 ⟨rfl,hb2⟩
        go_wp2
        go_roundw
        case rel=>exact⟨t+1,by omega,rfl,hI',HD (S.out.up hb2)⟩
        case measure=>subst hTT;simp[intOf];have:=hN2.out;omega
       | false =>
        rw[hb,Bool.false_and] at hnx;rw[hb] at PI;have eT:=HD (metT_ins (m:=m) hall.out (hI.out.trans hnx));clear hnx hb hI;generalize hTT:((2*t:Nat):Int)=tt at *
        go_wp2_with fail
        with_reducible refine PI.out.mono ?_
        rintro e1 w2 ⟨rfl,hb2⟩
        go_wp2
        go_ret;exact⟨by rw[e.out,eT.out];rfl,(S.out.up hb2).bel⟩
      ·have d2':decide (((2*t:Nat):Int) < (m.code.length:Int))=false:=by have:=hN2.out;simp;omega
       have d3':¬ ((2*t:Nat):Int) < (m.code.length:Int):=by have:=hN2.out;omega
       have hI':=hI.out;rw[show N - t=0 by omega,insF] at hI';have eT:=HD (metT_ok (m:=m) hall.out hI');clear hI hI';generalize hTT:((2*t:Nat):Int)=tt at *
       go_wp2
       go_ret;exact⟨by rw[e.out,eT.out];rfl,S.out.bel⟩
  ·have hst:Hid (m.lits.all (fun x=>litR x U.names.length U.classes.length U.methods.length)=(m.lits.drop 0).all (fun x=>litR x U.names.length U.classes.length U.methods.length)):=HD (by rw[List.drop_zero])
   go_upto_region 9 with fail
   clear c0 wm k0 k1 wx bb
   go_wp2
   go_loopw [73] (fun i73 wr=>∃ k:Nat,k≤m.lits.length∧i73=.int .i64 k∧Hid (m.lits.all (fun x=>litR x U.names.length U.classes.length U.methods.length)=(m.lits.drop k).all (fun x=>litR x U.names.length U.classes.length U.methods.length))∧Hid (MSt w wr w.heap.size (w.heap.size+1) _ _ m U la (some ⟨g,off,none⟩) na ka ma oa lc cc nc kc mc oc)) (fun i73 _=>m.lits.length - (intOf i73).toNat)
   case atStart=>exact⟨0,by omega,rfl,hst,S0⟩
   case round =>
    clear hst S0 a0 a1 a2 a3;obtain⟨j,hj,rfl,hA,S⟩:=hrel;by_cases hlt:j < m.lits.length
    ·have d1:decide ((j:Int) < (m.lits.length:Int))=true:=by simp;omega
     have j0:(0:Int)≤(j:Int):=by omega
     have j1:(j:Int) < (m.lits.length:Int):=by omega
     obtain⟨⟨lk,lx⟩,hx⟩:∃ x,m.lits[j]?=some x:=⟨m.lits[j]'hlt,by simp⟩
     obtain⟨_,_,g',off',rfl,l0,l1⟩:=S.out.b.py.1.at hx;have hnx:=all_next (f:=fun x=>litR x U.names.length U.classes.length U.methods.length) hx;have hS1:=S.out.up ((Below.refl _ _).alloc (Nat.le_refl _) (.cells #[.int .i64 lk,.int .i64 lx] 68));have PL:=HD (rliteral_c hS1.u.un lk lx);replace hS1:=HD hS1;have u0:=hS1.out.u.c0;have u1:=hS1.out.u.c1;have u2':=hS1.out.u.c2;have u3:=hS1.out.u.c3;have u4':=hS1.out.u.c4;clear hx S;cases hb:litR (lk,lx) U.names.length U.classes.length U.methods.length with
     | true =>
      rw[hb,Bool.true_and] at hnx;rw[hb] at PL;have hA':=HD (hA.out.trans hnx);clear hnx hb hA
      go_wp2_with fail
      with_reducible refine PL.out.mono ?_
      rintro e1 w2 ⟨rfl,hb2⟩
      go_wp2
      go_roundw
      case rel=>exact⟨j+1,by omega,by go_num,hA',HD (hS1.out.up hb2)⟩
      case measure=>simp[intOf];omega
     | false =>
      rw[hb,Bool.false_and] at hnx;rw[hb] at PL;have eT:=HD (metT_lit (m:=m) (hA.out.trans hnx));clear hnx hb hA
      go_wp2_with fail
      with_reducible refine PL.out.mono ?_
      rintro e1 w2 ⟨rfl,hb2⟩
      go_wp2
      go_ret;exact⟨by rw[e.out,eT.out];rfl,(hS1.out.up hb2).bel⟩
    ·have d1:decide ((j:Int) < (m.lits.length:Int))=false:=by simp;omega
     have hall:=hA.out;rw[show j=m.lits.length by omega,List.drop_length] at hall;replace hall:=HD (show m.lits.all (fun x=>litR x U.names.length U.classes.length U.methods.length)=true from hall);clear hA;obtain⟨N,hN⟩:∃ N,N=m.code.length / 2:=⟨_,rfl⟩
     have hN2:m.code.length=2*N:=by have:=hevn.out;omega
     have hst2:Hid (insF m (m.code.length / 2) 0=insF m (N - 0) (2*0)):=HD (by rw[hN];rfl);replace hN2:=HD hN2;clear hN
     go_wp2
     go_loopw [9] (fun i9 wr=>∃ t:Nat,t≤N∧i9=.int .i64 ((2*t:Nat):Int)∧Hid (insF m (m.code.length / 2) 0=insF m (N - t) (2*t))∧Hid (MSt w wr w.heap.size (w.heap.size+1) _ _ m U la (some ⟨g,off,none⟩) na ka ma oa lc cc nc kc mc oc)) (fun i9 _=>2*N - (intOf i9).toNat)
     case atStart=>exact⟨0,by omega,rfl,hst2,S⟩
     case round =>
      clear hst2 S;obtain⟨t,ht2,rfl,hI,S⟩:=hrel;by_cases hlt2:t < N
      ·have d2':decide (((2*t:Nat):Int) < (m.code.length:Int))=true:=by have:=hN2.out;simp;omega
       have d3':((2*t:Nat):Int) < (m.code.length:Int):=by have:=hN2.out;omega
       have wt:IntKind.i64.wrap (((2*t:Nat):Int)+2)=((2*(t+1):Nat):Int):=by have:=h128.out;have:=hN2.out;rw[IntKind.wrap_i64];omega
       have PI:=HD (rinst_c S.out.b.me (2*t) h128.out (by have:=hN2.out;omega) (by omega) ha ht);have hnx:=ins_next (m:=m) hlt2;have q0:=S.out.b.c0;have q1:=S.out.b.c1;have q2:=S.out.b.c2;have q3:=S.out.b.c3;cases hb:insR m ((2*t:Nat):Int) (byAt m.code (2*t)) (byAt m.code (2*t+1)) with
       | true =>
        rw[hb,Bool.true_and] at hnx;rw[hb] at PI;have hI':=HD (hI.out.trans hnx);clear hnx hb hI;generalize hTT:((2*t:Nat):Int)=tt at *
        go_wp2_with fail
        with_reducible refine PI.out.mono ?_
        rintro e1 w2 ⟨rfl,hb2⟩
        go_wp2
        go_roundw
        case rel=>exact⟨t+1,by omega,rfl,hI',HD (S.out.up hb2)⟩
        case measure=>subst hTT;simp[intOf];have:=hN2.out;omega
       | false =>
        rw[hb,Bool.false_and] at hnx;rw[hb] at PI;have eT:=HD (metT_ins (m:=m) hall.out (hI.out.trans hnx));clear hnx hb hI;generalize hTT:((2*t:Nat):Int)=tt at *
        go_wp2_with fail
        with_reducible refine PI.out.mono ?_
        rintro e1 w2 ⟨rfl,hb2⟩
        go_wp2
        go_ret;exact⟨by rw[e.out,eT.out];rfl,(S.out.up hb2).bel⟩
      ·have d2':decide (((2*t:Nat):Int) < (m.code.length:Int))=false:=by have:=hN2.out;simp;omega
       have d3':¬ ((2*t:Nat):Int) < (m.code.length:Int):=by have:=hN2.out;omega
       have hI':=hI.out;rw[show N - t=0 by omega,insF] at hI';have eT:=HD (metT_ok (m:=m) hall.out hI');clear hI hI';generalize hTT:((2*t:Nat):Int)=tt at *
       go_wp2
       go_ret;exact⟨by rw[e.out,eT.out];rfl,S.out.bel⟩
  ·have hst:Hid (m.lits.all (fun x=>litR x U.names.length U.classes.length U.methods.length)=(m.lits.drop 0).all (fun x=>litR x U.names.length U.classes.length U.methods.length)):=HD (by rw[List.drop_zero])
   go_upto_region 9 with fail
   clear c0 wm k0 k1 wx bb
   go_wp2
   go_loopw [73] (fun i73 wr=>∃ k:Nat,k≤m.lits.length∧i73=.int .i64 k∧Hid (m.lits.all (fun x=>litR x U.names.length U.classes.length U.methods.length)=(m.lits.drop k).all (fun x=>litR x U.names.length U.classes.length U.methods.length))∧Hid (MSt w wr w.heap.size (w.heap.size+1) _ _ m U la (some ⟨g,off,none⟩) na ka ma oa lc cc nc kc mc oc)) (fun i73 _=>m.lits.length - (intOf i73).toNat)
   case atStart=>exact⟨0,by omega,rfl,hst,S0⟩
   case round =>
    clear hst S0 a0 a1 a2 a3;obtain⟨j,hj,rfl,hA,S⟩:=hrel;by_cases hlt:j < m.lits.length
    ·have d1:decide ((j:Int) < (m.lits.length:Int))=true:=by simp;omega
     have j0:(0:Int)≤(j:Int):=by omega
     have j1:(j:Int) < (m.lits.length:Int):=by omega
     obtain⟨⟨lk,lx⟩,hx⟩:∃ x,m.lits[j]?=some x:=⟨m.lits[j]'hlt,by simp⟩
     obtain⟨_,_,g',off',rfl,l0,l1⟩:=S.out.b.py.1.at hx;have hnx:=all_next (f:=fun x=>litR x U.names.length U.classes.length U.methods.length) hx;have hS1:=S.out.up ((Below.refl _ _).alloc (Nat.le_refl _) (.cells #[.int .i64 lk,.int .i64 lx] 68));have PL:=HD (rliteral_c hS1.u.un lk lx);replace hS1:=HD hS1;have u0:=hS1.out.u.c0;have u1:=hS1.out.u.c1;have u2':=hS1.out.u.c2;have u3:=hS1.out.u.c3;have u4':=hS1.out.u.c4;clear hx S;cases hb:litR (lk,lx) U.names.length U.classes.length U.methods.length with
     | true =>
      rw[hb,Bool.true_and] at hnx;rw[hb] at PL;have hA':=HD (hA.out.trans hnx);clear hnx hb hA
      go_wp2_with fail
      with_reducible refine PL.out.mono ?_
      rintro e1 w2 ⟨rfl,hb2⟩
      go_wp2
      go_roundw
      case rel=>exact⟨j+1,by omega,by go_num,hA',HD (hS1.out.up hb2)⟩
      case measure=>simp[intOf];omega
     | false =>
      rw[hb,Bool.false_and] at hnx;rw[hb] at PL;have eT:=HD (metT_lit (m:=m) (hA.out.trans hnx));clear hnx hb hA
      go_wp2_with fail
      with_reducible refine PL.out.mono ?_
      rintro e1 w2 ⟨rfl,hb2⟩
      go_wp2
      go_ret;exact⟨by rw[e.out,eT.out];rfl,(hS1.out.up hb2).bel⟩
    ·have d1:decide ((j:Int) < (m.lits.length:Int))=false:=by simp;omega
     have hall:=hA.out;rw[show j=m.lits.length by omega,List.drop_length] at hall;replace hall:=HD (show m.lits.all (fun x=>litR x U.names.length U.classes.length U.methods.length)=true from hall);clear hA;obtain⟨N,hN⟩:∃ N,N=m.code.length / 2:=⟨_,rfl⟩
     have hN2:m.code.length=2*N:=by have:=hevn.out;omega
     have hst2:Hid (insF m (m.code.length / 2) 0=insF m (N - 0) (2*0)):=HD (by rw[hN];rfl);replace hN2:=HD hN2;clear hN
     go_wp2
     go_loopw [9] (fun i9 wr=>∃ t:Nat,t≤N∧i9=.int .i64 ((2*t:Nat):Int)∧Hid (insF m (m.code.length / 2) 0=insF m (N - t) (2*t))∧Hid (MSt w wr w.heap.size (w.heap.size+1) _ _ m U la (some ⟨g,off,none⟩) na ka ma oa lc cc nc kc mc oc)) (fun i9 _=>2*N - (intOf i9).toNat)
     case atStart=>exact⟨0,by omega,rfl,hst2,S⟩
     case round =>
      clear hst2 S;obtain⟨t,ht2,rfl,hI,S⟩:=hrel;by_cases hlt2:t < N
      ·have d2':decide (((2*t:Nat):Int) < (m.code.length:Int))=true:=by have:=hN2.out;simp;omega
       have d3':((2*t:Nat):Int) < (m.code.length:Int):=by have:=hN2.out;omega
       have wt:IntKind.i64.wrap (((2*t:Nat):Int)+2)=((2*(t+1):Nat):Int):=by have:=h128.out;have:=hN2.out;rw[IntKind.wrap_i64];omega
       have PI:=HD (rinst_c S.out.b.me (2*t) h128.out (by have:=hN2.out;omega) (by omega) ha ht);have hnx:=ins_next (m:=m) hlt2;have q0:=S.out.b.c0;have q1:=S.out.b.c1;have q2:=S.out.b.c2;have q3:=S.out.b.c3;cases hb:insR m ((2*t:Nat):Int) (byAt m.code (2*t)) (byAt m.code (2*t+1)) with
       | true =>
        rw[hb,Bool.true_and] at hnx;rw[hb] at PI;have hI':=HD (hI.out.trans hnx);clear hnx hb hI;generalize hTT:((2*t:Nat):Int)=tt at *
        go_wp2_with fail
        with_reducible refine PI.out.mono ?_
        rintro e1 w2 ⟨rfl,hb2⟩
        go_wp2
        go_roundw
        case rel=>exact⟨t+1,by omega,rfl,hI',HD (S.out.up hb2)⟩
        case measure=>subst hTT;simp[intOf];have:=hN2.out;omega
       | false =>
        rw[hb,Bool.false_and] at hnx;rw[hb] at PI;have eT:=HD (metT_ins (m:=m) hall.out (hI.out.trans hnx));clear hnx hb hI;generalize hTT:((2*t:Nat):Int)=tt at *
        go_wp2_with fail
        with_reducible refine PI.out.mono ?_
        rintro e1 w2 ⟨rfl,hb2⟩
        go_wp2
        go_ret;exact⟨by rw[e.out,eT.out];rfl,(S.out.up hb2).bel⟩
      ·have d2':decide (((2*t:Nat):Int) < (m.code.length:Int))=false:=by have:=hN2.out;simp;omega
       have d3':¬ ((2*t:Nat):Int) < (m.code.length:Int):=by have:=hN2.out;omega
       have hI':=hI.out;rw[show N - t=0 by omega,insF] at hI';have eT:=HD (metT_ok (m:=m) hall.out hI');clear hI hI';generalize hTT:((2*t:Nat):Int)=tt at *
       go_wp2
       go_ret;exact⟨by rw[e.out,eT.out];rfl,S.out.bel⟩
 ·have f14:(x == 14)=false:=by simp;omega
  have f19:(x == 19)=false:=by simp;omega
  have f16:(x == 16)=false:=by simp;omega
  have n14:(x != 14)=true:=by simp;omega
  have n19:(x != 19)=true:=by simp;omega
  have n16:(x != 16)=true:=by simp;omega
  have e:=HD (e1 (by omega));clear hx e1 e2 hk hm H2 G h1 hn hnl
  go_wp2
  go_ret;exact⟨by rw[e.out];rfl,S0.out.bel⟩
def firstE:List Int→Int
 | []=>0
 | e :: L=>if e=0 then firstE L else e
def eBinds (B:List (Int × Int)):Int:=if (ofD B D0).isSome=true then 0 else 14
def nmAt (L:List ByteArray) (i:Int):ByteArray:=L.getD i.toNat ⟨#[]⟩
def agAt (L:List MethA) (i:Int):Int:=match L[i.toNat]? with
 | some x=>x.args
 | none=>0
def eArg (U:UnitA) (b:Int × Int):Int:=if argsR (nmAt U.names b.1)=agAt U.methods b.2 then 0 else 15
def eArgs (U:UnitA):List ClassA→List Int
 | []=>[]
 | c :: C=>c.binds.map (eArg U)++eArgs U C
def longB (U:UnitA):Bool:=decide (48 < U.names.length) || (decide (U.methods.length < 1) || (decide (32 < U.methods.length) || (decide (U.objects.length < 1) || decide (40 < U.objects.length))))
def mainE (U:UnitA):Int:=if 0≤U.main∧U.main < (U.methods.length:Int)∧agAt U.methods U.main=0 then 0 else 15
def restO (U:UnitA) (k:Nat):List Int:=(U.objects.drop k).map (fun x=>if objB x U.classes U.objects.length=true then (0:Int) else 16)++[mainE U]
def restA (U:UnitA) (k:Nat):List Int:=eArgs U (U.classes.drop k)++restO U 0
def restB (U:UnitA) (B:List (Int × Int)) (k j:Nat):List Int:=(B.drop j).map (eArg U)++restA U k
def restM (U:UnitA) (k:Nat):List Int:=(U.methods.drop k).map (fun m=>metR m U.names.length U.classes.length U.methods.length)++restA U 0
def restC (U:UnitA) (k:Nat):List Int:=(U.classes.drop k).map (fun c=>eBinds c.binds)++restM U 0
def unitR (U:UnitA):Int:=firstE ((if longB U=true then (3:Int) else 0) :: (if namesB U.names=true then (0:Int) else 13) :: shapeR U.classes U.names.length U.methods.length :: restC U 0)
structure StU (U:UnitA) (X:List Int):Prop where
 mk ::
 eq:unitR U=firstE X
theorem StU.ok {U:UnitA} {X:List Int} {e:Int} (h:StU U (e :: X)) (he:e=0):StU U X:=⟨by rw[h.eq,firstE,if_pos he]⟩
theorem StU.bad {U:UnitA} {X:List Int} {e:Int} (h:StU U (e :: X)) (he:¬ e=0):unitR U=e:=by rw[h.eq,firstE,if_neg he]
theorem StU.start (U:UnitA):StU U ((if longB U=true then (3:Int) else 0) :: (if namesB U.names=true then (0:Int) else 13) :: shapeR U.classes U.names.length U.methods.length :: restC U 0):=⟨rfl⟩
theorem restC_next {U:UnitA} {k:Nat} {c:ClassA} (h:U.classes[k]?=some c):restC U k=eBinds c.binds :: restC U (k+1):=by unfold restC;rw[drop_next h];rfl
theorem restM_next {U:UnitA} {k:Nat} {m:MethA} (h:U.methods[k]?=some m):restM U k=metR m U.names.length U.classes.length U.methods.length :: restM U (k+1):=by unfold restM;rw[drop_next h];rfl
theorem restO_next {U:UnitA} {k:Nat} {x:ObjA} (h:U.objects[k]?=some x):restO U k=(if objB x U.classes U.objects.length=true then (0:Int) else 16) :: restO U (k+1):=by unfold restO;rw[drop_next h];rfl
theorem restA_next {U:UnitA} {k:Nat} {c:ClassA} (h:U.classes[k]?=some c):restA U k=restB U c.binds (k+1) 0:=by unfold restA restB restA;rw[drop_next h];simp[eArgs]
theorem restB_next {U:UnitA} {B:List (Int × Int)} {k j:Nat} {b:Int × Int} (h:B[j]?=some b):restB U B k j=eArg U b :: restB U B k (j+1):=by unfold restB;rw[drop_next h];rfl
theorem drop_all {T:Type} {L:List T} {k:Nat} (h:k=L.length):L.drop k=[]:=by subst h;exact List.drop_length
theorem restC_last {U:UnitA} {k:Nat} (h:k=U.classes.length):restC U k=restM U 0:=by unfold restC;rw[drop_all h];rfl
theorem restM_last {U:UnitA} {k:Nat} (h:k=U.methods.length):restM U k=restA U 0:=by unfold restM;rw[drop_all h];rfl
theorem restA_last {U:UnitA} {k:Nat} (h:k=U.classes.length):restA U k=restO U 0:=by unfold restA;rw[drop_all h];rfl
theorem restB_last {U:UnitA} {B:List (Int × Int)} {k j:Nat} (h:j=B.length):restB U B k j=restA U k:=by unfold restB;rw[drop_all h];rfl
theorem restO_last {U:UnitA} {k:Nat} (h:k=U.objects.length):restO U k=[mainE U]:=by unfold restO;rw[drop_all h];rfl
theorem from_binds {L:List ClassA} {names methods:Int}:∀ (C:List ClassA) (i:Nat),shapeFrom L names methods i C=0→∀ c∈C,bindsOk c.binds names methods=true
 | [],_,_,c,h=>by cases h
 | d :: C,i,e,c,h=>by
  rw[shapeFrom] at e
  split at e
  ·cases e
  ·split at e
   ·cases e
   ·split at e
    ·cases e
    ·split at e
     ·cases e
     ·rename_i hb;rcases List.mem_cons.1 h with rfl | h
      ·simpa using hb
      ·exact from_binds C (i+1) e c h
theorem shape_binds {L:List ClassA} {names methods:Int} (e:shapeR L names methods=0) {k:Nat} {c:ClassA} (hc:L[k]?=some c) {j:Nat} {b:Int × Int} (hb:c.binds[j]?=some b):0≤b.1∧b.1 < names∧0≤b.2∧b.2 < methods:=by
 unfold shapeR at e
 split at e
 ·cases e
 ·split at e
  ·cases e
  ·have h1:=from_binds L 0 e c (List.mem_of_getElem? hc);unfold bindsOk at h1;simp only[Bool.and_eq_true,List.all_eq_true] at h1;have h2:=h1.1.1 b (List.mem_of_getElem? hb);unfold bindOk at h2;simp only[Bool.and_eq_true,decide_eq_true_iff] at h2;omega
theorem rofY {w:World} {v:Value} {B:List (Int × Int)} (h:PrV w v B) (e:eBinds B=0) :
  Calls Tryz.prog 49 #[v] w fun e w'=>∃ b,e=.returned (.tuple #[.pointer (some ⟨b,0,none⟩),.bool true])∧Below w.heap.size w w':=by
 refine (rof_c h).mono ?_;rintro e1 w1 ⟨⟨D,b,_,he,_,_⟩ | ⟨h0,he⟩,hb⟩
 ·exact⟨b,he,hb⟩
 ·unfold eBinds at e;rw[h0] at e;cases e
theorem rofN {w:World} {v:Value} {B:List (Int × Int)} (h:PrV w v B) (e:¬ eBinds B=0) :
  Calls Tryz.prog 49 #[v] w fun e w'=>e=.returned (.tuple #[.pointer none,.bool false])∧Below w.heap.size w w':=by
 refine (rof_c h).mono ?_;rintro e1 w1 ⟨⟨D,b,h0,he,_,_⟩ | ⟨h0,he⟩,hb⟩
 ·unfold eBinds at e;rw[h0] at e;exact absurd rfl e
 ·exact⟨he,hb⟩
theorem eBinds_14 {B:List (Int × Int)} (e:¬ eBinds B=0):eBinds B=14:=by
 unfold eBinds at e ⊢
 split
 ·rename_i h;rw[if_pos h] at e;exact absurd rfl e
 ·rfl
structure V1 (w wr:World) (U:UnitA) (na:Option Addr) (nc:Nat) (ca:Option Addr) (cc:Nat) (ma:Option Addr) (mc:Nat) (oa:Option Addr) (oc:Nat) (l1 l2 l3 l4:Nat):Prop where
 mk ::
 cells:wr.cell? ⟨w.heap.size,0,none⟩=some (.slice na l1 nc)∧wr.cell? ⟨w.heap.size,1,none⟩=some (.slice ca l2 cc)∧wr.cell? ⟨w.heap.size,2,none⟩=some (.slice ma l3 mc)∧wr.cell? ⟨w.heap.size,3,none⟩=some (.slice oa l4 oc)∧wr.cell? ⟨w.heap.size,4,none⟩=some (.int .i64 U.main)
 views:NmV wr (.slice na l1 nc) U.names∧ClV wr (.slice ca l2 cc) U.classes∧MtV wr (.slice ma l3 mc) U.methods∧ObV wr (.slice oa l4 oc) U.objects
 lens:l1=U.names.length∧l2=U.classes.length∧l3=U.methods.length∧l4=U.objects.length
 les:l1≤maxLen∧l2≤maxLen∧l3≤maxLen∧l4≤maxLen
 caps:l1≤nc∧l2≤cc∧l3≤mc∧l4≤oc
 bel:Below w.heap.size w wr
section
variable {w wr w2:World} {U:UnitA} {na ca ma oa:Option Addr} {nc cc mc oc l1 l2 l3 l4:Nat}
theorem V1.up (h:V1 w wr U na nc ca cc ma mc oa oc l1 l2 l3 l4) (b:Below wr.heap.size wr w2):V1 w w2 U na nc ca cc ma mc oa oc l1 l2 l3 l4:=by
 obtain⟨a0,a1,a2,a3,a4⟩:=h.cells;obtain⟨v0,v1,v2,v3⟩:=h.views;exact⟨⟨cell_up b a0,cell_up b a1,cell_up b a2,cell_up b a3,cell_up b a4⟩,⟨v0.up b,v1.up b,v2.up b,v3.up b⟩,h.lens,h.les,h.caps,h.bel.trans (b.mono h.bel.size)⟩
theorem V1.drew (h:V1 w wr U na nc ca cc ma mc oa oc l1 l2 l3 l4):V1 w wr.drew U na nc ca cc ma mc oa oc l1 l2 l3 l4:=h.up ((Below.refl _ _).drew)
theorem V1.unk (h:V1 w wr U na nc ca cc ma mc oa oc l1 l2 l3 l4):UnK wr (.agg #[.slice na l1 nc,.slice ca l2 cc,.slice ma l3 mc,.slice oa l4 oc,.int .i64 U.main]) U:=by
 obtain⟨v0,v1,v2,v3⟩:=h.views;obtain⟨e1,e2,e3,e4⟩:=h.lens;subst e1;subst e2;subst e3;subst e4;exact⟨⟨na,nc,ca,cc,ma,mc,oa,oc,rfl,⟨v0,v1,v2,v3⟩⟩⟩
end
set_option maxHeartbeats 64000000 in
theorem runit_c {w:World} {u:Value} {U:UnitA} (hu:UnK w u U) :
  Calls Tryz.prog 25 #[u] w fun e w'=>e=.returned (.int .i64 (unitR U))∧Below w.heap.size w w':=by
 obtain⟨na,nc,ca,cc,ma,mc,oa,oc,rfl,ha'⟩:=hu.ex;obtain⟨_,_,e1,k1,m1,-⟩:=ha'.n.ex;cases e1;obtain⟨_,_,e2,k2,m2⟩:=ha'.c.form;cases e2;obtain⟨_,_,e3,k3,m3,-⟩:=ha'.m.ex;cases e3;obtain⟨_,_,e4,k4,m4⟩:=ha'.o.form;cases e4;obtain⟨v1,v2,v3,v4⟩:=ha';clear hu;obtain⟨l1,g1⟩:∃ n,n=U.names.length:=⟨_,rfl⟩
 obtain⟨l2,g2⟩:∃ n,n=U.classes.length:=⟨_,rfl⟩
 obtain⟨l3,g3⟩:∃ n,n=U.methods.length:=⟨_,rfl⟩
 obtain⟨l4,g4⟩:∃ n,n=U.objects.length:=⟨_,rfl⟩
 rw[← g1] at k1 v1 ⊢;replace m1:=Nat.le_trans k1 m1;rw[← g2] at k2 v2 ⊢;replace m2:=Nat.le_trans k2 m2;rw[← g3] at k3 v3 ⊢;replace m3:=Nat.le_trans k3 m3;rw[← g4] at k4 v4 ⊢;replace m4:=Nat.le_trans k4 m4;have hw1:=(Below.refl w.heap.size w).alloc (Nat.le_refl _) (.cells #[.slice na l1 nc,.slice ca l2 cc,.slice ma l3 mc,.slice oa l4 oc,.int .i64 U.main] 27);have hS:Hid (V1 w (w.alloc (.cells #[.slice na l1 nc,.slice ca l2 cc,.slice ma l3 mc,.slice oa l4 oc,.int .i64 U.main] 27)) U na nc ca cc ma mc oa oc l1 l2 l3 l4):=HD ⟨⟨by simp,by simp,by simp,by simp,by simp⟩,⟨v1.up hw1,v2.up hw1,v3.up hw1,v4.up hw1⟩,⟨g1,g2,g3,g4⟩,⟨m1,m2,m3,m4⟩,⟨k1,k2,k3,k4⟩,hw1⟩;have hT:=StU.start U;have hlong:longB U=(decide (48 < l1) || (decide (l3 < 1) || (decide (32 < l3) || (decide (l4 < 1) || decide (40 < l4))))):=by unfold longB;rw[← g1,← g3,← g4]
 have hmx:maxLen≤9223372036854775807:=by decide
 have j1:(l1:Int)≤9223372036854775807:=by omega
 have j2:(l2:Int)≤9223372036854775807:=by omega
 have j3:(l3:Int)≤9223372036854775807:=by omega
 have j4:(l4:Int)≤9223372036854775807:=by omega
 have PN:=HD (fun (w':World) (h:NmV w' (.slice na l1 nc) U.names)=>rnames_c h);have PS:=HD (fun (w':World) (h:ClV w' (.slice ca l2 cc) U.classes)=>shape_c h l1 l3 (in64 _ ⟨by omega,by omega⟩) (in64 _ ⟨by omega,by omega⟩));clear hw1 hmx k1 k2 k3 k4 m1 m2 m3 m4 v1 v2 v3 v4;replace hT:=HD hT;have gg:=HD (And.intro g1 (And.intro g2 (And.intro g3 g4)));clear g1 g2 g3 g4;go_enter Tryz.func25,Tryz.ntmps25
 go_upto_region 1 with fail
 generalize w.alloc (.cells #[.slice na l1 nc,.slice ca l2 cc,.slice ma l3 mc,.slice oa l4 oc,.int .i64 U.main] 27)=W at *;obtain⟨a0,a1,a2,a3,a4⟩:=hS.out.cells;by_cases t0:48 < l1
 ·as_aux_lemma =>
  have e:Hid (unitR U=3):=HD (by
   have hb:longB U=true:=by rw[hlong];simp[t0]
   have h:=hT.out;rw[if_pos hb] at h;exact h.bad (by omega))
  have d0:decide ((l1:Int) > 48)=true:=by simp;omega
  clear t0 hT hlong
  go_wp2
  go_ret;exact⟨congrArg (fun b=>Ending.returned (Value.int .i64 b)) e.out.symm,hS.out.bel⟩
 have d0:decide ((l1:Int) > 48)=false:=by simp;omega
 by_cases t1:l3 < 1
 ·as_aux_lemma =>
  have e:Hid (unitR U=3):=HD (by
   have hb:longB U=true:=by rw[hlong];simp[t1]
   have h:=hT.out;rw[if_pos hb] at h;exact h.bad (by omega))
  have d1:decide ((l3:Int) < 1)=true:=by simp;omega
  clear t1 hT hlong
  go_wp2
  go_ret;exact⟨congrArg (fun b=>Ending.returned (Value.int .i64 b)) e.out.symm,hS.out.bel⟩
 have d1:decide ((l3:Int) < 1)=false:=by simp;omega
 by_cases t2:32 < l3
 ·as_aux_lemma =>
  have e:Hid (unitR U=3):=HD (by
   have hb:longB U=true:=by rw[hlong];simp[t2]
   have h:=hT.out;rw[if_pos hb] at h;exact h.bad (by omega))
  have d2:decide ((l3:Int) > 32)=true:=by simp;omega
  clear t2 hT hlong
  go_wp2
  go_ret;exact⟨congrArg (fun b=>Ending.returned (Value.int .i64 b)) e.out.symm,hS.out.bel⟩
 have d2:decide ((l3:Int) > 32)=false:=by simp;omega
 by_cases t3:l4 < 1
 ·as_aux_lemma =>
  have e:Hid (unitR U=3):=HD (by
   have hb:longB U=true:=by rw[hlong];simp[t3]
   have h:=hT.out;rw[if_pos hb] at h;exact h.bad (by omega))
  have d3:decide ((l4:Int) < 1)=true:=by simp;omega
  clear t3 hT hlong
  go_wp2
  go_ret;exact⟨congrArg (fun b=>Ending.returned (Value.int .i64 b)) e.out.symm,hS.out.bel⟩
 have d3:decide ((l4:Int) < 1)=false:=by simp;omega
 by_cases t4:40 < l4
 ·as_aux_lemma =>
  have e:Hid (unitR U=3):=HD (by
   have hb:longB U=true:=by rw[hlong];simp[t4]
   have h:=hT.out;rw[if_pos hb] at h;exact h.bad (by omega))
  have d4:decide ((l4:Int) > 40)=true:=by simp;omega
  clear t4 hT hlong
  go_wp2
  go_ret;exact⟨congrArg (fun b=>Ending.returned (Value.int .i64 b)) e.out.symm,hS.out.bel⟩
 have d4:decide ((l4:Int) > 40)=false:=by simp;omega
 have T1:Hid (StU U ((if namesB U.names=true then (0:Int) else 13) :: shapeR U.classes U.names.length U.methods.length :: restC U 0)):=HD (by
  have hb:longB U=false:=by rw[hlong];simp;omega
  have h:=hT.out;rw[hb] at h;exact h.ok rfl)
 clear hT hlong t0 t1 t2 t3 t4
 go_wp2_with fail
 refine (PN.out _ hS.out.views.1).mono ?_;rintro e w2 ⟨rfl,rfl⟩;cases hnm:namesB U.names with
 | false =>
  have e:Hid (unitR U=13):=HD (by have h:=T1.out;rw[hnm] at h;exact h.bad (by decide));clear T1 hnm
  go_wp2
  go_ret;exact⟨congrArg (fun b=>Ending.returned (Value.int .i64 b)) e.out.symm,hS.out.bel⟩
 | true =>
 have T2:Hid (StU U (shapeR U.classes U.names.length U.methods.length :: restC U 0)):=HD (by have h:=T1.out;rw[hnm] at h;exact h.ok rfl);clear T1 hnm
 go_wp2_with fail
 refine (PS.out _ hS.out.views.2.1).mono ?_;rintro e w2 ⟨rfl,hb2⟩;replace hS:=HD (hS.out.up hb2);clear hb2 a0 a1 a2 a3 a4;obtain⟨a0,a1,a2,a3,a4⟩:=hS.out.cells;obtain⟨s,hs⟩:∃ s,shapeR U.classes l1 l3=s:=⟨_,rfl⟩
 rw[hs];replace hs:Hid (shapeR U.classes U.names.length U.methods.length=s):=HD (by obtain⟨g1,g2,g3,g4⟩:=gg.out;rw[← g1,← g3];exact hs);by_cases hz:¬ s=0
 ·as_aux_lemma =>
  have e:Hid (unitR U=s):=HD (by have h:=T2.out;rw[hs.out] at h;exact h.bad hz);have hz':(s != 0)=true:=by simpa using hz
  clear T2 hz
  go_wp2
  go_ret;exact⟨congrArg (fun b=>Ending.returned (Value.int .i64 b)) e.out.symm,hS.out.bel⟩
 replace hz:s=0:=Decidable.not_not.1 hz;subst hz;have T3:Hid (StU U (restC U 0)):=HD (by have h:=T2.out;rw[hs.out] at h;exact h.ok rfl);clear T2
 go_wp2
 clear a0 a1 a2 a3 a4
 go_loopw [64] (fun i wr=>∃ (k:Nat),k≤l2∧i=.int .i64 k∧Hid (StU U (restC U k))∧Hid (V1 w wr U na nc ca cc ma mc oa oc l1 l2 l3 l4)) (fun i _=>l2 - (intOf i).toNat)
 case atStart=>exact⟨0,by omega,rfl,T3,hS⟩
 case round =>
  clear hS T3;obtain⟨k,hk,rfl,hT,hS⟩:=hrel;obtain⟨a0,a1,a2,a3,a4⟩:=hS.out.cells;by_cases hlt:k < l2
  ·as_aux_lemma =>
   have hlt':decide ((k:Int) < (l2:Int))=true:=by simp;omega
   have p0:(0:Int)≤(k:Int):=by omega
   have p1:(k:Int) < (l2:Int):=by omega
   obtain⟨x,hx⟩:∃ x,U.classes[k]?=some x:=⟨U.classes[k]'(by obtain⟨h1,h2,h3,h4⟩:=gg.out;omega),by simp⟩
   obtain⟨q1,q2,q3,q4⟩:=hS.out.caps;obtain⟨_,_,g,off,bv,rfl,d0,d1,d2,d3,pb⟩:=ClV.at hS.out.views.2.1 hx;obtain⟨ba,bc,rfl,_,_⟩:=pb.form;have T:=hT.out;rw[restC_next hx] at T;have hS2:=HD (hS.out.up ((Below.refl _ _).alloc (Nat.le_refl _) (.cells #[.string x.nm,.int .i64 x.super,.int .i64 x.fields,.slice ba x.binds.length bc] 60)));have pb2:=HD (pb.up ((Below.refl _ _).alloc (Nat.le_refl _) (.cells #[.string x.nm,.int .i64 x.super,.int .i64 x.fields,.slice ba x.binds.length bc] 60)));clear hT pb hx;by_cases hz:¬ eBinds x.binds=0
   ·as_aux_lemma =>
    have e:Hid (unitR U=14):=HD (by rw[T.bad hz];exact eBinds_14 hz);have hzh:=HD hz;clear T hz
    go_wp2_with fail
    refine (rofN pb2.out hzh.out).mono ?_;rintro e1 w3 ⟨rfl,hb3⟩;replace hS:=HD (hS2.out.up hb3);clear hS2 hb3 pb2
    go_wp2
    go_ret;exact⟨congrArg (fun b=>Ending.returned (Value.int .i64 b)) e.out.symm,hS.out.bel⟩
   replace hz:eBinds x.binds=0:=Decidable.not_not.1 hz;have hzh:=HD hz;have hT':Hid (StU U (restC U (k+1))):=HD (T.ok hz);clear T hz
   go_wp2_with fail
   refine (rofY pb2.out hzh.out).mono ?_;rintro e1 w3 ⟨bq,rfl,hb3⟩;replace hS:=HD (hS2.out.up hb3);clear hS2 hb3 pb2
   go_wp2
   go_roundw
   case rel=>exact⟨k+1,by omega,by go_num,hT',hS⟩
   case measure=>simp[intOf];omega
  ·as_aux_lemma =>
   have hlt':decide ((k:Int) < (l2:Int))=false:=by simp;omega
   have hT':=hT.out;rw[restC_last (by obtain⟨h1,h2,h3,h4⟩:=gg.out;omega)] at hT';clear hT;have hT:=HD hT';clear hT'
   go_wp2
   clear a0 a1 a2 a3 a4;clear hlt hlt' hk
   go_loopw [80] (fun i wr=>∃ (k:Nat),k≤l3∧i=.int .i64 k∧Hid (StU U (restM U k))∧Hid (V1 w wr U na nc ca cc ma mc oa oc l1 l2 l3 l4)) (fun i _=>l3 - (intOf i).toNat)
   case atStart=>exact⟨0,by omega,rfl,hT,hS⟩
   case round =>
    clear hS hT;obtain⟨k,hk,rfl,hT,hS⟩:=hrel;obtain⟨a0,a1,a2,a3,a4⟩:=hS.out.cells;by_cases hlt:k < l3
    ·as_aux_lemma =>
     have hlt':decide ((k:Int) < (l3:Int))=true:=by simp;omega
     have p0:(0:Int)≤(k:Int):=by omega
     have p1:(k:Int) < (l3:Int):=by omega
     obtain⟨x,hx⟩:∃ x,U.methods[k]?=some x:=⟨U.methods[k]'(by obtain⟨h1,h2,h3,h4⟩:=gg.out;omega),by simp⟩
     obtain⟨q1,q2,q3,q4⟩:=hS.out.caps;obtain⟨g,off,la,lc,ka,kc,rfl,d0,d1,d2,d3,pm⟩:=MtV.at hS.out.views.2.2.1 hx;have T:=hT.out;rw[restM_next hx] at T;have hS2:=HD (hS.out.up ((Below.refl _ _).alloc (Nat.le_refl _) (.cells #[.int .i64 x.args,.int .i64 x.temps,.slice la x.lits.length lc,.slice ka x.code.length kc] 63)));have pm2:=HD (pm.up ((Below.refl _ _).alloc (Nat.le_refl _) (.cells #[.int .i64 x.args,.int .i64 x.temps,.slice la x.lits.length lc,.slice ka x.code.length kc] 63)));clear hT pm hx;obtain⟨f0,f1,f2,f3,f4⟩:=hS2.out.cells;obtain⟨r,hr⟩:∃ r,metR x U.names.length U.classes.length U.methods.length=r:=⟨_,rfl⟩
     rw[hr] at T;by_cases hz:¬ r=0
     ·as_aux_lemma =>
      have e:Hid (unitR U=r):=HD (T.bad hz);have hz':(r != 0)=true:=by simpa using hz
      replace hr:=HD hr;clear T hz
      go_wp2_with fail
      refine (rmeth_c pm2.out hS2.out.unk).mono ?_;rintro e1 w3 ⟨he1,hb3⟩;rw[hr.out] at he1;subst he1;replace hS:=HD (hS2.out.up hb3);clear hS2 hb3 pm2 hr f0 f1 f2 f3 f4
      go_wp2
      go_ret;exact⟨congrArg (fun b=>Ending.returned (Value.int .i64 b)) e.out.symm,hS.out.bel⟩
     replace hz:r=0:=Decidable.not_not.1 hz;subst hz;have hT':Hid (StU U (restM U (k+1))):=HD (T.ok rfl);replace hr:=HD hr;clear T
     go_wp2_with fail
     refine (rmeth_c pm2.out hS2.out.unk).mono ?_;rintro e1 w3 ⟨he1,hb3⟩;rw[hr.out] at he1;subst he1;replace hS:=HD (hS2.out.up hb3);clear hS2 hb3 pm2 hr f0 f1 f2 f3 f4
     go_wp2
     go_roundw
     case rel=>exact⟨k+1,by omega,by go_num,hT',hS⟩
     case measure=>simp[intOf];omega
    ·as_aux_lemma =>
     have hlt':decide ((k:Int) < (l3:Int))=false:=by simp;omega
     have hT':=hT.out;rw[restM_last (by obtain⟨h1,h2,h3,h4⟩:=gg.out;omega)] at hT';clear hT;have hT:=HD hT';clear hT'
     go_wp2
     clear a0 a1 a2 a3 a4;clear hlt hlt' hk
     go_loopw [94] (fun i wr=>∃ (k:Nat),k≤l2∧i=.int .i64 k∧Hid (StU U (restA U k))∧Hid (V1 w wr U na nc ca cc ma mc oa oc l1 l2 l3 l4)) (fun i _=>l2 - (intOf i).toNat)
     case atStart=>exact⟨0,by omega,rfl,hT,hS⟩
     case round =>
      clear hS hT;obtain⟨k,hk,rfl,hT,hS⟩:=hrel;obtain⟨a0,a1,a2,a3,a4⟩:=hS.out.cells;by_cases hlt:k < l2
      ·as_aux_lemma =>
       have hlt':decide ((k:Int) < (l2:Int))=true:=by simp;omega
       have p0:(0:Int)≤(k:Int):=by omega
       have p1:(k:Int) < (l2:Int):=by omega
       obtain⟨x,hx⟩:∃ x,U.classes[k]?=some x:=⟨U.classes[k]'(by obtain⟨h1,h2,h3,h4⟩:=gg.out;omega),by simp⟩
       obtain⟨q1,q2,q3,q4⟩:=hS.out.caps;obtain⟨_,_,g,off,bv,rfl,d0,d1,d2,d3,pb⟩:=ClV.at hS.out.views.2.1 hx;obtain⟨ba,bc,rfl,qb1,qb2⟩:=pb.form;obtain⟨n,hn⟩:∃ n,n=x.binds.length:=⟨_,rfl⟩
       rw[← hn] at d3 pb qb1;have T:=hT.out;rw[restA_next hx] at T;have hS2:=HD (hS.out.up ((Below.refl _ _).alloc (Nat.le_refl _) (.cells #[.string x.nm,.int .i64 x.super,.int .i64 x.fields,.slice ba n bc] 60)));have pb2:=HD (pb.up ((Below.refl _ _).alloc (Nat.le_refl _) (.cells #[.string x.nm,.int .i64 x.super,.int .i64 x.fields,.slice ba n bc] 60)));have hxh:=HD hx;have hnh:=HD hn;have T2:=HD T;have n9:(n:Int)≤9223372036854775807:=by have:=Nat.le_trans qb1 qb2;unfold maxLen at this;omega
       clear hT pb hx hn T hS
       go_wp2
       generalize wr.alloc (.cells #[.string x.nm,.int .i64 x.super,.int .i64 x.fields,.slice ba n bc] 60)=W2 at *;clear a0 a1 a2 a3 a4 d0 d1 d2 d3 qb1 qb2 q1 q2 q3 q4 p0 p1
       go_loopw [101] (fun i wi=>∃ (j:Nat),j≤n∧i=.int .i64 j∧Hid (StU U (restB U x.binds (k+1) j))∧Hid (V1 w wi U na nc (some ⟨g,off,none⟩) cc ma mc oa oc l1 l2 l3 l4)∧Hid (PrV wi (.slice ba n bc) x.binds)) (fun i _=>n - (intOf i).toNat)
       case atStart=>exact⟨0,by omega,rfl,T2,hS2,pb2⟩
       case round =>
        clear hS2 T2 pb2;obtain⟨j,hj,rfl,hT,hS,hP⟩:=hrel;obtain⟨a0,a1,a2,a3,a4⟩:=hS.out.cells;by_cases hjt:j < n
        ·as_aux_lemma =>
         have hjt':decide ((j:Int) < (n:Int))=true:=by simp;omega
         have p0:(0:Int)≤(j:Int):=by omega
         have p1:(j:Int) < (n:Int):=by omega
         obtain⟨b,hb⟩:∃ b,x.binds[j]?=some b:=⟨x.binds[j]'(by have:=hnh.out;omega),by simp⟩
         obtain⟨y1,y2,y3,y4⟩:=shape_binds hs.out hxh.out hb;obtain⟨i1,i2,bg,bo,rfl,e0,e1⟩:=hP.out.at hb;have T:=hT.out;rw[restB_next hb] at T;obtain⟨z,m⟩:=b;obtain⟨z,rfl⟩:∃ q:Nat,z=q:=⟨z.toNat,by omega⟩
         obtain⟨m,rfl⟩:∃ q:Nat,m=q:=⟨m.toNat,by omega⟩
         simp only at y1 y2 y3 y4 e0 e1;obtain⟨h1,h2,h3,h4⟩:=gg.out;rw[← h1] at y2;rw[← h3] at y4;obtain⟨nm,hnm⟩:∃ q,U.names[z]?=some q:=⟨U.names[z]'(by omega),by simp⟩
         obtain⟨me,hme⟩:∃ q,U.methods[m]?=some q:=⟨U.methods[m]'(by omega),by simp⟩
         obtain⟨ng,noff,rfl,g0⟩:=NmV.at hS.out.views.1 hnm;obtain⟨mg,moff,_,_,_,_,rfl,m0,_,_,_,_⟩:=MtV.at hS.out.views.2.2.1 hme;have eA:eArg U ((z:Int),(m:Int))=if argsR nm=me.args then 0 else 15:=by
          unfold eArg nmAt agAt;simp only[Int.toNat_natCast,List.getD_eq_getElem?_getD,hnm,hme,Option.getD_some]
         rw[eA] at T;have bx:=(Below.refl wr.heap.size wr).alloc (Nat.le_refl _) (.cells #[.int .i64 z,.int .i64 m] 66);have hSb:=hS.out.up bx;have hPb:=hP.out.up bx;have w0:(wr.alloc (.cells #[.int .i64 z,.int .i64 m] 66)).cell? ⟨wr.heap.size,0,none⟩=some (.int .i64 z):=World.cell?_alloc_new _ _ _ 0;have w1:(wr.alloc (.cells #[.int .i64 z,.int .i64 m] 66)).cell? ⟨wr.heap.size,1,none⟩=some (.int .i64 m):=World.cell?_alloc_new _ _ _ 1;replace g0:=cell_up bx g0;replace m0:=cell_up bx m0;replace hT:=HD T;have PA:=HD (argsR_c nm);clear eA T hnm hme hb y1 y3 i1 i2 h1 h2 h3 h4 bx hS hP;obtain⟨c1,c2,c3,c4⟩:=hSb.caps
         go_upto_region 28 with fail
         clear a0 a1 a2 a3 a4 e0 e1;obtain⟨a0,a1,a2,a3,a4⟩:=hSb.cells;replace hSb:=HD hSb.drew;replace hPb:=HD (hPb.up ((Below.refl _ _).drew));generalize wr.alloc (.cells #[.int .i64 z,.int .i64 m] 66)=W3 at *;generalize argsR nm=ar at *;by_cases he:¬ ar=me.args
         ·as_aux_lemma =>
          have e:Hid (unitR U=15):=HD (by have h:=hT.out;rw[if_neg he] at h;exact h.bad (by decide));have he':(ar != me.args)=true:=by simpa using he
          clear hT he;refine wp_region_still_lit (by kernel_rfl) (by kernel_rfl) ?_
          iterate 6 still_step
          still_call (PA.out _)
          iterate 8 still_step
          refine wpStill_nil ?_;change Exit.then _ _ Exit.normal _ W3.drew
          go_wp2
          go_ret;exact⟨congrArg (fun b=>Ending.returned (Value.int .i64 b)) e.out.symm,hSb.out.bel⟩
         ·as_aux_lemma =>
          replace he:ar=me.args:=Decidable.not_not.1 he;have he':(ar != me.args)=false:=by simpa using he
          have hT':=HD ((by have h:=hT.out;rw[if_pos he] at h;exact h:StU U (0 :: restB U x.binds (k+1) (j+1))).ok rfl);clear hT he;refine wp_region_still_lit (by kernel_rfl) (by kernel_rfl) ?_
          iterate 6 still_step
          still_call (PA.out _)
          iterate 8 still_step
          refine wpStill_nil ?_;change Exit.then _ _ Exit.normal _ W3.drew;clear a0 a1 a2 a3 a4 w0 w1 g0 m0
          go_wp2
          go_roundw
          case rel=>exact⟨j+1,by omega,by go_num,hT',hSb,hPb⟩
          case measure=>simp[intOf];omega
        ·as_aux_lemma =>
         have hjt':decide ((j:Int) < (n:Int))=false:=by simp;omega
         have T:=hT.out;rw[restB_last (by have:=hnh.out;omega)] at T;have hT':=HD T;clear hT T hP
         go_wp2
         go_roundw
         case rel=>exact⟨k+1,by omega,by go_num,hT',hS⟩
         case measure=>simp[intOf];omega
      ·as_aux_lemma =>
       have hlt':decide ((k:Int) < (l2:Int))=false:=by simp;omega
       have hT':=hT.out;rw[restA_last (by obtain⟨h1,h2,h3,h4⟩:=gg.out;omega)] at hT';clear hT;have hT:=HD hT';clear hT'
       go_wp2
       clear a0 a1 a2 a3 a4;clear hlt hlt' hk
       go_loopw [125] (fun i wr=>∃ (k:Nat),k≤l4∧i=.int .i64 k∧Hid (StU U (restO U k))∧Hid (V1 w wr U na nc ca cc ma mc oa oc l1 l2 l3 l4)) (fun i _=>l4 - (intOf i).toNat)
       case atStart=>exact⟨0,by omega,rfl,hT,hS⟩
       case round =>
        clear hS hT;obtain⟨k,hk,rfl,hT,hS⟩:=hrel;obtain⟨a0,a1,a2,a3,a4⟩:=hS.out.cells;by_cases hlt:k < l4
        ·as_aux_lemma =>
         have hlt':decide ((k:Int) < (l4:Int))=true:=by simp;omega
         have p0:(0:Int)≤(k:Int):=by omega
         have p1:(k:Int) < (l4:Int):=by omega
         obtain⟨x,hx⟩:∃ x,U.objects[k]?=some x:=⟨U.objects[k]'(by obtain⟨h1,h2,h3,h4⟩:=gg.out;omega),by simp⟩
         obtain⟨q1,q2,q3,q4⟩:=hS.out.caps;obtain⟨_,g,off,fv,rfl,d0,d1,pf⟩:=ObV.at hS.out.views.2.2.2 hx;obtain⟨fa,fc,rfl,_,_⟩:=pf.form;have T:=hT.out;rw[restO_next hx] at T;have i64:In64 x.cls:=(ObV.at hS.out.views.2.2.2 hx).1;have bx:=(Below.refl wr.heap.size wr).alloc (Nat.le_refl _) (.cells #[.int .i64 x.cls,.slice fa x.flds.length fc] 55);have hS2:=HD (hS.out.up bx);have ok2:Hid (ObK (wr.alloc (.cells #[.int .i64 x.cls,.slice fa x.flds.length fc] 55)) (.agg #[.int .i64 x.cls,.slice fa x.flds.length fc]) x):=HD ⟨i64,fa,fc,rfl,pf.up bx⟩;clear hT pf hx bx;obtain⟨f0,f1,f2,f3,f4⟩:=hS2.out.cells;obtain⟨r,hr⟩:∃ r,objB x U.classes U.objects.length=r:=⟨_,rfl⟩
         rw[hr] at T;replace hr:=HD hr;cases r with
         | false =>
          as_aux_lemma =>
          have e:Hid (unitR U=16):=HD (T.bad (by decide));clear T
          go_wp2_with fail
          refine (robject_c ok2.out hS2.out.unk).mono ?_;rintro e1 w3 ⟨he1,hb3⟩;rw[hr.out] at he1;subst he1;replace hS:=HD (hS2.out.up hb3);clear hS2 hb3 ok2 hr f0 f1 f2 f3 f4
          go_wp2
          go_ret;exact⟨congrArg (fun b=>Ending.returned (Value.int .i64 b)) e.out.symm,hS.out.bel⟩
         | true =>
          as_aux_lemma =>
          have hT':Hid (StU U (restO U (k+1))):=HD (T.ok rfl);clear T
          go_wp2_with fail
          refine (robject_c ok2.out hS2.out.unk).mono ?_;rintro e1 w3 ⟨he1,hb3⟩;rw[hr.out] at he1;subst he1;replace hS:=HD (hS2.out.up hb3);clear hS2 hb3 ok2 hr f0 f1 f2 f3 f4
          go_wp2
          go_roundw
          case rel=>exact⟨k+1,by omega,by go_num,hT',hS⟩
          case measure=>simp[intOf];omega
        ·as_aux_lemma =>
         have hlt':decide ((k:Int) < (l4:Int))=false:=by simp;omega
         have hT':=hT.out;rw[restO_last (by obtain⟨h1,h2,h3,h4⟩:=gg.out;omega)] at hT';clear hT;have hT:=HD hT';clear hT'
         go_upto_region 38 with fail
         clear hlt hlt' hk;have T:=hT.out;by_cases m0:U.main < 0
         ·as_aux_lemma =>
          have t0:decide (U.main < 0)=true:=by simpa using m0
          have e:Hid (unitR U=15):=HD (by
           have em:mainE U=15:=if_neg (fun h=>by omega);rw[em] at T;exact T.bad (by decide))
          clear T hT m0
          go_wp2
          go_ret;exact⟨congrArg (fun b=>Ending.returned (Value.int .i64 b)) e.out.symm,hS.out.bel⟩
         have t0:decide (U.main < 0)=false:=by simp;omega
         by_cases m1:(l3:Int)≤U.main
         ·as_aux_lemma =>
          have t1:decide (U.main ≥ (l3:Int))=true:=by simpa using m1
          have e:Hid (unitR U=15):=HD (by
           have em:mainE U=15:=if_neg (fun h=>by obtain⟨h1,h2,h3,h4⟩:=gg.out;omega);rw[em] at T;exact T.bad (by decide))
          clear T hT m0 m1
          go_wp2
          go_ret;exact⟨congrArg (fun b=>Ending.returned (Value.int .i64 b)) e.out.symm,hS.out.bel⟩
         have t1:decide (U.main ≥ (l3:Int))=false:=by simp;omega
         obtain⟨mn,hmn⟩:∃ q:Nat,U.main=q:=⟨U.main.toNat,by omega⟩
         obtain⟨x,hx⟩:∃ q,U.methods[mn]?=some q:=⟨U.methods[mn]'(by obtain⟨h1,h2,h3,h4⟩:=gg.out;omega),by simp⟩
         obtain⟨g,off,_,_,_,_,rfl,d0,_,_,_,_⟩:=MtV.at hS.out.views.2.2.1 hx;obtain⟨q1,q2,q3,q4⟩:=hS.out.caps;rw[hmn] at a4 t0 t1;have p0:(0:Int)≤(mn:Int):=by omega
         have p1:(mn:Int) < (l3:Int):=by omega
         have eA:agAt U.methods U.main=x.args:=by unfold agAt;rw[hmn,Int.toNat_natCast,hx]
         by_cases he:¬ x.args=0
         ·as_aux_lemma =>
          have t2:(x.args != 0)=true:=by simpa using he
          have e:Hid (unitR U=15):=HD (by
           have em:mainE U=15:=if_neg (fun h=>he (by rw[← eA];exact h.2.2));rw[em] at T;exact T.bad (by decide))
          clear T hT m0 m1 eA he hx hmn
          go_wp2
          go_ret;exact⟨congrArg (fun b=>Ending.returned (Value.int .i64 b)) e.out.symm,hS.out.bel⟩
         replace he:x.args=0:=Decidable.not_not.1 he;have t2:(x.args != 0)=false:=by simpa using he
         have e:Hid (unitR U=0):=HD (by
          have em:mainE U=0:=if_pos ⟨by omega,by obtain⟨h1,h2,h3,h4⟩:=gg.out;omega,by rw[eA];exact he⟩;rw[em] at T;exact (T.ok rfl).eq)
         clear T hT m0 m1 eA hx hmn
         go_wp2
         go_ret;exact⟨congrArg (fun b=>Ending.returned (Value.int .i64 b)) e.out.symm,hS.out.bel⟩
def b4 (n:Int):List Int:=[n % 4294967296 / 16777216,n % 4294967296 / 65536 % 256,n % 4294967296 / 256 % 256,n % 4294967296 % 256]
def i32 (n:Int):Int:=if n < 2147483648 then n else n - 4294967296
def num4 (a b c d:Int):Int:=i32 (a*16777216+b*65536+c*256+d)
def R32 (n:Int):Prop:=-2147483648≤n∧n < 2147483648
theorem b4_len (n:Int):(b4 n).length=4:=rfl
theorem b4_bd (n:Int):∀ x∈b4 n,0≤x∧x≤255:=by
 intro x hx;simp only[b4,List.mem_cons,List.not_mem_nil,or_false] at hx;rcases hx with rfl | rfl | rfl | rfl <;> omega
theorem num_b4 {n:Int} (h:R32 n):num4 (n % 4294967296 / 16777216) (n % 4294967296 / 65536 % 256) (n % 4294967296 / 256 % 256) (n % 4294967296 % 256)=n:=by
 obtain⟨h1,h2⟩:=h;unfold num4 i32;have e:n % 4294967296 / 16777216*16777216+n % 4294967296 / 65536 % 256*65536+n % 4294967296 / 256 % 256*256+n % 4294967296 % 256=n % 4294967296:=by omega
 rw[e]
 split <;> omega
def tby (s:ByteArray):List Int:=s.data.toList.map (fun b=>(b.toNat:Int))
theorem tby_len (s:ByteArray):(tby s).length=s.size:=by
 unfold tby;rw[List.length_map,Array.length_toList];rfl
theorem tby_bd (s:ByteArray):∀ x∈tby s,0≤x∧x≤255:=by
 intro x hx;obtain⟨b,_,rfl⟩:=List.mem_map.1 hx;have:=b.toNat_lt;omega
theorem tby_text (s:ByteArray):textOf (tby s)=s:=by
 apply ByteArray.ext;unfold textOf byteL tby;simp only[List.map_map];have:((fun x:Int=>UInt8.ofNat x.toNat) ∘ fun b:UInt8=>(b.toNat:Int))=id:=by
  funext b
  simp
 rw[this];simp
def txt (s:ByteArray):List Int:=b4 s.size++tby s
def prs (L:List (Int × Int)):List Int:=(L.map (fun v=>b4 v.1++b4 v.2)).flatten
def rowP (L:List (Int × Int)):List Int:=b4 L.length++prs L
def clB (c:ClassA):List Int:=txt c.nm++b4 c.super++b4 c.fields++rowP c.binds
def mtB (m:MethA):List Int:=b4 m.args++b4 m.temps++rowP m.lits++(b4 m.code.length++m.code)
def obB (o:ObjA):List Int:=b4 o.cls++rowP o.flds
def rowB {T:Type} (f:T→List Int) (L:List T):List Int:=b4 L.length++(L.map f).flatten
def bodyU (U:UnitA):List Int:=rowB txt U.names++rowB clB U.classes++rowB mtB U.methods++rowB obB U.objects++b4 U.main
def bytesU (U:UnitA):List Int:=[84,87,49,0]++bodyU U
abbrev Rd8:=List Int × Bool
def numR:Rd8→Int × Rd8
 | (a :: b :: c :: d :: L,false)=>(num4 a b c d,(L,false))
 | (L,_)=>(0,(L,true))
def cntR (s:Rd8):Int × Rd8:=let x:=numR s;if x.1 < 0∨(x.2.1.length:Int) < x.1 then (0,(x.2.1,true)) else x
def txtR (s:Rd8):List Int × Rd8:=let x:=cntR s;(x.2.1.take x.1.toNat,(x.2.1.drop x.1.toNat,x.2.2))
def manyR {T:Type} (f:Rd8→T × Rd8):Nat→List T→Rd8→List T × Rd8
 | 0,acc,s=>(acc,s)
 | n+1,acc,s=>if s.2=true then (acc,s) else let x:=f s;manyR f n (acc++[x.1]) x.2
def rowR {T:Type} (f:Rd8→T × Rd8) (s:Rd8):List T × Rd8:=let x:=cntR s;manyR f x.1.toNat [] x.2
def prR (s:Rd8):(Int × Int) × Rd8:=let x:=numR s;let y:=numR x.2;((x.1,y.1),y.2)
def nmR (s:Rd8):ByteArray × Rd8:=let x:=txtR s;(textOf x.1,x.2)
def clR (s:Rd8):ClassA × Rd8:=let a:=nmR s;let b:=numR a.2;let c:=numR b.2;let d:=rowR prR c.2;(⟨a.1,b.1,c.1,d.1⟩,d.2)
def mtR (s:Rd8):MethA × Rd8:=let a:=numR s;let b:=numR a.2;let c:=rowR prR b.2;let d:=txtR c.2;(⟨a.1,b.1,c.1,d.1⟩,d.2)
def obR (s:Rd8):ObjA × Rd8:=let a:=numR s;let b:=rowR prR a.2;(⟨a.1,b.1⟩,b.2)
def unR (s:Rd8):UnitA × Rd8:=let a:=rowR nmR s;let b:=rowR clR a.2;let c:=rowR mtR b.2;let d:=rowR obR c.2;let e:=numR d.2;(⟨a.1,b.1,c.1,d.1,e.1⟩,e.2)
theorem numR_b4 {n:Int} (h:R32 n) (L:List Int):numR (b4 n++L,false)=(n,(L,false)):=by
 show (num4 _ _ _ _,(L,false))=_;rw[num_b4 h]
theorem cntR_b4 (n:Nat) (L:List Int) (h:n≤L.length) (h32:n < 2147483648):cntR (b4 n++L,false)=((n:Int),(L,false)):=by
 unfold cntR;rw[numR_b4 ⟨by omega,by omega⟩];simp only;rw[if_neg (by omega)]
theorem txtR_b4 (A L:List Int) (h32:A.length < 2147483648):txtR (b4 A.length++(A++L),false)=(A,(L,false)):=by
 unfold txtR;rw[cntR_b4 A.length (A++L) (by rw[List.length_append];omega) h32];simp
theorem nmR_txt (s:ByteArray) (L:List Int) (h32:s.size < 2147483648):nmR (txt s++L,false)=(s,(L,false)):=by
 unfold nmR txt;rw[List.append_assoc];have h:=txtR_b4 (tby s) L (by rw[tby_len];exact h32);rw[tby_len] at h;rw[h];simp only;rw[tby_text]
theorem prR_b4 {v:Int × Int} (h:R32 v.1∧R32 v.2) (L:List Int):prR (b4 v.1++b4 v.2++L,false)=(v,(L,false)):=by
 unfold prR;rw[List.append_assoc,numR_b4 h.1];simp only;rw[numR_b4 h.2]
theorem manyR_app {T:Type} {f:Rd8→T × Rd8} {g:T→List Int}:∀ (X A:List T) (L:List Int),(∀ x∈X,∀ L,f (g x++L,false)=(x,(L,false)))→manyR f X.length A ((X.map g).flatten++L,false)=(A++X,(L,false))
 | [],A,L,_=>by simp[manyR]
 | x :: X,A,L,h=>by
  rw[List.length_cons,manyR,if_neg (by simp),List.map_cons,List.flatten_cons,List.append_assoc,h x (List.mem_cons_self ..)];simp only;rw[manyR_app X (A++[x]) L (fun y hy=>h y (List.mem_cons_of_mem _ hy)),List.append_assoc,List.singleton_append]
theorem flatB_len {T:Type} {g:T→List Int}:∀ (X:List T),(∀ x∈X,1≤(g x).length)→X.length≤((X.map g).flatten).length
 | [],_=>by simp
 | x :: X,h=>by
  have h1:=h x (List.mem_cons_self ..);have h2:=flatB_len X (fun y hy=>h y (List.mem_cons_of_mem _ hy));rw[List.map_cons,List.flatten_cons,List.length_append,List.length_cons];omega
theorem rowR_rowB {T:Type} {f:Rd8→T × Rd8} {g:T→List Int} (X:List T) (L:List Int) (h:∀ x∈X,∀ L,f (g x++L,false)=(x,(L,false))) (h1:∀ x∈X,1≤(g x).length) (h32:X.length < 2147483648):rowR f (rowB g X++L,false)=(X,(L,false)):=by
 unfold rowR rowB;rw[List.append_assoc,cntR_b4 X.length _ (by rw[List.length_append];have:=flatB_len X h1;omega) h32];simp only;rw[Int.toNat_natCast,manyR_app X [] L h];rfl
theorem rowP_eq (L:List (Int × Int)):rowP L=rowB (fun v=>b4 v.1++b4 v.2) L:=rfl
structure Fit (U:UnitA):Prop where
 nn:U.names.length < 2147483648
 ns:∀ s∈U.names,s.size < 2147483648
 nc:U.classes.length < 2147483648
 cs:∀ c∈U.classes,c.nm.size < 2147483648∧R32 c.super∧R32 c.fields∧c.binds.length < 2147483648∧∀ v∈c.binds,R32 v.1∧R32 v.2
 nm:U.methods.length < 2147483648
 ms:∀ m∈U.methods,R32 m.args∧R32 m.temps∧m.lits.length < 2147483648∧(∀ v∈m.lits,R32 v.1∧R32 v.2)∧m.code.length < 2147483648
 no:U.objects.length < 2147483648
 os:∀ o∈U.objects,R32 o.cls∧o.flds.length < 2147483648∧∀ v∈o.flds,R32 v.1∧R32 v.2
 mn:R32 U.main
theorem rowP_R {X:List (Int × Int)} (L:List Int) (h:∀ v∈X,R32 v.1∧R32 v.2) (h32:X.length < 2147483648):rowR prR (rowP X++L,false)=(X,(L,false)):=by
 rw[rowP_eq];exact rowR_rowB X L (fun v hv L=>prR_b4 (h v hv) L) (fun v _=>by simp[b4]) h32
theorem clR_clB {c:ClassA} (h:c.nm.size < 2147483648∧R32 c.super∧R32 c.fields∧c.binds.length < 2147483648∧∀ v∈c.binds,R32 v.1∧R32 v.2) (L:List Int):clR (clB c++L,false)=(c,(L,false)):=by
 obtain⟨h1,h2,h3,h4,h5⟩:=h;unfold clR clB;rw[List.append_assoc,List.append_assoc,List.append_assoc,nmR_txt _ _ h1];simp only;rw[numR_b4 h2];simp only;rw[numR_b4 h3];simp only;rw[rowP_R L h5 h4]
theorem mtR_mtB {m:MethA} (h:R32 m.args∧R32 m.temps∧m.lits.length < 2147483648∧(∀ v∈m.lits,R32 v.1∧R32 v.2)∧m.code.length < 2147483648) (L:List Int):mtR (mtB m++L,false)=(m,(L,false)):=by
 obtain⟨h1,h2,h3,h4,h5⟩:=h;unfold mtR mtB;rw[List.append_assoc,List.append_assoc,List.append_assoc,numR_b4 h1];simp only;rw[numR_b4 h2];simp only;rw[rowP_R _ h4 h3];simp only;rw[List.append_assoc,txtR_b4 _ _ h5]
theorem obR_obB {o:ObjA} (h:R32 o.cls∧o.flds.length < 2147483648∧∀ v∈o.flds,R32 v.1∧R32 v.2) (L:List Int):obR (obB o++L,false)=(o,(L,false)):=by
 obtain⟨h1,h2,h3⟩:=h;unfold obR obB;rw[List.append_assoc,numR_b4 h1];simp only;rw[rowP_R _ h3 h2]
theorem unR_body {U:UnitA} (h:Fit U):unR (bodyU U,false)=(U,([],false)):=by
 unfold unR bodyU;rw[List.append_assoc,List.append_assoc,List.append_assoc,rowR_rowB U.names _ (fun s hs L=>nmR_txt s L (h.ns s hs)) (fun s _=>by simp[txt,b4]) h.nn];simp only;rw[rowR_rowB U.classes _ (fun c hc L=>clR_clB (h.cs c hc) L) (fun c _=>by simp[clB,txt,b4]) h.nc];simp only;rw[rowR_rowB U.methods _ (fun c hc L=>mtR_mtB (h.ms c hc) L) (fun c _=>by simp[mtB,b4]) h.nm];simp only;rw[rowR_rowB U.objects _ (fun c hc L=>obR_obB (h.os c hc) L) (fun c _=>by simp[obB,b4]) h.no];simp only;have:=numR_b4 h.mn [];rw[List.append_nil] at this;rw[this]
theorem strB (s:ByteArray):Lib.strCells s=bys (tby s):=by
 unfold bys tby Lib.strCells;rw[List.map_map];rfl
theorem wput_b {w:World} {base:Nat} {v:Value} {L:List Int} (h:RB w base 5 v (bys L)) (hb:base≤w.heap.size) (hl:L.length≤1000000000) (n:Int) (hn:In64 n) :
  Calls Tryz.prog 26 #[v,.int .i64 n] w fun e w'=>∃ v',e=.returned v'∧Wr base w w' v v' (L++b4 n):=wput_c h hb hl n
theorem wput_a {w:World} {base:Nat} {v:Value} {L:List Int} (h:RB w base 5 v (bys L)) (hb:base≤w.heap.size) (hl:L.length≤1000000000) (n:Int) :
  Calls Tryz.prog 26 #[v,.int .i64 n] w fun e w'=>∃ v',e=.returned v'∧Wr base w w' v v' (L++b4 n):=wput_c h hb hl n
set_option maxHeartbeats 16000000 in
theorem wtext_c {w:World} {base:Nat} {v:Value} {L:List Int} (h:RB w base 5 v (bys L)) (hb:base≤w.heap.size) (hl:L.length≤900000000) (s:ByteArray) (hs:s.size≤50000000) :
  Calls Tryz.prog 27 #[v,.string s] w fun e w'=>∃ v',e=.returned v'∧Wr base w w' v v' (L++txt s):=by
 obtain⟨i0,hi0,hz0,hz1,hz2⟩:=info_parts infoB8;have hmx:2000000000≤maxLen:=by decide
 replace h:=HD h;go_enter Tryz.func27,Tryz.ntmps27
 go_wp2_with fail
 with_reducible refine (wput_b h.out hb (by omega) _ (by unfold In64;omega)).mono ?_
 rintro e w1 ⟨v1,rfl,h1⟩;replace h1:=HD h1;have hs1:=h1.out.cg.size;have hbl:=bys_ln (L++b4 s.size);rw[List.length_append,b4_len] at hbl
 go_wp2_with (first | (at_builtin;refine wpList_app_rbs rfl (.tmp 8) (.tmp 9) 36 9 rfl base 5 i0 Tryz.underlying36 Tryz.underlying9 hi0 hz0 hz1 hz2 v1 (bys (L++b4 s.size)) (by simp[Act.eval]) h1.out.rb s (by simp[Act.eval]) (by omega) (by omega) (by omega) ?_;intro v2 w2 hown2 hgrow2 hat2))
 go_ret;rw[strB,← bys_cat,List.append_assoc] at hown2;refine⟨_,rfl,h1.out.trans ⟨hown2,(Cg.refl _ w1).grown hgrow2 (fun k e=>Or.inl e),fun k hk=>?_⟩⟩;replace hk:v2.ownBlock=some k:=hk;rcases hat2 with e | e
 ·exact Or.inl (by rw[← e];exact hk)
 ·rw[e] at hk;have:=Option.some.inj hk;exact Or.inr (by omega)
theorem wr_bel {wu w w1:World} {F:Nat→Prop} {Q:Nat} (c:Cg F w w1) (hF:∀ k,F k→Q≤k) (hq:wu.heap.size≤Q) (b:Below wu.heap.size wu w):Below wu.heap.size wu w1 :=
 ⟨c.os.trans b.os,c.tape.trans b.tape,c.output.trans b.output,Nat.le_trans b.size c.size,fun k hk=>(c.block k (Nat.lt_of_lt_of_le hk b.size) (fun hf=>by have:=hF k hf;omega)).trans (b.block k hk)⟩
theorem prs_next {V:List (Int × Int)} {k:Nat} {x:Int × Int} (h:V[k]?=some x):prs (V.take (k+1))=prs (V.take k)++b4 x.1++b4 x.2:=by
 unfold prs;rw[List.take_add_one,h];simp
theorem prs_len (V:List (Int × Int)):(prs V).length=8*V.length:=by
 induction V with
 | nil=>rfl
 | cons x V ih =>
  unfold prs at ih ⊢;rw[List.map_cons,List.flatten_cons,List.length_append,ih,List.length_append,b4_len,b4_len,List.length_cons];omega
theorem Wr.app {base:Nat} {w w1:World} {v v1:Value} {L:List Int} (h:Wr base w w1 v v1 L) (o:Obj):Wr base w (w1.alloc o) v v1 L :=
 ⟨h.rb.kept (fun k hk=>((Below.refl w1.heap.size w1).alloc (Nat.le_refl _) o).block k (h.rb.lt k hk).2),h.cg.alloc o,h.ob⟩
theorem Wr.drew {base:Nat} {w w1:World} {v v1:Value} {L:List Int} (h:Wr base w w1 v v1 L):Wr base w w1.drew v v1 L :=
 ⟨h.rb.kept (fun k hk=>rfl),h.cg.drew,h.ob⟩
theorem cell_heap {w w1:World} {g:Nat} (h:w1.heap[g]?=w.heap[g]?) (o:Nat):w1.cell? ⟨g,o,none⟩=w.cell? ⟨g,o,none⟩:=by
 unfold World.cell?;rw[h]
set_option maxHeartbeats 16000000 in
theorem wvals_c {wu w:World} {base:Nat} {v u:Value} {L:List Int} {V:List (Int × Int)} (hq:wu.heap.size≤base) (hu:PrV wu u V) (hbu:Below wu.heap.size wu w) (h:RB w base 5 v (bys L)) (hb:base≤w.heap.size) (hl:L.length≤800000000) (hV:V.length≤1000000) :
  Calls Tryz.prog 28 #[v,u] w fun e w'=>∃ v',e=.returned v'∧Wr base w w' v v' (L++rowP V):=by
 obtain⟨ad,cap,rfl,hcap,hmx⟩:=hu.form;obtain⟨n,hn⟩:∃ n,n=V.length:=⟨_,rfl⟩
 rw[← hn] at hu hcap ⊢;replace hu:=HD hu;have hn':=HD hn;replace hbu:=HD hbu;replace h:=HD h;have hlt0:=HD (fun k hk=>(h.out.lt k hk).1);clear hmx;have hV':n≤1000000:=by omega
 clear hV hn;go_enter Tryz.func28,Tryz.ntmps28
 go_wp2_with fail
 with_reducible refine (wput_b h.out hb (by omega) _ (by unfold In64;omega)).mono ?_
 rintro e w1 ⟨v1,rfl,h1⟩;replace h1:=HD h1
 go_wp2
 have hst:Hid (Wr base w w1 v v1 (L++b4 n++prs (V.take 0))):=HD (by simpa [prs] using h1.out)
 go_loopw [0,13] (fun i0 i13 wr=>∃ (k:Nat),k≤n∧i13=.int .i64 k∧Hid (Wr base w wr v i0 (L++b4 n++prs (V.take k)))) (fun _ i13 _=>n - (intOf i13).toNat)
 case atStart=>exact⟨0,by omega,rfl,hst⟩
 case round =>
  clear hst h1;obtain⟨k,hk,rfl,hR⟩:=hrel;by_cases hlt:k < n
  ·have d1:decide ((k:Int) < (n:Int))=true:=by simp;omega
   have p0:(0:Int)≤(k:Int):=by omega
   have p1:(k:Int) < (n:Int):=by omega
   obtain⟨⟨a,b⟩,hx⟩:∃ x,V[k]?=some x:=⟨V[k]'(by have:=hn'.out;omega),by simp⟩
   have hbr:=wr_bel hR.out.cg hlt0.out hq hbu.out;obtain⟨a64,b64,g,off,rfl,c0,c1⟩:=(hu.out.up hbr).at hx;simp only at a64 b64 c0 c1;have hpl:=prs_len (V.take k);rw[List.length_take,show min k V.length=k by have:=hn'.out;omega] at hpl;have hlen:(L++b4 ↑n++prs (V.take k)).length≤900000000:=by rw[List.length_append,List.length_append,b4_len];omega
   have hnx:=prs_next hx;have hsz:=hR.out.cg.size;have hR0:=hR.out.app (.cells #[.int .i64 a,.int .i64 b] 68);have hne:u0.ownBlock≠some wr.heap.size:=fun e=>by have:=(hR.out.rb.lt _ e).2;omega
   have ca:(wr.alloc (.cells #[.int .i64 a,.int .i64 b] 68)).cell? ⟨wr.heap.size,0,none⟩=some (.int .i64 a):=(World.cell?_alloc_new _ _ _ 0).trans rfl;have cb:(wr.alloc (.cells #[.int .i64 a,.int .i64 b] 68)).cell? ⟨wr.heap.size,1,none⟩=some (.int .i64 b):=(World.cell?_alloc_new _ _ _ 1).trans rfl;have hsa:wr.heap.size < (wr.alloc (.cells #[.int .i64 a,.int .i64 b] 68)).heap.size:=by simp
   replace hR0:=HD hR0;replace hne:=HD hne;replace ca:=HD ca;replace cb:=HD cb;replace hnx:=HD hnx;clear hx hpl hbr
   go_wp2
   obtain⟨y0,hy0⟩:∃ y,y=wr.alloc (.cells #[.int .i64 a,.int .i64 b] 68):=⟨_,rfl⟩
   rw[← hy0] at hR0 ca cb hsa ⊢;have hyb:base≤y0.heap.size:=by omega
   clear hy0 hsz;refine wp_region_held_drew (S:=(fun y=>y.cell? ⟨wr.heap.size,0,none⟩=some (.int .i64 a)∧y.cell? ⟨wr.heap.size,1,none⟩=some (.int .i64 b))) (by kernel_rfl) ?_ (fun hHeld=>?_)
   ·(try dsimp only);exact⟨ca.out,cb.out⟩
   replace hR0:=HD hR0.out.drew;replace hsa:wr.heap.size < y0.drew.heap.size:=hsa;replace hyb:base≤y0.drew.heap.size:=hyb;replace ca:Hid (y0.drew.cell? ⟨wr.heap.size,0,none⟩=some (.int .i64 a)):=ca;replace cb:Hid (y0.drew.cell? ⟨wr.heap.size,1,none⟩=some (.int .i64 b)):=cb;generalize y0.drew=y1 at *;have P1:=HD (wput_b hR0.out.rb hyb (by omega) a a64)
   try simp only[nA]
   refine tr (i:=0) (oi:=⟨some 17,.move (.tmp 0),36,"ref.go:260",#[],none⟩) (v:=?_) (Or.inl ⟨by rfl,?_⟩) ?_
   rotate_left 1
   ·intro w hSw;(try dsimp only at hSw);obtain⟨s0,s1⟩:=hSw;go_simp <;> with_reducible rfl
   try simp only[nA]
   refine tr (i:=1) (oi:=⟨some 18,.fieldAddr 68 (.tmp 6) 0,0,"ref.go:260",#[],none⟩) (v:=?_) (Or.inl ⟨by rfl,?_⟩) ?_
   rotate_left 1
   ·intro w hSw;(try dsimp only at hSw);obtain⟨s0,s1⟩:=hSw;go_simp <;> with_reducible rfl
   try simp only[nA]
   refine tr (i:=2) (oi:=⟨some 19,.load 3 (.tmp 18),3,"ref.go:260",#[⟨1,.data⟩],none⟩) (v:=?_) (Or.inl ⟨by rfl,?_⟩) ?_
   rotate_left 1
   ·intro w hSw;(try dsimp only at hSw);obtain⟨s0,s1⟩:=hSw;go_simp <;> with_reducible rfl
   try simp only[nA]
   refine tr (i:=4) (oi:=⟨some 21,.fieldAddr 68 (.tmp 6) 1,0,"ref.go:260",#[],none⟩) (v:=?_) (Or.inl ⟨by rfl,?_⟩) ?_
   rotate_left 1
   ·intro w hSw;(try dsimp only at hSw);obtain⟨s0,s1⟩:=hSw;go_simp <;> with_reducible rfl
   try simp only[nA]
   refine tr (i:=5) (oi:=⟨some 22,.load 3 (.tmp 21),3,"ref.go:260",#[⟨4,.data⟩],none⟩) (v:=?_) (Or.inl ⟨by rfl,?_⟩) ?_
   rotate_left 1
   ·intro w hSw;(try dsimp only at hSw);obtain⟨s0,s1⟩:=hSw;go_simp <;> with_reducible rfl
   try simp only[nA]
   refine wpAnyH_ready (rs:=[3]) (by kernel_rfl) (by simp) ?_;refine AllReadyH.cons (o:=⟨some 20,.call { callee:=.value (.func 26),args:=#[.tmp 17,.tmp 19],argTypes:=#[36,3] },36,"ref.go:260",#[⟨0,.data⟩,⟨2,.data⟩],none⟩) rfl (fun K9 hK=>?_) ?_
   ·go_simp
    with_reducible refine (P1.out).mono ?_
    rintro e y2 ⟨v2,rfl,hR2⟩;have hby2:=hR2.cg.block wr.heap.size hsa hne.out;have cay2:=HD ((cell_heap hby2 0).trans ca.out);have cby2:=HD ((cell_heap hby2 1).trans cb.out);replace hR2:=HD hR2
    go_wp2_with fail
    refine hK.out _ _ ?_ ?_
    ·(try dsimp only);exact⟨cay2.out,cby2.out⟩
    clear hK K9 hHeld;intro hHeld
    try simp only[nA]
    have hR3:=HD (hR0.out.trans hR2.out);have hsa2:wr.heap.size < y2.heap.size:=by have:=hR2.out.cg.size;omega
    have hne2:Hid (v2.ownBlock≠some wr.heap.size):=HD (fun e=>by rcases hR2.out.ob _ e with e | e;exact hne.out e;omega);have P2:=HD (wput_b hR3.out.rb (by have:=hR2.out.cg.size;omega) (by rw[List.length_append,b4_len];omega) b b64);clear P1 hne hsa;have hne:=hne2;have hsa:=hsa2;refine wpAnyH_ready (rs:=[6]) (by kernel_rfl) (by simp) ?_;refine AllReadyH.cons (o:=⟨some 23,.call { callee:=.value (.func 26),args:=#[.tmp 20,.tmp 22],argTypes:=#[36,3] },36,"ref.go:260",#[⟨3,.data⟩,⟨5,.data⟩,⟨3,.chain⟩],none⟩) rfl (fun K9 hK=>?_) ?_
    ·go_simp
     with_reducible refine (P2.out).mono ?_
     rintro e y3 ⟨v3,rfl,hR4⟩;have hby3:=hR4.cg.block wr.heap.size hsa hne.out;have cay3:=HD ((cell_heap hby3 0).trans cay2.out);have cby3:=HD ((cell_heap hby3 1).trans cby2.out);replace hR4:=HD hR4
     go_wp2_with fail
     refine hK.out _ _ ?_ ?_
     ·(try dsimp only);exact⟨cay3.out,cby3.out⟩
     clear hK K9 hHeld;intro hHeld
     try simp only[nA]
     have hR5:=HD (hR3.out.trans hR4.out);clear P2 hR2 hR3 hR4 hR0;refine tr (i:=7) (oi:=⟨some 0,.assign (.tmp 23),36,"ref.go:260",#[⟨6,.data⟩,⟨6,.chain⟩,⟨0,.phase⟩,⟨1,.phase⟩,⟨2,.phase⟩,⟨3,.phase⟩,⟨4,.phase⟩,⟨5,.phase⟩,⟨6,.phase⟩],none⟩) (v:=?_) (Or.inl ⟨by rfl,?_⟩) ?_
     rotate_left 1
     ·intro w hSw;(try dsimp only at hSw);obtain⟨s0,s1⟩:=hSw;go_simp <;> with_reducible rfl
     try simp only[Act.put,List.setIfInBounds_toArray,List.set_cons_zero]
     refine wpAnyH_done (by kernel_rfl) ?_ _
     go_wp2
     go_roundw
     case rel=>exact⟨k+1,by omega,by go_num,HD (by rw[hnx.out,← List.append_assoc,← List.append_assoc];exact hR5.out)⟩
     case measure=>simp[intOf];omega
    exact AllReadyH.nil
   exact AllReadyH.nil
  ·have d1:decide ((k:Int) < (n:Int))=false:=by simp;omega
   have hf:=hR.out;rw[show k=V.length by have:=hn'.out;omega,List.take_length,List.append_assoc] at hf;rw[hn'.out] at hf;replace hf:Wr base w wr v u0 (L++rowP V):=hf;replace hf:=HD hf
   go_wp2
   go_ret;exact⟨_,rfl,hf.out⟩
def fl {T:Type} (f:T→List Int) (L:List T):List Int:=(L.map f).flatten
theorem fl_next {T:Type} {f:T→List Int} {L:List T} {k:Nat} {x:T} (h:L[k]?=some x):fl f (L.take (k+1))=fl f (L.take k)++f x:=by
 unfold fl;rw[List.take_add_one,h];simp
theorem fl_take {T:Type} {f:T→List Int} (L:List T) (k:Nat):(fl f (L.take k)).length≤(fl f L).length:=by
 have h:fl f L=fl f (L.take k)++fl f (L.drop k):=by
  unfold fl;rw[← List.flatten_append,← List.map_append,List.take_append_drop]
 rw[h,List.length_append];omega
theorem fl_at {T:Type} {f:T→List Int} {L:List T} {k:Nat} {x:T} (h:L[k]?=some x):(fl f (L.take k)).length+(f x).length≤(fl f L).length:=by
 have h1:=fl_take (f:=f) L (k+1);rw[fl_next h,List.length_append] at h1;exact h1
theorem rowB_fl {T:Type} (f:T→List Int) (L:List T):rowB f L=b4 L.length++fl f L:=rfl
theorem text_tby {L:List Int} (h:∀ x∈L,0≤x∧x≤255):tby (textOf L)=L:=by
 unfold tby textOf byteL;rw[List.toList_toArray,List.map_map]
 conv=>rhs;rw[← List.map_id L]
 exact List.map_congr_left (fun x hx=>byte_of (h x hx))
theorem text_txt {L:List Int} (h:∀ x∈L,0≤x∧x≤255):txt (textOf L)=b4 L.length++L:=by
 have e:=text_tby h;have e2:=tby_len (textOf L);rw[e] at e2;unfold txt;rw[e,← e2]
theorem text_sz {L:List Int} (h:∀ x∈L,0≤x∧x≤255):(textOf L).size=L.length:=by
 rw[← tby_len,text_tby h]
structure BY (w wr:World) (n0 n1 n2 n3:Value) (m:Int) (v:Value) (L:List Int):Prop where
 rb:RB wr (w.heap.size+1) 5 v (bys L)
 bel:Below w.heap.size w wr
 sz:w.heap.size+1≤wr.heap.size
 c0:wr.cell? ⟨w.heap.size,0,none⟩=some n0
 c1:wr.cell? ⟨w.heap.size,1,none⟩=some n1
 c2:wr.cell? ⟨w.heap.size,2,none⟩=some n2
 c3:wr.cell? ⟨w.heap.size,3,none⟩=some n3
 c4:wr.cell? ⟨w.heap.size,4,none⟩=some (.int .i64 m)
section
variable {w wr w1:World} {n0 n1 n2 n3 v v1:Value} {m:Int} {L M:List Int}
theorem BY.step (h:BY w wr n0 n1 n2 n3 m v L) (g:Wr (w.heap.size+1) wr w1 v v1 M):BY w w1 n0 n1 n2 n3 m v1 M:=by
 have hb:=g.cg.block w.heap.size h.sz (fun e=>by have:=(h.rb.lt _ e).1;omega);exact⟨g.rb,wr_bel g.cg (fun k hk=>(h.rb.lt k hk).1) (by omega) h.bel,Nat.le_trans h.sz g.cg.size,(cell_heap hb 0).trans h.c0,(cell_heap hb 1).trans h.c1,(cell_heap hb 2).trans h.c2,(cell_heap hb 3).trans h.c3,(cell_heap hb 4).trans h.c4⟩
theorem BY.up (h:BY w wr n0 n1 n2 n3 m v L) (b:Below wr.heap.size wr w1):BY w w1 n0 n1 n2 n3 m v L:=by
 have hb:=b.block w.heap.size h.sz;exact⟨h.rb.kept (fun k hk=>b.block k (h.rb.lt k hk).2),h.bel.trans (b.mono h.bel.size),Nat.le_trans h.sz b.size,(cell_heap hb 0).trans h.c0,(cell_heap hb 1).trans h.c1,(cell_heap hb 2).trans h.c2,(cell_heap hb 3).trans h.c3,(cell_heap hb 4).trans h.c4⟩
theorem BY.five (h:BY w wr n0 n1 n2 n3 m v L):wr.cell? ⟨w.heap.size,0,none⟩=some n0∧wr.cell? ⟨w.heap.size,1,none⟩=some n1∧wr.cell? ⟨w.heap.size,2,none⟩=some n2∧wr.cell? ⟨w.heap.size,3,none⟩=some n3∧wr.cell? ⟨w.heap.size,4,none⟩=some (.int .i64 m):=⟨h.c0,h.c1,h.c2,h.c3,h.c4⟩
end
theorem bx_cell (w:World) (T:TypeId) (a b c d e:Value):∀ o v,#[a,b,c,d,e][o]?=some v→(w.alloc (.cells #[a,b,c,d,e] T)).cell? ⟨w.heap.size,o,none⟩=some v:=fun o v h=>(World.cell?_alloc_new _ _ _ o).trans h
set_option maxHeartbeats 16000000 in
theorem by_born {w:World} {n0 n1 n2 n3:Value} {m:Int} (T:TypeId):BY w ((w.alloc (.cells #[n0,n1,n2,n3,.int .i64 m] T)).alloc (.cells #[.int .u8 84,.int .u8 87,.int .u8 49,.int .u8 0] 5 (4,5))) n0 n1 n2 n3 m (.slice (some ⟨w.heap.size+1,0,none⟩) 4 4) [84,87,49,0]:=by
 have b1:=(Below.refl w.heap.size w).alloc (Nat.le_refl _) (.cells #[n0,n1,n2,n3,.int .i64 m] T);have hs:(w.alloc (.cells #[n0,n1,n2,n3,.int .i64 m] T)).heap.size=w.heap.size+1:=by simp
 have hb:((w.alloc (.cells #[n0,n1,n2,n3,.int .i64 m] T)).alloc (.cells #[.int .u8 84,.int .u8 87,.int .u8 49,.int .u8 0] 5 (4,5))).heap[w.heap.size]?=(w.alloc (.cells #[n0,n1,n2,n3,.int .i64 m] T)).heap[w.heap.size]?:=((Below.refl (w.alloc (.cells #[n0,n1,n2,n3,.int .i64 m] T)).heap.size _).alloc (Nat.le_refl _) _).block _ (by omega);refine⟨⟨w.heap.size+1,4,#[.int .u8 84,.int .u8 87,.int .u8 49,.int .u8 0],(4,5),rfl,Nat.le_refl _,?_,Or.inl (by decide),by decide,by decide,rfl,rfl⟩,b1.alloc b1.size _,by simp,?_,?_,?_,?_,?_⟩
 ·rw[← hs];exact heap_alloc_new _ _
 all_goals
  rw[cell_heap hb];exact bx_cell w T _ _ _ _ _ _ _ rfl
structure BE (w y:World) (n0 n1 n2 n3:Value) (m:Int) (E:Nat) (C:List Value) (v:Value) (L:List Int):Prop where
 st:BY w y n0 n1 n2 n3 m v L
 lo:w.heap.size+1≤E
 lt:E < y.heap.size
 ne:v.ownBlock≠some E
 ks:∀ o x,C[o]?=some x→y.cell? ⟨E,o,none⟩=some x
section
variable {w wr w1:World} {n0 n1 n2 n3 v v1:Value} {m:Int} {L M:List Int} {E:Nat} {C:List Value}
theorem BE.born (h:BY w wr n0 n1 n2 n3 m v L) (T:TypeId) (C:List Value) (D:Array Value) (hD:D.toList=C):BE w (wr.alloc (.cells D T)) n0 n1 n2 n3 m wr.heap.size C v L :=
 ⟨h.up ((Below.refl wr.heap.size wr).alloc (Nat.le_refl _) _),h.sz,by simp,fun e=>by have:=(h.rb.lt _ e).2;omega,fun o x hx=>by
  subst hD;exact (World.cell?_alloc_new _ _ _ o).trans (by simpa using hx)⟩
theorem BE.step (h:BE w wr n0 n1 n2 n3 m E C v L) (g:Wr (w.heap.size+1) wr w1 v v1 M):BE w w1 n0 n1 n2 n3 m E C v1 M :=
 ⟨h.st.step g,h.lo,Nat.lt_of_lt_of_le h.lt g.cg.size,fun e=>by
  rcases g.ob _ e with e | e
  ·exact h.ne e
  ·have:=h.lt;omega,fun o x hx=>(cell_heap (g.cg.block E h.lt h.ne) o).trans (h.ks o x hx)⟩
theorem BE.drew (h:BE w wr n0 n1 n2 n3 m E C v L):BE w wr.drew n0 n1 n2 n3 m E C v L :=
 ⟨h.st.up ((Below.refl _ _).drew),h.lo,h.lt,h.ne,h.ks⟩
theorem BE.s2 {a b:Value} (h:BE w wr n0 n1 n2 n3 m E [a,b] v L):wr.cell? ⟨E,0,none⟩=some a∧wr.cell? ⟨E,1,none⟩=some b:=⟨h.ks 0 _ rfl,h.ks 1 _ rfl⟩
theorem BE.s4 {a b c d:Value} (h:BE w wr n0 n1 n2 n3 m E [a,b,c,d] v L):wr.cell? ⟨E,0,none⟩=some a∧wr.cell? ⟨E,1,none⟩=some b∧wr.cell? ⟨E,2,none⟩=some c∧wr.cell? ⟨E,3,none⟩=some d:=⟨h.ks 0 _ rfl,h.ks 1 _ rfl,h.ks 2 _ rfl,h.ks 3 _ rfl⟩
end
end Wd
end Go.Proofs.YtgfnelhbdhbklaaGreat
