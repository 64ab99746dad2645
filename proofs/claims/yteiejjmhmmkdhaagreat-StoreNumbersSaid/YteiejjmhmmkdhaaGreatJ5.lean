/- Texts joined: KM. -/
import Derived.Test.YteiejjmhmmkdhaaGreatJ2
import Derived.Deep.DeepCutAuto
/- A tape's method. -/
namespace Go.Proofs.YteiejjmhmmkdhaaGreat
open Go.RowKit
set_option linter.unusedVariables false
set_option maxRecDepth 20000
namespace Wd
def Mark4 (j:Nat):Prop:=j < 4
set_option maxHeartbeats 64000000 in
theorem method_k (hPC:PieceC) {w0 w:World} {p n:Nat} {ad:Option Addr} (h:Ks w0 w p n ad) (args c:Int) (bl:Bool) (ha:0≤args∧args≤2) (hc0:3≤c) (hc1:c≤100) :
  Calls Tryz.prog 31 #[.pointer (some ⟨p,0,none⟩),.int .i64 args,.int .i64 c,.bool bl] w fun e w'=>∃ lv cv,e=.returned (.agg #[.int .i64 args,.int .i64 2,lv,cv])∧∃ X I,litsOk c X∧codeOk bl I∧Ks w0 w' p n ad∧Cg (fun k=>k=p) w w'∧w'.ownsRow w.heap.size 80 2 lv 14 (pr2 X)∧w'.ownsRow w.heap.size 5 1 cv (flat I).length (bys (flat I)):=by
 have hsz0:=h.cg.size
 have hb1:=(Below.refl w.heap.size w).alloc (Nat.le_refl _) (.cells #[.int .i64 0,.int .i64 0,.slice none 0 0,.slice none 0 0] 75)
 have h1:=Lib.hid (h.keep hb1)
 have PL:=Lib.hid (lits_c h1.out c hc0 hc1)
 go_enter Tryz.func31,Tryz.ntmps31
 go_wp2_with (first | (go_at_call 58;((with_reducible refine PL.out.mono ?_);rintro e w2 ⟨lv,X,rfl,hX,hR⟩;obtain⟨la,lc,rfl⟩:=row_shape hR.cd;replace hR:=Lib.hid hR;go_wp2_with fail)))
 have hM:=Lib.hid (Md.start (args:=args) hR.out rfl)
 have hh:Hid ((w.alloc (.cells #[.int .i64 0,.int .i64 0,.slice none 0 0,.slice none 0 0] 75)).heap[w.heap.size]?=some (.cells #[.int .i64 0,.int .i64 0,.slice none 0 0,.slice none 0 0] 75 (0,0))):=Lib.hid (heap_alloc_new _ _)
 have hW:=Lib.hid (Cg.below (fun k=>k=p) hb1)
 have hWs:=Lib.hid hb1.size
 clear PL h1 hb1 hR h
 generalize w.alloc (.cells #[.int .i64 0,.int .i64 0,.slice none 0 0,.slice none 0 0] 75)=w1 at *
 generalize w2.alloc (.cells #[.int .i64 args,.int .i64 2,.slice la 14 lc,.slice none 0 0] 75)=w3 at *
 generalize w2.heap.size=B at *
 generalize hBe:w.heap.size=B0 at *
 have hBe':=Lib.hid hBe
 clear hBe
 refine (next_c 5 (by omega) (by omega) hM.out.ks.tp).mono ?_
 rintro e w4 ⟨x,rfl,⟨x0,x1⟩,t1,c1⟩
 have hM4:=Lib.hid (hM.out.next t1 c1)
 clear hM t1 c1
 have hwx:IntKind.i64.wrap (1+x)=1+x:=by rw [IntKind.wrap_i64];omega
 obtain⟨N,hN⟩:∃ N:Nat,1+x=(N:Int):=⟨(1+x).toNat,by omega⟩
 have hN1:1≤N:=by omega
 have hN5:N≤5:=by omega
 rw [hN] at hwx
 have hwN:IntKind.i64.wrap (1+x)=(N:Int):=by rw [hN];exact hwx
 clear hN x0 x1 hwx
 go_wp2
 go_loopw [10] (fun i10 wr=>∃ (k:Nat) (P:List (List (Int × Int))) (a:Option Addr) (m cp:Nat),k≤5∧i10=.int .i64 k∧Hid (P.length+k=N∧(∀ x∈P,pieceOk x))∧Hid (Md w0 w1 wr p n ad B args (.slice la 14 lc) X (.slice a m cp) (.slice a m cp) (flat P.flatten))) (fun i10 _=>(intOf i10).toNat)
 case atStart=>exact⟨N,[],none,0,0,hN5,rfl,Lib.hid ⟨by simp,by simp⟩,hM4⟩
 case round =>
  clear hM4
  obtain⟨k,P,a,m,cp,hk,rfl,hP,hM⟩:=hrel
  have hPl:P.flatten.length≤25:=by have:=flatten_len P hP.out.2;have:=hP.out.1;omega
  have k3:=hM.out.c3
  by_cases hk0:0 < k
  ·have hk0':(0:Int) < (k:Int):=by omega
   have hwk:IntKind.i64.wrap ((k:Int) - 1)=(k:Int) - 1:=by rw [IntKind.wrap_i64];omega
   go_wp2_with fail
   refine (hPC.c hM.out.pc (by rw [flat_len];omega)).mono ?_
   rintro e w5 ⟨v5,l,rfl,hl,hpc⟩
   obtain⟨a5,c5,rfl⟩:=row_shape hpc.cd
   have hM5:=Lib.hid (hM.out.code hpc)
   have hz5:=hM5.out.z 3
   have k35:=hM5.out.c3
   have hM6:=Lib.hid hM5.out.put
   clear hM k3
   generalize (flat P.flatten++flat l).length=m5 at *
   go_wp2
   go_roundw
   case rel=>exact⟨k - 1,P++[l],a5,_,c5,by omega,by rw [show ((k - 1:Nat):Int)=(k:Int) - 1 by omega],Lib.hid ⟨by have:=hP.out.1;simp;omega,fun y hy=>by
    rcases List.mem_append.1 hy with hy | hy
    ·exact hP.out.2 y hy
    ·rw [List.mem_singleton.1 hy];exact hl⟩,by
     have e:flat (P++[l]).flatten=flat P.flatten++flat l:=by rw [List.flatten_append,flat_app];simp
     rw [e];exact hM6⟩
   case measure=>simp [intOf];omega
  ·have hPN:Hid (P.length=N∧(∀ x∈P,pieceOk x)):=Lib.hid ⟨by have:=hP.out.1;omega,hP.out.2⟩
   clear hP
   go_wp2_with fail
   refine (next_c 6 (by omega) (by omega) hM.out.ks.tp).mono ?_
   rintro e w5 ⟨y,rfl,⟨y0,y1⟩,t1,c1⟩
   have hM5:=Lib.hid (hM.out.next t1 c1)
   clear hM t1 c1 k3
   have k35:=hM5.out.c3
   have hz5:=hM5.out.z 3
   go_upto_if 31 with fail
   go_cut [] (fun wx=>∃ (S:List (Int × Int)) (a:Option Addr) (m cp:Nat),Hid (S=[]∨S=[(wr8 3,wr8 0),(wr8 13,wr8 4)])∧Hid (Md w0 w1 wx p n ad B args (.slice la 14 lc) X (.slice a m cp) (.slice a m cp) (flat (P.flatten++S))))
   case first =>
    by_cases hy:y=0
    ·subst hy
     go_wp2_with fail
     refine (op_c hM5.out.pc (by rw [flat_len];omega) _ _).mono ?_
     rintro e w6 ⟨v6,rfl,hpc⟩
     have hM6:=Lib.hid (hM5.out.code hpc)
     clear hM5 hpc
     go_wp2_with fail
     refine (op_c hM6.out.pc (by simp only [List.length_append,List.length_cons,List.length_nil,flat_len];omega) _ _).mono ?_
     rintro e w7 ⟨v7,rfl,hpc⟩
     obtain⟨a7,c7,rfl⟩:=row_shape hpc.cd
     have hM7:=Lib.hid (hM6.out.code hpc)
     have hz7:=hM7.out.z 3
     have k37:=hM7.out.c3
     have hM8:=Lib.hid hM7.out.put
     clear hM6 hM7 hpc
     generalize hm7:(flat P.flatten++[wr8 3,wr8 0]++[wr8 13,wr8 4]).length=m7 at *
     clear hm7
     go_wp2
     go_meet
     refine⟨_,a7,m7,c7,Lib.hid (Or.inr rfl),?_⟩
     have e:flat (P.flatten++[(wr8 3,wr8 0),(wr8 13,wr8 4)])=flat P.flatten++[wr8 3,wr8 0]++[wr8 13,wr8 4]:=by rw [flat_app];simp [flat]
     rw [e];exact hM8
    ·go_wp2
     go_meet
     exact⟨_,_,_,_,Lib.hid (Or.inl rfl),by rw [List.append_nil];exact hM5⟩
   case rest =>
    clear hM5 k35 hz5
    obtain⟨S,a,m,cp,hS,hM⟩:=hcut
    have hSl:S.length≤2:=by rcases hS.out with rfl | rfl <;> simp
    have hfk:(flat (P.flatten++S)).length≤1000:=by rw [flat_len,List.length_append];omega
    have hfl:(flat (P.flatten++S)).length≤100000:=by rw [flat_len,List.length_append];omega
    generalize hI:P.flatten++S=I at *
    have hS0:=hS
    clear hS
    have hS:=hM
    have k3:=hS.out.c3
    have ka:=hS.out.c3a
    clear hM
    go_upto_region 8 with fail
    go_cut [] (fun wx=>∃ (q r:Int) (a:Option Addr) (m cp:Nat),Hid ((q=7∨q=3∨q=4∨q=0)∧(r=0∨r=1))∧Hid (Md w0 w1 wx p n ad B args (.slice la 14 lc) X (.slice a m cp) (.slice a m cp) (flat I++[wr8 q,wr8 r])))
    case first =>
     go_region_with (first | (go_at_call 30;first | ((with_reducible refine (m4_a hS (Below.refl _ _)).mono ?_);rintro e y ⟨j,rfl,hj,hT⟩;have mk:Mark4 j:=hj;have k3:=hT.out.c3;have ka:=hT.out.c3a;have hq:=born4 y hj;have har:=arr4 hj;have hal:=lst4 hj;have hj2:(j:Int) < 4:=(by omega);clear hS;have hS:=hT;clear hT) | ((with_reducible refine (m4_a hS (Below.refl _ _).drew).mono ?_);rintro e y ⟨j,rfl,hj,hT⟩;have mk:Mark4 j:=hj;have k3:=hT.out.c3;have ka:=hT.out.c3a;have hq:=born4 y hj;have har:=arr4 hj;have hal:=lst4 hj;have hj2:(j:Int) < 4:=(by omega);clear hS;have hS:=hT;clear hT) | ((with_reducible refine (m4_b hS (Or.inl rfl)).mono ?_);rintro e y ⟨j,rfl,hj,hT⟩;have mk:Mark4 j:=hj;have k3:=hT.out.md.c3;have hq:=hT.out.q j hj;have har:=arr4 hj;have hal:=lst4 hj;have hj2:(j:Int) < 4:=(by omega);clear hS;have hS:=hT;clear hT) | ((with_reducible refine (m4_b hS (Or.inr rfl)).mono ?_);rintro e y ⟨j,rfl,hj,hT⟩;have mk:Mark4 j:=hj;have k3:=hT.out.md.c3;have hq:=hT.out.q j hj;have har:=arr4 hj;have hal:=lst4 hj;have hj2:(j:Int) < 4:=(by omega);clear hS;have hS:=hT;clear hT) | (have hm:_ < 4:=mk;(with_reducible refine (m2_a hS (Below.refl _ _)).mono ?_);rintro e y ⟨r,rfl,hr,hT⟩;have k3:=hT.out.c3;have ka:=hT.out.c3a;have hq:=born4 y hm;clear hS;have hS:=hT;clear hT) | (have hm:_ < 4:=mk;(with_reducible refine (m2_a hS (Below.refl _ _).drew).mono ?_);rintro e y ⟨r,rfl,hr,hT⟩;have k3:=hT.out.c3;have ka:=hT.out.c3a;have hq:=born4 y hm;clear hS;have hS:=hT;clear hT) | (have hm:_ < 4:=mk;(with_reducible refine (m2_b hS (Or.inl rfl)).mono ?_);rintro e y ⟨r,rfl,hr,hT⟩;have k3:=hT.out.md.c3;have hq:=hT.out.q _ hm;clear hS;have hS:=hT;clear hT) | (have hm:_ < 4:=mk;(with_reducible refine (m2_b hS (Or.inr rfl)).mono ?_);rintro e y ⟨r,rfl,hr,hT⟩;have k3:=hT.out.md.c3;have hq:=hT.out.q _ hm;clear hS;have hS:=hT;clear hT) | (have hm:_ < 4:=mk;(with_reducible refine (m2_d hS (Below.refl _ _)).mono ?_);rintro e y ⟨r,rfl,hr,hT⟩;have k3:=hT.out.md.c3;have hq:=hT.out.q _ hm;clear hS;have hS:=hT;clear hT) | (have hm:_ < 4:=mk;(with_reducible refine (m2_d hS (Below.refl _ _).drew).mono ?_);rintro e y ⟨r,rfl,hr,hT⟩;have k3:=hT.out.md.c3;have hq:=hT.out.q _ hm;clear hS;have hS:=hT;clear hT)) | (go_at_call 60;first | ((with_reducible refine (mo_d hS (Below.refl _ _) hfl _ _).mono ?_);rintro e y ⟨a',m',c',rfl,hT⟩;have k3:=hT.out.c3;have hz:=hT.out.z 3;have hU:=Lib.hid hT.out.put;clear hS hT) | ((with_reducible refine (mo_d hS (Below.refl _ _).drew hfl _ _).mono ?_);rintro e y ⟨a',m',c',rfl,hT⟩;have k3:=hT.out.c3;have hz:=hT.out.z 3;have hU:=Lib.hid hT.out.put;clear hS hT) | ((with_reducible refine (mo_a hS ((Below.refl _ _).alloc (Nat.le_refl _) _) hfl _ _).mono ?_);rintro e y ⟨a',m',c',rfl,hT⟩;have k3:=hT.out.c3;have hz:=hT.out.z 3;have hU:=Lib.hid hT.out.put;clear hS hT) | ((with_reducible refine (mo_a hS ((Below.refl _ _).alloc (Nat.le_refl _) _).drew hfl _ _).mono ?_);rintro e y ⟨a',m',c',rfl,hT⟩;have k3:=hT.out.c3;have hz:=hT.out.z 3;have hU:=Lib.hid hT.out.put;clear hS hT)))
     all_goals (go_wp2_with fail;go_meet;exact⟨_,_,a',m',c',Lib.hid ⟨sel4_or _ mk,by omega⟩,hU⟩)
    case rest =>
     clear hS k3 ka
     obtain⟨q,r,a,m,cp,hqr,hM⟩:=hcut
     have k3:=hM.out.c3
     have hlI:(flat I++[wr8 q,wr8 r]).length≤100000:=by simp only [List.length_append,List.length_cons,List.length_nil];have:=hfk;omega
     have hB0:B0 < w1.heap.size:=(Array.getElem?_eq_some_iff.1 hh.out).1
     have hIok:Hid (I=P.flatten++S∧1≤P.length∧P.length≤5∧(∀ x∈P,pieceOk x)∧(S=[]∨S=[(wr8 3,wr8 0),(wr8 13,wr8 4)])):=Lib.hid ⟨hI.symm,by have:=hPN.out.1;omega,by have:=hPN.out.1;omega,hPN.out.2,hS0.out⟩
     cases bl with
     | false =>
      go_wp2_with fail
      refine (op_c hM.out.pc hlI _ _).mono ?_
      rintro e w7 ⟨v7,rfl,hpc⟩
      obtain⟨a7,c7,rfl⟩:=row_shape hpc.cd
      have hM7:=Lib.hid (hM.out.code hpc)
      have hz7:=hM7.out.z 3
      have k37:=hM7.out.c3
      have hM8:=Lib.hid hM7.out.put
      have ecode:flat (I++[(wr8 q,wr8 r),(wr8 14,wr8 0)])=flat I++[wr8 q,wr8 r]++[wr8 14,wr8 0]:=by rw [flat_app];simp [flat]
      rw [← ecode] at hM8
      have ecl:=congrArg List.length ecode
      rw [← ecl]
      have hcode:Hid (codeOk false (I++[(wr8 q,wr8 r),(wr8 14,wr8 0)])):=by
       obtain⟨e,h1,h5,hP,hS⟩:=hIok.out
       exact Lib.hid ⟨P,S,q,r,14,by rw [e],h1,h5,hP,hS,hqr.out.1,hqr.out.2,Or.inl rfl⟩
      clear hM hM7 hpc ecode ecl hlI hI
      generalize I++[(wr8 q,wr8 r),(wr8 14,wr8 0)]=J at *
      generalize hmJ:(flat J).length=mJ at *
      have hmJ':=Lib.hid hmJ
      clear hmJ
      go_upto_region 13 with fail
      generalize w7.setCell ⟨B,3,none⟩ (.slice a7 mJ c7)=w8 at *
      have hh8:w8.heap[B0]?=some (.cells #[.int .i64 0,.int .i64 0,.slice none 0 0,.slice none 0 0] 75 (0,0)):=(hM8.out.cg.block B0 hB0 (by have:=hM8.out.ks.p0;omega)).trans hh.out
      have k80:=hM8.out.c0
      have k81:=hM8.out.c1
      have k82:=hM8.out.c2
      have k83:=hM8.out.c3
      have b80:w8.cell? ⟨B0,0,none⟩=some (.int .i64 0):=cell_in hh8 rfl
      have b81:w8.cell? ⟨B0,1,none⟩=some (.int .i64 0):=cell_in hh8 rfl
      have b82:w8.cell? ⟨B0,2,none⟩=some (.slice none 0 0):=cell_in hh8 rfl
      have b83:w8.cell? ⟨B0,3,none⟩=some (.slice none 0 0):=cell_in hh8 rfl
      have y80:w8.frozen? ⟨B0,0,none⟩=false:=loose_in hh8
      have y81:w8.frozen? ⟨B0,1,none⟩=false:=loose_in hh8
      have y82:w8.frozen? ⟨B0,2,none⟩=false:=loose_in hh8
      have y83:w8.frozen? ⟨B0,3,none⟩=false:=loose_in hh8
      clear hh8 k37 hz7
      obtain⟨r0,r1,r2,r3⟩:=set4_at (v0:=.int .i64 args) (v1:=.int .i64 2) (v2:=.slice la 14 lc) (v3:=.slice a7 mJ c7) b80 b81 b82 b83
      go_wp2
      refine bodyPost_ret (by simp [results,Tryz.results31,go_sem,r0,r1,r2,r3];try rfl) rfl ?_
      obtain⟨f1,f2,f3,f4⟩:=hM8.out.fin hW.out (by rw [hBe'.out];exact hsz0) (by rw [hBe'.out];exact hB0) (.int .i64 args) (.int .i64 2) (.slice la 14 lc) (.slice a7 mJ c7)
      rw [hBe'.out] at f1 f2 f3 f4
      refine⟨_,_,rfl,X,J,hX,hcode.out,f1,f2,?_,?_⟩
      ·rw [hBe'.out];exact f3
      ·rw [hBe'.out,hmJ'.out];rw [hmJ'.out] at f4;exact f4
     | true =>
      go_wp2_with fail
      refine (next_c 3 (by omega) (by omega) hM.out.ks.tp).mono ?_
      rintro e w6 ⟨z,rfl,⟨z0,z1⟩,t1,c1⟩
      have hM':=Lib.hid (hM.out.next t1 c1)
      clear hM t1 c1
      have hM:=hM'
      clear hM'
      have k3:=hM.out.c3
      by_cases hz0:z=0
      ·subst hz0
       go_wp2_with fail
       refine (op_c hM.out.pc hlI _ _).mono ?_
       rintro e w7 ⟨v7,rfl,hpc⟩
       obtain⟨a7,c7,rfl⟩:=row_shape hpc.cd
       have hM7:=Lib.hid (hM.out.code hpc)
       have hz7:=hM7.out.z 3
       have k37:=hM7.out.c3
       have hM8:=Lib.hid hM7.out.put
       have ecode:flat (I++[(wr8 q,wr8 r),(wr8 19,wr8 0)])=flat I++[wr8 q,wr8 r]++[wr8 19,wr8 0]:=by rw [flat_app];simp [flat]
       rw [← ecode] at hM8
       have ecl:=congrArg List.length ecode
       rw [← ecl]
       have hcode:Hid (codeOk true (I++[(wr8 q,wr8 r),(wr8 19,wr8 0)])):=by
        obtain⟨e,h1,h5,hP,hS⟩:=hIok.out
        exact Lib.hid ⟨P,S,q,r,19,by rw [e],h1,h5,hP,hS,hqr.out.1,hqr.out.2,Or.inr ⟨rfl,rfl⟩⟩
       clear hM hM7 hpc ecode ecl hlI hI
       generalize I++[(wr8 q,wr8 r),(wr8 19,wr8 0)]=J at *
       generalize hmJ:(flat J).length=mJ at *
       have hmJ':=Lib.hid hmJ
       clear hmJ
       go_upto_region 13 with fail
       generalize w7.setCell ⟨B,3,none⟩ (.slice a7 mJ c7)=w8 at *
       have hh8:w8.heap[B0]?=some (.cells #[.int .i64 0,.int .i64 0,.slice none 0 0,.slice none 0 0] 75 (0,0)):=(hM8.out.cg.block B0 hB0 (by have:=hM8.out.ks.p0;omega)).trans hh.out
       have k80:=hM8.out.c0
       have k81:=hM8.out.c1
       have k82:=hM8.out.c2
       have k83:=hM8.out.c3
       have b80:w8.cell? ⟨B0,0,none⟩=some (.int .i64 0):=cell_in hh8 rfl
       have b81:w8.cell? ⟨B0,1,none⟩=some (.int .i64 0):=cell_in hh8 rfl
       have b82:w8.cell? ⟨B0,2,none⟩=some (.slice none 0 0):=cell_in hh8 rfl
       have b83:w8.cell? ⟨B0,3,none⟩=some (.slice none 0 0):=cell_in hh8 rfl
       have y80:w8.frozen? ⟨B0,0,none⟩=false:=loose_in hh8
       have y81:w8.frozen? ⟨B0,1,none⟩=false:=loose_in hh8
       have y82:w8.frozen? ⟨B0,2,none⟩=false:=loose_in hh8
       have y83:w8.frozen? ⟨B0,3,none⟩=false:=loose_in hh8
       clear hh8 k37 hz7
       obtain⟨r0,r1,r2,r3⟩:=set4_at (v0:=.int .i64 args) (v1:=.int .i64 2) (v2:=.slice la 14 lc) (v3:=.slice a7 mJ c7) b80 b81 b82 b83
       go_wp2
       refine bodyPost_ret (by simp [results,Tryz.results31,go_sem,r0,r1,r2,r3];try rfl) rfl ?_
       obtain⟨f1,f2,f3,f4⟩:=hM8.out.fin hW.out (by rw [hBe'.out];exact hsz0) (by rw [hBe'.out];exact hB0) (.int .i64 args) (.int .i64 2) (.slice la 14 lc) (.slice a7 mJ c7)
       rw [hBe'.out] at f1 f2 f3 f4
       refine⟨_,_,rfl,X,J,hX,hcode.out,f1,f2,?_,?_⟩
       ·rw [hBe'.out];exact f3
       ·rw [hBe'.out,hmJ'.out];rw [hmJ'.out] at f4;exact f4
      ·have hz0':(z == 0)=false:=by simpa using hz0
       go_wp2_with fail
       refine (op_c hM.out.pc hlI _ _).mono ?_
       rintro e w7 ⟨v7,rfl,hpc⟩
       obtain⟨a7,c7,rfl⟩:=row_shape hpc.cd
       have hM7:=Lib.hid (hM.out.code hpc)
       have hz7:=hM7.out.z 3
       have k37:=hM7.out.c3
       have hM8:=Lib.hid hM7.out.put
       have ecode:flat (I++[(wr8 q,wr8 r),(wr8 14,wr8 0)])=flat I++[wr8 q,wr8 r]++[wr8 14,wr8 0]:=by rw [flat_app];simp [flat]
       rw [← ecode] at hM8
       have ecl:=congrArg List.length ecode
       rw [← ecl]
       have hcode:Hid (codeOk true (I++[(wr8 q,wr8 r),(wr8 14,wr8 0)])):=by
        obtain⟨e,h1,h5,hP,hS⟩:=hIok.out
        exact Lib.hid ⟨P,S,q,r,14,by rw [e],h1,h5,hP,hS,hqr.out.1,hqr.out.2,Or.inl rfl⟩
       clear hM hM7 hpc ecode ecl hlI hI
       generalize I++[(wr8 q,wr8 r),(wr8 14,wr8 0)]=J at *
       generalize hmJ:(flat J).length=mJ at *
       have hmJ':=Lib.hid hmJ
       clear hmJ
       go_upto_region 13 with fail
       generalize w7.setCell ⟨B,3,none⟩ (.slice a7 mJ c7)=w8 at *
       have hh8:w8.heap[B0]?=some (.cells #[.int .i64 0,.int .i64 0,.slice none 0 0,.slice none 0 0] 75 (0,0)):=(hM8.out.cg.block B0 hB0 (by have:=hM8.out.ks.p0;omega)).trans hh.out
       have k80:=hM8.out.c0
       have k81:=hM8.out.c1
       have k82:=hM8.out.c2
       have k83:=hM8.out.c3
       have b80:w8.cell? ⟨B0,0,none⟩=some (.int .i64 0):=cell_in hh8 rfl
       have b81:w8.cell? ⟨B0,1,none⟩=some (.int .i64 0):=cell_in hh8 rfl
       have b82:w8.cell? ⟨B0,2,none⟩=some (.slice none 0 0):=cell_in hh8 rfl
       have b83:w8.cell? ⟨B0,3,none⟩=some (.slice none 0 0):=cell_in hh8 rfl
       have y80:w8.frozen? ⟨B0,0,none⟩=false:=loose_in hh8
       have y81:w8.frozen? ⟨B0,1,none⟩=false:=loose_in hh8
       have y82:w8.frozen? ⟨B0,2,none⟩=false:=loose_in hh8
       have y83:w8.frozen? ⟨B0,3,none⟩=false:=loose_in hh8
       clear hh8 k37 hz7
       obtain⟨r0,r1,r2,r3⟩:=set4_at (v0:=.int .i64 args) (v1:=.int .i64 2) (v2:=.slice la 14 lc) (v3:=.slice a7 mJ c7) b80 b81 b82 b83
       go_wp2
       refine bodyPost_ret (by simp [results,Tryz.results31,go_sem,r0,r1,r2,r3];try rfl) rfl ?_
       obtain⟨f1,f2,f3,f4⟩:=hM8.out.fin hW.out (by rw [hBe'.out];exact hsz0) (by rw [hBe'.out];exact hB0) (.int .i64 args) (.int .i64 2) (.slice la 14 lc) (.slice a7 mJ c7)
       rw [hBe'.out] at f1 f2 f3 f4
       refine⟨_,_,rfl,X,J,hX,hcode.out,f1,f2,?_,?_⟩
       ·rw [hBe'.out];exact f3
       ·rw [hBe'.out,hmJ'.out];rw [hmJ'.out] at f4;exact f4
theorem methodC (hPC:PieceC):MethodC:=⟨fun h args c bl ha hc0 hc1=>method_k hPC h args c bl ha hc0 hc1⟩
end Wd
end Go.Proofs.YteiejjmhmmkdhaaGreat
