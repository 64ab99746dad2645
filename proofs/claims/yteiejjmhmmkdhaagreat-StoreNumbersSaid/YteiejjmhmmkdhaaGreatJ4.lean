/- Texts joined: KUK. -/
import Derived.Test.YteiejjmhmmkdhaaGreatJ3
import Derived.Deep.DeepCutAuto
import Derived.Deep.CutBlock
/- A tape's program. -/
namespace Go.Proofs.YteiejjmhmmkdhaaGreat
open Go.RowKit
set_option linter.unusedVariables false
set_option maxRecDepth 20000
namespace Wd
set_option maxHeartbeats 64000000 in
theorem unit_k (hMC:MethodC) {w:World} {p n:Nat} {ad:Option Addr} (h:Tp w p ad n) :
  Calls Tryz.prog 9 #[.pointer (some ⟨p,0,none⟩)] w fun e w'=>∃ nv cv mv ov,e=.returned (.agg #[nv,cv,mv,ov,.int .i64 6])∧∃ U,UnV w' nv cv mv ov U∧TapeU U∧Tp w' p ad n∧Cg (fun k=>k=p) w w'∧UnF (w.heap.size+1) w' nv cv mv ov U:=by
 have h0:=Lib.hid (Ks.start h)
 have hU:=Lib.hid (Un.start (h0.out.keep (wU_bel w)) (wU_2 w) (by omega))
 have hP:Hid (P1 w (wU w) (wU w) p n ad (w.heap.size+1+1) (.slice (some ⟨w.heap.size+1,0,none⟩) 6 6) (.slice (some ⟨w.heap.size+1+1+1,0,none⟩) 2 2) 2 cls0) :=
  Lib.hid ⟨hU.out,by have:=row_of (b:=w.heap.size+1+1+1) (sz:=4) (m:=2) (wU_3 w) (Nat.le_refl _) rfl (by decide);simpa using this,rfl,Cls.start⟩
 have e0:=Lib.hid (wU_0 w)
 have e1:=Lib.hid (wU_1 w)
 have ez:Hid (w.heap.size+1≤w.heap.size+1+1):=Lib.hid (by omega)
 clear h hU
 go_enter Tryz.func9,Tryz.ntmps9
 go_upto_block 0 with (first | (go_at_call 29;((with_reducible refine (names_c _).mono ?_);rintro e w2 ⟨rfl,hw2⟩;subst w2)))
 change Code.wp _ _ _ _ (wU w)
 generalize wU w=wB at *
 generalize hBn:w.heap.size+1=Bn at *
 generalize hBB:Bn+1=B at *
 have hBn':=Lib.hid hBn
 have hBB':=Lib.hid hBB
 clear hBn hBB h0
 go_cut [] (fun wx=>∃ (a:Option Addr) (m cp:Nat) (T:List (ClassA × Value)),Hid (3≤m∧m≤5)∧Hid (P1 w wB wx p n ad B (.slice (some ⟨Bn,0,none⟩) 6 6) (.slice a m cp) m T))
 case first =>
  go_wp2_with fail
  go_loopw [4] (fun i4 wr=>∃ (i:Nat) (a:Option Addr) (m cp:Nat) (T:List (ClassA × Value)),i≤3∧i4=.int .i64 i∧Hid (m=2+i)∧Hid (P1 w wB wr p n ad B (.slice (some ⟨Bn,0,none⟩) 6 6) (.slice a m cp) m T)) (fun i4 _=>3 - (intOf i4).toNat)
  case atStart=>exact⟨0,_,2,_,_,by omega,rfl,Lib.hid rfl,hP⟩
  case round =>
   obtain⟨i,a,m,cp,T,hi,rfl,hm,hP⟩:=hrel
   go_wp2_with fail
   refine (next_c 3 (by omega) (by omega) hP.out.un.ks.tp).mono ?_
   rintro e w2 ⟨x,rfl,⟨x0,x1⟩,t1,c1⟩
   have hP2:=Lib.hid (hP.out.next t1 c1)
   clear hP t1 c1
   by_cases hx:(i:Int)≤x
   ·go_upto_region 6 with fail
    have hi2:i≤2:=by omega
    go_cut [5] (fun b wx=>∃ (D:Nat) (f:Int),b=.pointer (some ⟨D,0,none⟩)∧(0≤f∧f≤3)∧Hid (Q1 w wB wx p n ad B (.slice (some ⟨Bn,0,none⟩) 6 6) (.slice a m cp) m T D (cName i) (-1) f))
    case first =>
     rcases (show i=0∨i=1∨i=2 by omega) with rfl | rfl | rfl
     all_goals
      go_wp2_with fail
      refine (next_c 4 (by omega) (by omega) hP2.out.un.ks.tp).mono ?_
      rintro e w3 ⟨f,rfl,⟨f0,f1⟩,t1,c1⟩
      have hP3:=Lib.hid (hP2.out.next t1 c1)
      go_wp2_with fail
      go_meet
      exact⟨_,f,rfl,⟨by omega,by omega⟩,Lib.hid (Q1.start hP3.out rfl)⟩
    case rest =>
     clear hP2
     obtain⟨D,f,rfl,⟨f0,f1⟩,hQ⟩:=hcut
     go_upto_region 7 with fail
     go_cut [39] (fun b wx=>∃ (c:Bool),b=.bool c∧Hid (c=true→0 < i)∧Hid (Q1 w wB wx p n ad B (.slice (some ⟨Bn,0,none⟩) 6 6) (.slice a m cp) m T D (cName i) (-1) f))
     case first =>
      by_cases hi0:0 < i
      ·have hi0':(0:Int) < (i:Int):=by omega
       go_wp2_with fail
       refine (next_c 2 (by omega) (by omega) hQ.out.p1.un.ks.tp).mono ?_
       rintro e w3 ⟨y,rfl,⟨y0,y1⟩,t1,c1⟩
       have hQ3:=Lib.hid (hQ.out.next t1 c1)
       by_cases hy:y=0
       ·subst hy
        go_wp2_with fail
        go_meet
        exact⟨true,rfl,Lib.hid (fun _=>hi0),hQ3⟩
       ·have hy':(y == 0)=false:=by simpa using hy
        go_wp2_with fail
        go_meet
        exact⟨false,rfl,Lib.hid (fun h=>by cases h),hQ3⟩
      ·have hi0':¬ (0:Int) < (i:Int):=by omega
       go_wp2_with fail
       go_meet
       exact⟨false,rfl,Lib.hid (fun h=>by cases h),hQ⟩
     case rest =>
      clear hQ
      obtain⟨b,rfl,hb,hQ⟩:=hcut
      go_upto_if 39 with fail
      go_cut [] (fun wx=>∃ (s f:Int),Hid (clsOk (T.map (·.1)) T.length ⟨cName i,s,f,[]⟩)∧Hid (Q1 w wB wx p n ad B (.slice (some ⟨Bn,0,none⟩) 6 6) (.slice a m cp) m T D (cName i) s f))
      case first =>
       cases b with
       | false =>
        go_wp2_with fail
        go_meet
        exact⟨-1,f,Lib.hid (clsOk.plain _ _ _ _ (by have:=hm.out;have:=hQ.out.p1.len;omega) f0 f1),hQ⟩
       | true =>
        have hi0:=hb.out rfl
        have hi0':(0:Int) < (i:Int):=by omega
        go_wp2_with fail
        refine (next_c (i:Int) (by omega) (by omega) hQ.out.p1.un.ks.tp).mono ?_
        rintro e w3 ⟨y,rfl,⟨y0,y1⟩,t1,c1⟩
        have hQ3:=Lib.hid (hQ.out.next t1 c1)
        clear hQ t1 c1
        have hwy:IntKind.i64.wrap (2+y)=2+y:=by rw [IntKind.wrap_i64];omega
        obtain⟨j,hj⟩:∃ j:Nat,2+y=(j:Int):=⟨(2+y).toNat,by omega⟩
        have hj2:2≤j:=by omega
        have hji:j < 2+i:=by omega
        rw [hj] at hwy
        have hwy2:IntKind.i64.wrap (2+y)=(j:Int):=by rw [hj];exact hwy
        have q1:=hQ3.out.k1
        have qz:=hQ3.out.kz 1
        have hQ4:=Lib.hid (hQ3.out.sup (j:Int))
        clear hwy hj y0 y1 hQ3
        go_upto_region 9 with fail
        generalize w3.setCell ⟨D,1,none⟩ (.int .i64 (j:Int))=w4 at *
        clear q1 qz hwy2
        obtain⟨g,rfl⟩:=row_some hQ4.out.p1.row (by have:=hm.out;omega)
        obtain⟨⟨d,dv⟩,hd⟩:∃ x,T[j]?=some x:=⟨T[j]'(by have:=hm.out;have:=hQ4.out.p1.len;omega),by simp⟩
        have hdl:=Lib.hid hd
        obtain⟨od,_,_⟩:=hQ4.out.p1.cls.ok j _ hd
        have hod:=Lib.hid od
        have hgc:Hid (∀ wr:World,wr.ownsRow (B+1) 72 4 (.slice (some ⟨g,0,none⟩) m cp) m (cl4s T)→wr.cell? ⟨g,j*4+2,none⟩=some (.int .i64 d.fields)):=Lib.hid (fun wr hr=>(hr.cellAt (j*4+2) (by have:=hm.out;omega)).trans (cl4s_get T j _ hdl.out).2.2.1)
        obtain⟨g0,g1⟩:=od.fld hj2
        have hij2:(j:Int) < (m:Int):=by have:=hm.out;omega
        simp only at g0 g1
        go_cut [] (fun wx=>∃ (f:Int),(d.fields≤f∧f≤d.fields+2)∧Hid (Q1 w wB wx p n ad B (.slice (some ⟨Bn,0,none⟩) 6 6) (.slice (some ⟨g,0,none⟩) m cp) m T D (cName i) (j:Int) f))
        case first =>
         have q1:=hQ4.out.k1
         have q2:=hQ4.out.k2
         have qz:=hQ4.out.kz 2
         have u1:=hQ4.out.p1.un.c1
         have gc:=hgc.out _ hQ4.out.p1.row
         generalize hdf:d.fields=df at *
         have hdf':=Lib.hid hdf
         clear hdf
         have hjm:j≤5:=by have:=hm.out;omega
         clear hod hd hdl od
         go_region_with (first | (go_at_call 30;((with_reducible refine (next_c 3 (by omega) (by omega) (hQ4.out.keep (by first | exact Below.refl _ _ | exact (Below.refl _ _).drew)).p1.un.ks.tp).mono ?_);rintro e w5 ⟨y,rfl,⟨y0,y1⟩,t1,c1⟩;have hQ5:=Lib.hid ((hQ4.out.keep (by first | exact Below.refl _ _ | exact (Below.refl _ _).drew)).next t1 c1);have q15:=hQ5.out.k1;have q25:=hQ5.out.k2;have qz5:=hQ5.out.kz 2;have u15:=hQ5.out.p1.un.c1;have gc5:=hgc.out _ hQ5.out.p1.row;have hQ6:=Lib.hid (hQ5.out.fld (df+y));have hwd:IntKind.i64.wrap (df+y)=df+y:=(by rw [IntKind.wrap_i64];omega);clear t1 c1)))
         all_goals (go_wp2_with fail;go_meet;exact⟨df+y,⟨by omega,by omega⟩,hQ6⟩)
        case rest =>
         clear hQ4
         obtain⟨f',⟨f0',f1'⟩,hQ⟩:=hcut
         go_wp2_with fail
         go_meet
         exact⟨j,f',Lib.hid (clsOk.sub (by have:=hm.out;have:=hQ.out.p1.len;omega) hj2 (by have:=hm.out;have:=hQ.out.p1.len;omega) (by simp [hdl.out]) hod.out f0' f1'),hQ⟩
      case rest =>
       clear hQ
       obtain⟨s,f,hc,hQ⟩:=hcut
       obtain⟨i0,hi0,hz0,hz1,hz2⟩:=info_parts infoCls
       have hmx:100000≤maxLen:=by decide
       have k0:=hQ.out.k0
       have k1:=hQ.out.k1
       have k2:=hQ.out.k2
       have k3:=hQ.out.k3
       have u1:=hQ.out.p1.un.c1
       have hcd:=Lib.hid hQ.out.p1.row
       have hsz:Hid (B+1≤wc.heap.size):=Lib.hid hQ.out.p1.un.lt
       have hm5:m≤4:=by have:=hm.out;omega
       go_wp2_with (first | (at_builtin;refine wpList_append_lies _ rfl (.tmp 57) (.tmp 59) 28 rfl (B+1) 72 i0 (.agg #[.string ByteArray.empty,.int .i64 0,.int .i64 0,.slice none 0 0]) 4 56 Tryz.underlying28 hi0 hz0 hz1 hz2 rfl (by decide) (.slice a m cp) m _ (by simp [Act.eval]) (hcd.out.alloc _) ⟨wc.heap.size,0,none⟩ 1 1 (cl4 ⟨cName i,s,f,[]⟩ (.slice none 0 0)) (by simp [Act.eval]) (by simp [cl4]) (cl4_at ((World.cell?_alloc_new _ _ _ 0).trans rfl) ((World.cell?_alloc_new _ _ _ 1).trans rfl) ((World.cell?_alloc_new _ _ _ 2).trans rfl) ((World.cell?_alloc_new _ _ _ 3).trans rfl)) (cl4_one _ _ ⟨_,_,_,rfl⟩) (by omega) (by omega) (by omega) (by have:=hsz.out;simp;omega) _ rfl ?_;intro g1 cap1 w3 hown1 hgrow1 hat1 hlt1;have hA1:=(Below.refl wc.heap.size wc).alloc (Nat.le_refl _) (.cells (cl4 ⟨cName i,s,f,[]⟩ (.slice none 0 0)).toArray 72);have hU3:=hQ.out.p1.grown hA1 hgrow1;have u13:=hU3.c1;have uz3:=hU3.z 1;have hP4:=Lib.hid (hQ.out.p1.add hA1 hown1 hgrow1 hc.out rfl);clear hU3 hown1 hgrow1 hat1 hlt1 hA1))
       go_roundw
       case rel=>exact⟨i+1,_,m+1,_,_,by omega,by go_num,Lib.hid (by have:=hm.out;omega),hP4⟩
       case measure=>simp [intOf];omega
   ·go_wp2_with fail
    go_meet
    exact⟨_,_,_,_,Lib.hid (by have:=hm.out;omega),hP2⟩
 case rest =>
  clear hP
  obtain⟨a,m,cp,T,hm,hP⟩:=hcut
  go_upto_block 2 with (first | (go_at_call 29;((with_reducible refine (names_c _).mono ?_);rintro e w2 ⟨rfl,hw2⟩;have hP2:=Lib.hid (hP.out.keep (by rw [hw2];exact (Below.refl _ _).alloc (Nat.le_refl _) _:Below wc.heap.size wc w2));clear hP hw2)))
  have hst:Hid (P2 w wB w2 p n ad B (.slice (some ⟨Bn,0,none⟩) 6 6) (.slice a m cp) m T w2.heap.size (.slice none 0 0) 0 []):=Lib.hid (P2.start hP2.out)
  have hmb:=hm.out
  generalize hH:w2.heap.size=H at *
  clear hP2 hH
  go_cut [] (fun wx=>∃ (a':Option Addr) (cp':Nat) (M:List (MethA × Value × Value)),Hid (P2 w wB wx p n ad B (.slice (some ⟨Bn,0,none⟩) 6 6) (.slice a m cp) m T H (.slice a' 6 cp') 6 M))
  case first =>
   obtain⟨i0,hi0,hz0,hz1,hz2⟩:=info_parts infoMeth
   have hmx:100000≤maxLen:=by decide
   go_wp2_with fail
   go_loopw [64] (fun i64 wr=>∃ (k:Nat) (a':Option Addr) (cp':Nat) (M:List (MethA × Value × Value)),k≤6∧i64=.int .i64 k∧Hid (P2 w wB wr p n ad B (.slice (some ⟨Bn,0,none⟩) 6 6) (.slice a m cp) m T H (.slice a' k cp') k M)) (fun i64 _=>6 - (intOf i64).toNat)
   case atStart=>exact⟨0,_,_,_,by omega,rfl,hst⟩
   case round =>
    clear hst
    obtain⟨k,a',cp',M,hk,rfl,hS⟩:=hrel
    by_cases hk6:k < 6
    ·have hk6':(k:Int) < 6:=by omega
     go_upto_region 14 with fail
     refine wp_region_last (d:=12) (fuel:=12) (S:=(fun wr=>wr.cell? ⟨B,1,none⟩=some (.slice a m cp)∧wr.cell? ⟨B,2,none⟩=some (.slice a' k cp')∧wr.frozen? ⟨B,2,none⟩=false)) (by kernel_rfl) (by kernel_rfl) rfl ?_ (fun hHeld=>?_)
     ·(try dsimp only);exact (hS.out.keep (Below.refl _ _).drew).un.s3
     try simp only [Act.put,List.setIfInBounds_toArray,List.set_cons_zero,List.set_cons_succ]
     refine wpAnyH_take (i:=0) (oi:={ dst:=some 67,op:=Op.fieldAddr 32 (Operand.tmp 3) 2,type:=0,pos:= "tape.go:120",after:=#[],guard:=none }) (v:=?_) rfl (by kernel_rfl) (by kernel_rfl) (by kernel_rfl) (fun _ _ _ h=>h) (Or.inl ⟨by rfl,?_⟩) (by assumption) ?_
     rotate_left 1
     ·intro w hSw;(try dsimp only at hSw);go_simp <;> with_reducible rfl
     try simp only [Act.put,List.setIfInBounds_toArray,List.set_cons_zero,List.set_cons_succ]
     refine wpAnyH_take (i:=1) (oi:={ dst:=some 68,op:=Op.load 29 (Operand.tmp 67),type:=29,pos:= "tape.go:120",after:=#[{ on:=0,ground:=Ground.data }],guard:=none }) (v:=?_) rfl (by kernel_rfl) (by kernel_rfl) (by kernel_rfl) (fun _ _ _ h=>h) (Or.inl ⟨by rfl,?_⟩) (by assumption) ?_
     rotate_left 1
     ·intro w hSw;(try dsimp only at hSw);go_simp <;> with_reducible rfl
     try simp only [Act.put,List.setIfInBounds_toArray,List.set_cons_zero,List.set_cons_succ]
     refine wpAnyH_take (i:=2) (oi:={ dst:=some 69,op:=Op.move (Operand.tmp 0),type:=33,pos:= "tape.go:120",after:=#[],guard:=none }) (v:=?_) rfl (by kernel_rfl) (by kernel_rfl) (by kernel_rfl) (fun _ _ _ h=>h) (Or.inl ⟨by rfl,?_⟩) (by assumption) ?_
     rotate_left 1
     ·intro w hSw;(try dsimp only at hSw);go_simp <;> with_reducible rfl
     try simp only [Act.put,List.setIfInBounds_toArray,List.set_cons_zero,List.set_cons_succ]
     refine wpAnyH_take (i:=3) (oi:={ dst:=some 70,op:=Op.move (Operand.tmp 6),type:=3,pos:= "tape.go:120",after:=#[],guard:=none }) (v:=?_) rfl (by kernel_rfl) (by kernel_rfl) (by kernel_rfl) (fun _ _ _ h=>h) (Or.inl ⟨by rfl,?_⟩) (by assumption) ?_
     rotate_left 1
     ·intro w hSw;(try dsimp only at hSw);go_simp <;> with_reducible rfl
     try simp only [Act.put,List.setIfInBounds_toArray,List.set_cons_zero,List.set_cons_succ]
     refine wpAnyH_take (i:=5) (oi:={ dst:=some 72,op:=Op.fieldAddr 32 (Operand.tmp 3) 1,type:=0,pos:= "tape.go:120",after:=#[],guard:=none }) (v:=?_) rfl (by kernel_rfl) (by kernel_rfl) (by kernel_rfl) (fun _ _ _ h=>h) (Or.inl ⟨by rfl,?_⟩) (by assumption) ?_
     rotate_left 1
     ·intro w hSw;(try dsimp only at hSw);go_simp <;> with_reducible rfl
     try simp only [Act.put,List.setIfInBounds_toArray,List.set_cons_zero,List.set_cons_succ]
     refine wpAnyH_take (i:=6) (oi:={ dst:=some 73,op:=Op.load 28 (Operand.tmp 72),type:=28,pos:= "tape.go:120",after:=#[{ on:=5,ground:=Ground.data }],guard:=none }) (v:=?_) rfl (by kernel_rfl) (by kernel_rfl) (by kernel_rfl) (fun _ _ _ h=>h) (Or.inl ⟨by rfl,?_⟩) (by assumption) ?_
     rotate_left 1
     ·intro w hSw;(try dsimp only at hSw);go_simp <;> with_reducible rfl
     try simp only [Act.put,List.setIfInBounds_toArray,List.set_cons_zero,List.set_cons_succ]
     refine wpAnyH_take (i:=7) (oi:={ dst:=some 74,op:=Op.call { callee:=Callee.builtin Builtin.len,args:=#[Operand.tmp 73],argTypes:=#[28] },type:=3,pos:= "tape.go:120",after:=#[{ on:=6,ground:=Ground.data }],guard:=none }) (v:=?_) rfl (by kernel_rfl) (by kernel_rfl) (by kernel_rfl) (fun _ _ _ h=>h) (Or.inl ⟨by rfl,?_⟩) (by assumption) ?_
     rotate_left 1
     ·intro w hSw;(try dsimp only at hSw);go_simp <;> with_reducible rfl
     try simp only [Act.put,List.setIfInBounds_toArray,List.set_cons_zero,List.set_cons_succ]
     refine wpAnyH_ready (rs:=[4]) (by kernel_rfl) (by simp) ?_
     refine AllReadyH.cons (o:={ dst:=some 71,op:=Op.call { callee:=Callee.value (Operand.func 32),args:=#[Operand.tmp 70],argTypes:=#[3] },type:=3,pos:= "tape.go:120",after:=#[{ on:=3,ground:=Ground.data }],guard:=none }) rfl (fun K hK=>?_) ?_
     ·go_simp
      with_reducible refine (args_c k hk6 _).mono ?_
      rintro e y ⟨rfl,hb⟩
      have hS1:=Lib.hid (hS.out.keep (((Below.refl _ _).drew).trans hb))
      go_wp2_with fail
      refine hK.out _ _ ?_ ?_
      ·(try dsimp only);exact hS1.out.un.s3
      clear hK K hHeld;intro hHeld
      try simp only [Act.put,List.setIfInBounds_toArray,List.set_cons_zero,List.set_cons_succ]
      refine wpAnyH_ready (rs:=[8]) (by kernel_rfl) (by simp) ?_
      refine AllReadyH.cons (o:={ dst:=some 75,op:=Op.call { callee:=Callee.value (Operand.func 31),args:=#[Operand.tmp 69,Operand.tmp 71,Operand.tmp 74,Operand.const (Value.bool false)],argTypes:=#[33,3,3,4] },type:=75,pos:= "tape.go:120",after:=#[{ on:=2,ground:=Ground.data },{ on:=4,ground:=Ground.data },{ on:=7,ground:=Ground.data },{ on:=4,ground:=Ground.chain }],guard:=none }) rfl (fun K hK=>?_) ?_
      ·go_simp
       with_reducible refine (hMC.c hS1.out.un.ks (argOf k) (m:Int) false (argOf_le k) (by omega) (by omega)).mono ?_
       rintro e y2 ⟨lv1,kv1,rfl,X1,I1,hX1,hI1,ks1,cg1,rl1,rk1⟩
       obtain⟨la1,lc1,rfl⟩:=row_shape rl1
       obtain⟨ka1,kc1,rfl⟩:=row_shape rk1
       have hN:=Lib.hid (Sub2.made (argOf k) 2 rl1 rk1)
       have hSz:=Lib.hid hS1.out
       have hS2:=Lib.hid (hS1.out.next ks1.tp cg1)
       have hok:=Lib.hid (And.intro hX1 hI1)
       clear rl1 rk1 cg1 ks1 hX1 hI1
       go_wp2_with fail
       refine hK.out _ _ ?_ ?_
       ·(try dsimp only);exact hS2.out.un.s3
       clear hK K hHeld;intro hHeld
       try simp only [Act.put,List.setIfInBounds_toArray,List.set_cons_zero,List.set_cons_succ]
       refine wpAnyH_ready (rs:=[9]) (by kernel_rfl) (by simp) ?_
       refine AllReadyH.cons (o:={ dst:=some 76,op:=Op.buildSlice 29 1 #[(0,Operand.tmp 75)],type:=29,pos:= "tape.go:120",after:=#[{ on:=8,ground:=Ground.data }],guard:=none }) rfl (fun K hK=>?_) ?_
       ·go_simp
        refine hK.out _ _ ?_ ?_
        ·(try dsimp only);exact (hS2.out.keep ((Below.refl _ _).alloc (Nat.le_refl _) _)).un.s3
        clear hK K hHeld;intro hHeld
        try simp only [Act.put,List.setIfInBounds_toArray,List.set_cons_zero,List.set_cons_succ]
        refine wpAnyH_ready (rs:=[10]) (by kernel_rfl) (by simp) ?_
        refine AllReadyH.cons (o:={ dst:=some 77,op:=Op.call { callee:=Callee.builtin Builtin.append,args:=#[Operand.tmp 68,Operand.tmp 76],argTypes:=#[29,29] },type:=29,pos:= "tape.go:120",after:=#[{ on:=1,ground:=Ground.data },{ on:=9,ground:=Ground.data },{ on:=8,ground:=Ground.chain }],guard:=none }) rfl (fun K hK=>?_) ?_
        ·refine step_append_lies _ rfl (.tmp 68) (.tmp 76) 29 rfl H 75 i0 (.agg #[.int .i64 0,.int .i64 0,.slice none 0 0,.slice none 0 0]) 4 64 Tryz.underlying29 hi0 hz0 hz1 hz2 rfl (by decide) (.slice a' k cp') k _ rfl (hS2.out.mr.row.alloc _) ⟨y2.heap.size,0,none⟩ 1 1 (mt4s [(⟨argOf k,2,X1,flat I1⟩,.slice la1 14 lc1,.slice ka1 (flat I1).length kc1)]) rfl rfl (mt4_at ((World.cell?_alloc_new _ _ _ 0).trans rfl) ((World.cell?_alloc_new _ _ _ 1).trans rfl) ((World.cell?_alloc_new _ _ _ 2).trans rfl) ((World.cell?_alloc_new _ _ _ 3).trans rfl)) (mt4s_one _ (by intro x hx;rw [List.mem_singleton.1 hx];exact⟨⟨_,_,_,rfl⟩,⟨_,_,_,rfl⟩⟩)) (by omega) (by omega) (by omega) (by have:=hS2.out.HB;have:=hS2.out.Hsz;simp;omega) _ rfl ?_
         intro g1 cap1 w3 hown1 hgrow1 hat1 hlt1
         have hU3:=Lib.hid (hS2.out.grown ((Below.refl _ _).alloc (Nat.le_refl _) _) hgrow1)
         refine hK.out _ _ ?_ ?_
         ·(try dsimp only);exact hU3.out.s3
         clear hK K hHeld;intro hHeld
         try simp only [Act.put,List.setIfInBounds_toArray,List.set_cons_zero,List.set_cons_succ]
         refine wpAnyH_take (i:=11) (oi:={ dst:=some 78,op:=Op.fieldAddr 32 (Operand.tmp 3) 2,type:=0,pos:= "tape.go:120",after:=#[{ on:=0,ground:=Ground.phase },{ on:=1,ground:=Ground.phase },{ on:=2,ground:=Ground.phase },{ on:=3,ground:=Ground.phase },{ on:=4,ground:=Ground.phase },{ on:=5,ground:=Ground.phase },{ on:=6,ground:=Ground.phase },{ on:=7,ground:=Ground.phase },{ on:=8,ground:=Ground.phase },{ on:=9,ground:=Ground.phase },{ on:=10,ground:=Ground.phase }],guard:=none }) (v:=?_) rfl (by kernel_rfl) (by kernel_rfl) (by kernel_rfl) (fun _ _ _ h=>h) (Or.inl ⟨by rfl,?_⟩) (by assumption) ?_
         rotate_left 1
         ·intro w hSw;(try dsimp only at hSw);go_simp <;> with_reducible rfl
         try simp only [Act.put,List.setIfInBounds_toArray,List.set_cons_zero,List.set_cons_succ]
         refine last_step (o:={ dst:=none,op:=Op.store 29 (Operand.tmp 78) (Operand.tmp 77),type:=0,pos:= "tape.go:120",after:=#[{ on:=11,ground:=Ground.data },{ on:=10,ground:=Ground.data },{ on:=10,ground:=Ground.chain },{ on:=0,ground:=Ground.phase },{ on:=1,ground:=Ground.phase },{ on:=2,ground:=Ground.phase },{ on:=3,ground:=Ground.phase },{ on:=4,ground:=Ground.phase },{ on:=5,ground:=Ground.phase },{ on:=6,ground:=Ground.phase },{ on:=7,ground:=Ground.phase },{ on:=8,ground:=Ground.phase },{ on:=9,ground:=Ground.phase },{ on:=10,ground:=Ground.phase }],guard:=none }) rfl (by kernel_rfl) (fun K hK=>?_)
         go_simp
         refine hK.out _ _ ?_
         clear hK K
         try simp only [Act.put,List.setIfInBounds_toArray,List.set_cons_zero,List.set_cons_succ]
         have hHy:H≤y.heap.size:=hSz.out.Hsz
         have hN2:Sub2 H y2 (⟨argOf k,2,X1,flat I1⟩,.slice la1 14 lc1,.slice ka1 (flat I1).length kc1):=hN.out.base hHy
         have hP3:=Lib.hid (hS2.out.add (N:=[(⟨argOf k,2,X1,flat I1⟩,.slice la1 14 lc1,.slice ka1 (flat I1).length kc1)]) (q:=1) rfl (by intro x hx;rw [List.mem_singleton.1 hx];exact hN2) (by intro x hx b hb;rw [List.mem_singleton.1 hx];have:=(hSz.out.mr.row.lt b hb).2;exact⟨fun e=>by have:=(hN.out.l.lt b e).1;omega,fun e=>by have:=(hN.out.c.lt b e).1;omega⟩) ((Below.refl _ _).alloc (Nat.le_refl _) _) hown1 hgrow1 (at_hat hat1) (by intro j x hx;obtain rfl:j=0:=(by have:=(List.getElem?_eq_some_iff.1 hx).1;simp at this;omega);simp at hx;subst hx;exact⟨by simp [hk6],rfl,hok.out.1,I1,by rw [show decide (7≤k+0)=false by simp;omega];exact hok.out.2,rfl⟩))
         clear hHy hN2 hown1 hgrow1 hat1 hlt1
         go_wp2_with fail
         go_roundw
         case rel=>exact⟨k+1,_,_,_,by omega,by go_num,hP3⟩
         case measure=>simp [intOf];omega
        exact AllReadyH.nil
       exact AllReadyH.nil
      exact AllReadyH.nil
     exact AllReadyH.nil
    ·obtain rfl:k=6:=by omega
     go_wp2_with fail
     go_meet
     exact⟨_,_,_,hS⟩
  case rest =>
   clear hst
   obtain⟨a',cp',M,hS⟩:=hcut
   go_upto_region 16 with fail
   go_cut [] (fun wx=>∃ (a':Option Addr) (cp':Nat) (M:List (MethA × Value × Value)),Hid (P2 w wB wx p n ad B (.slice (some ⟨Bn,0,none⟩) 6 6) (.slice a m cp) m T H (.slice a' 9 cp') 9 M))
   case first =>
    obtain⟨i0,hi0,hz0,hz1,hz2⟩:=info_parts infoMeth
    have hmx:100000≤maxLen:=by decide
    obtain⟨wr0,hwr0⟩:∃ wr0,wr0=wc:=⟨_,rfl⟩
    rw [← hwr0] at hS ⊢
    clear hwr0
    refine wp_region_last (d:=20) (fuel:=20) (S:=(fun wr=>wr.cell? ⟨B,1,none⟩=some (.slice a m cp)∧wr.cell? ⟨B,2,none⟩=some (.slice a' 6 cp')∧wr.frozen? ⟨B,2,none⟩=false)) (by kernel_rfl) (by kernel_rfl) rfl ?_ (fun hHeld=>?_)
    ·(try dsimp only);exact (hS.out.keep (Below.refl _ _).drew).un.s3
    try simp only [Act.put,List.setIfInBounds_toArray,List.set_cons_zero,List.set_cons_succ]
    refine wpAnyH_take (i:=0) (oi:={ dst:=some 80,op:=Op.fieldAddr 32 (Operand.tmp 3) 2,type:=0,pos:= "tape.go:122",after:=#[],guard:=none }) (v:=?_) rfl (by kernel_rfl) (by kernel_rfl) (by kernel_rfl) (fun _ _ _ h=>h) (Or.inl ⟨by rfl,?_⟩) (by assumption) ?_
    rotate_left 1
    ·intro w hSw;(try dsimp only at hSw);go_simp <;> with_reducible rfl
    try simp only [Act.put,List.setIfInBounds_toArray,List.set_cons_zero,List.set_cons_succ]
    refine wpAnyH_take (i:=1) (oi:={ dst:=some 81,op:=Op.load 29 (Operand.tmp 80),type:=29,pos:= "tape.go:122",after:=#[{ on:=0,ground:=Ground.data }],guard:=none }) (v:=?_) rfl (by kernel_rfl) (by kernel_rfl) (by kernel_rfl) (fun _ _ _ h=>h) (Or.inl ⟨by rfl,?_⟩) (by assumption) ?_
    rotate_left 1
    ·intro w hSw;(try dsimp only at hSw);go_simp <;> with_reducible rfl
    try simp only [Act.put,List.setIfInBounds_toArray,List.set_cons_zero,List.set_cons_succ]
    refine wpAnyH_take (i:=2) (oi:={ dst:=some 82,op:=Op.move (Operand.tmp 0),type:=33,pos:= "tape.go:122",after:=#[],guard:=none }) (v:=?_) rfl (by kernel_rfl) (by kernel_rfl) (by kernel_rfl) (fun _ _ _ h=>h) (Or.inl ⟨by rfl,?_⟩) (by assumption) ?_
    rotate_left 1
    ·intro w hSw;(try dsimp only at hSw);go_simp <;> with_reducible rfl
    try simp only [Act.put,List.setIfInBounds_toArray,List.set_cons_zero,List.set_cons_succ]
    refine wpAnyH_take (i:=3) (oi:={ dst:=some 83,op:=Op.fieldAddr 32 (Operand.tmp 3) 1,type:=0,pos:= "tape.go:122",after:=#[],guard:=none }) (v:=?_) rfl (by kernel_rfl) (by kernel_rfl) (by kernel_rfl) (fun _ _ _ h=>h) (Or.inl ⟨by rfl,?_⟩) (by assumption) ?_
    rotate_left 1
    ·intro w hSw;(try dsimp only at hSw);go_simp <;> with_reducible rfl
    try simp only [Act.put,List.setIfInBounds_toArray,List.set_cons_zero,List.set_cons_succ]
    refine wpAnyH_take (i:=4) (oi:={ dst:=some 84,op:=Op.load 28 (Operand.tmp 83),type:=28,pos:= "tape.go:122",after:=#[{ on:=3,ground:=Ground.data }],guard:=none }) (v:=?_) rfl (by kernel_rfl) (by kernel_rfl) (by kernel_rfl) (fun _ _ _ h=>h) (Or.inl ⟨by rfl,?_⟩) (by assumption) ?_
    rotate_left 1
    ·intro w hSw;(try dsimp only at hSw);go_simp <;> with_reducible rfl
    try simp only [Act.put,List.setIfInBounds_toArray,List.set_cons_zero,List.set_cons_succ]
    refine wpAnyH_take (i:=5) (oi:={ dst:=some 85,op:=Op.call { callee:=Callee.builtin Builtin.len,args:=#[Operand.tmp 84],argTypes:=#[28] },type:=3,pos:= "tape.go:122",after:=#[{ on:=4,ground:=Ground.data }],guard:=none }) (v:=?_) rfl (by kernel_rfl) (by kernel_rfl) (by kernel_rfl) (fun _ _ _ h=>h) (Or.inl ⟨by rfl,?_⟩) (by assumption) ?_
    rotate_left 1
    ·intro w hSw;(try dsimp only at hSw);go_simp <;> with_reducible rfl
    try simp only [Act.put,List.setIfInBounds_toArray,List.set_cons_zero,List.set_cons_succ]
    refine wpAnyH_take (i:=7) (oi:={ dst:=some 87,op:=Op.move (Operand.tmp 0),type:=33,pos:= "tape.go:122",after:=#[],guard:=none }) (v:=?_) rfl (by kernel_rfl) (by kernel_rfl) (by kernel_rfl) (fun _ _ _ h=>h) (Or.inl ⟨by rfl,?_⟩) (by assumption) ?_
    rotate_left 1
    ·intro w hSw;(try dsimp only at hSw);go_simp <;> with_reducible rfl
    try simp only [Act.put,List.setIfInBounds_toArray,List.set_cons_zero,List.set_cons_succ]
    refine wpAnyH_take (i:=8) (oi:={ dst:=some 88,op:=Op.fieldAddr 32 (Operand.tmp 3) 1,type:=0,pos:= "tape.go:122",after:=#[],guard:=none }) (v:=?_) rfl (by kernel_rfl) (by kernel_rfl) (by kernel_rfl) (fun _ _ _ h=>h) (Or.inl ⟨by rfl,?_⟩) (by assumption) ?_
    rotate_left 1
    ·intro w hSw;(try dsimp only at hSw);go_simp <;> with_reducible rfl
    try simp only [Act.put,List.setIfInBounds_toArray,List.set_cons_zero,List.set_cons_succ]
    refine wpAnyH_take (i:=9) (oi:={ dst:=some 89,op:=Op.load 28 (Operand.tmp 88),type:=28,pos:= "tape.go:122",after:=#[{ on:=8,ground:=Ground.data }],guard:=none }) (v:=?_) rfl (by kernel_rfl) (by kernel_rfl) (by kernel_rfl) (fun _ _ _ h=>h) (Or.inl ⟨by rfl,?_⟩) (by assumption) ?_
    rotate_left 1
    ·intro w hSw;(try dsimp only at hSw);go_simp <;> with_reducible rfl
    try simp only [Act.put,List.setIfInBounds_toArray,List.set_cons_zero,List.set_cons_succ]
    refine wpAnyH_take (i:=10) (oi:={ dst:=some 90,op:=Op.call { callee:=Callee.builtin Builtin.len,args:=#[Operand.tmp 89],argTypes:=#[28] },type:=3,pos:= "tape.go:122",after:=#[{ on:=9,ground:=Ground.data }],guard:=none }) (v:=?_) rfl (by kernel_rfl) (by kernel_rfl) (by kernel_rfl) (fun _ _ _ h=>h) (Or.inl ⟨by rfl,?_⟩) (by assumption) ?_
    rotate_left 1
    ·intro w hSw;(try dsimp only at hSw);go_simp <;> with_reducible rfl
    try simp only [Act.put,List.setIfInBounds_toArray,List.set_cons_zero,List.set_cons_succ]
    refine wpAnyH_take (i:=12) (oi:={ dst:=some 92,op:=Op.move (Operand.tmp 0),type:=33,pos:= "tape.go:122",after:=#[],guard:=none }) (v:=?_) rfl (by kernel_rfl) (by kernel_rfl) (by kernel_rfl) (fun _ _ _ h=>h) (Or.inl ⟨by rfl,?_⟩) (by assumption) ?_
    rotate_left 1
    ·intro w hSw;(try dsimp only at hSw);go_simp <;> with_reducible rfl
    try simp only [Act.put,List.setIfInBounds_toArray,List.set_cons_zero,List.set_cons_succ]
    refine wpAnyH_take (i:=13) (oi:={ dst:=some 93,op:=Op.fieldAddr 32 (Operand.tmp 3) 1,type:=0,pos:= "tape.go:122",after:=#[],guard:=none }) (v:=?_) rfl (by kernel_rfl) (by kernel_rfl) (by kernel_rfl) (fun _ _ _ h=>h) (Or.inl ⟨by rfl,?_⟩) (by assumption) ?_
    rotate_left 1
    ·intro w hSw;(try dsimp only at hSw);go_simp <;> with_reducible rfl
    try simp only [Act.put,List.setIfInBounds_toArray,List.set_cons_zero,List.set_cons_succ]
    refine wpAnyH_take (i:=14) (oi:={ dst:=some 94,op:=Op.load 28 (Operand.tmp 93),type:=28,pos:= "tape.go:122",after:=#[{ on:=13,ground:=Ground.data }],guard:=none }) (v:=?_) rfl (by kernel_rfl) (by kernel_rfl) (by kernel_rfl) (fun _ _ _ h=>h) (Or.inl ⟨by rfl,?_⟩) (by assumption) ?_
    rotate_left 1
    ·intro w hSw;(try dsimp only at hSw);go_simp <;> with_reducible rfl
    try simp only [Act.put,List.setIfInBounds_toArray,List.set_cons_zero,List.set_cons_succ]
    refine wpAnyH_take (i:=15) (oi:={ dst:=some 95,op:=Op.call { callee:=Callee.builtin Builtin.len,args:=#[Operand.tmp 94],argTypes:=#[28] },type:=3,pos:= "tape.go:122",after:=#[{ on:=14,ground:=Ground.data }],guard:=none }) (v:=?_) rfl (by kernel_rfl) (by kernel_rfl) (by kernel_rfl) (fun _ _ _ h=>h) (Or.inl ⟨by rfl,?_⟩) (by assumption) ?_
    rotate_left 1
    ·intro w hSw;(try dsimp only at hSw);go_simp <;> with_reducible rfl
    try simp only [Act.put,List.setIfInBounds_toArray,List.set_cons_zero,List.set_cons_succ]
    refine wpAnyH_ready (rs:=[6]) (by kernel_rfl) (by simp) ?_
    refine AllReadyH.cons (o:={ dst:=some 86,op:=Op.call { callee:=Callee.value (Operand.func 31),args:=#[Operand.tmp 82,Operand.const (Value.int IntKind.i64 0),Operand.tmp 85,Operand.const (Value.bool false)],argTypes:=#[33,3,3,4] },type:=75,pos:= "tape.go:122",after:=#[{ on:=2,ground:=Ground.data },{ on:=5,ground:=Ground.data }],guard:=none }) rfl (fun K hK=>?_) ?_
    ·go_simp
     with_reducible refine (hMC.c (hS.out.keep (Below.refl _ _).drew).un.ks 0 (m:Int) false (by decide) (by omega) (by omega)).mono ?_
     rintro e y1 ⟨lv1,kv1,rfl,X1,I1,hX1,hI1,ks1,cg1,rl1,rk1⟩
     obtain⟨la1,lc1,rfl⟩:=row_shape rl1
     obtain⟨ka1,kc1,rfl⟩:=row_shape rk1
     have hN1:=Lib.hid (Sub2.made 0 2 rl1 rk1)
     have hS1:=Lib.hid ((hS.out.keep (Below.refl _ _).drew).next ks1.tp cg1)
     have hok1:=Lib.hid (And.intro hX1 hI1)
     have hcg1:=Lib.hid cg1
     clear rl1 rk1 cg1 ks1 hX1 hI1
     go_wp2_with fail
     refine hK.out _ _ ?_ ?_
     ·(try dsimp only);exact hS1.out.un.s3
     clear hK K hHeld;intro hHeld
     try simp only [Act.put,List.setIfInBounds_toArray,List.set_cons_zero,List.set_cons_succ]
     refine wpAnyH_ready (rs:=[11]) (by kernel_rfl) (by simp) ?_
     refine AllReadyH.cons (o:={ dst:=some 91,op:=Op.call { callee:=Callee.value (Operand.func 31),args:=#[Operand.tmp 87,Operand.const (Value.int IntKind.i64 0),Operand.tmp 90,Operand.const (Value.bool true)],argTypes:=#[33,3,3,4] },type:=75,pos:= "tape.go:122",after:=#[{ on:=7,ground:=Ground.data },{ on:=10,ground:=Ground.data },{ on:=6,ground:=Ground.chain }],guard:=none }) rfl (fun K hK=>?_) ?_
     ·go_simp
      with_reducible refine (hMC.c hS1.out.un.ks 0 (m:Int) true (by decide) (by omega) (by omega)).mono ?_
      rintro e y2 ⟨lv2,kv2,rfl,X2,I2,hX2,hI2,ks2,cg2,rl2,rk2⟩
      obtain⟨la2,lc2,rfl⟩:=row_shape rl2
      obtain⟨ka2,kc2,rfl⟩:=row_shape rk2
      have hN2:=Lib.hid (Sub2.made 0 2 rl2 rk2)
      have hS2:=Lib.hid (hS1.out.next ks2.tp cg2)
      have hok2:=Lib.hid (And.intro hX2 hI2)
      have hcg2:=Lib.hid cg2
      clear rl2 rk2 cg2 ks2 hX2 hI2
      go_wp2_with fail
      refine hK.out _ _ ?_ ?_
      ·(try dsimp only);exact hS2.out.un.s3
      clear hK K hHeld;intro hHeld
      try simp only [Act.put,List.setIfInBounds_toArray,List.set_cons_zero,List.set_cons_succ]
      refine wpAnyH_ready (rs:=[16]) (by kernel_rfl) (by simp) ?_
      refine AllReadyH.cons (o:={ dst:=some 96,op:=Op.call { callee:=Callee.value (Operand.func 31),args:=#[Operand.tmp 92,Operand.const (Value.int IntKind.i64 1),Operand.tmp 95,Operand.const (Value.bool true)],argTypes:=#[33,3,3,4] },type:=75,pos:= "tape.go:122",after:=#[{ on:=12,ground:=Ground.data },{ on:=15,ground:=Ground.data },{ on:=11,ground:=Ground.chain }],guard:=none }) rfl (fun K hK=>?_) ?_
      ·go_simp
       with_reducible refine (hMC.c hS2.out.un.ks 1 (m:Int) true (by decide) (by omega) (by omega)).mono ?_
       rintro e y3 ⟨lv3,kv3,rfl,X3,I3,hX3,hI3,ks3,cg3,rl3,rk3⟩
       obtain⟨la3,lc3,rfl⟩:=row_shape rl3
       obtain⟨ka3,kc3,rfl⟩:=row_shape rk3
       have hN3:=Lib.hid (Sub2.made 1 2 rl3 rk3)
       have hS3:=Lib.hid (hS2.out.next ks3.tp cg3)
       have hok3:=Lib.hid (And.intro hX3 hI3)
       have hcg3:=Lib.hid cg3
       clear rl3 rk3 cg3 ks3 hX3 hI3
       go_wp2_with fail
       refine hK.out _ _ ?_ ?_
       ·(try dsimp only);exact hS3.out.un.s3
       clear hK K hHeld;intro hHeld
       try simp only [Act.put,List.setIfInBounds_toArray,List.set_cons_zero,List.set_cons_succ]
       refine wpAnyH_ready (rs:=[17]) (by kernel_rfl) (by simp) ?_
       refine AllReadyH.cons (o:={ dst:=some 97,op:=Op.buildSlice 29 3 #[(0,Operand.tmp 86),(1,Operand.tmp 91),(2,Operand.tmp 96)],type:=29,pos:= "tape.go:122",after:=#[{ on:=6,ground:=Ground.data },{ on:=11,ground:=Ground.data },{ on:=16,ground:=Ground.data }],guard:=none }) rfl (fun K hK=>?_) ?_
       ·go_simp
        refine hK.out _ _ ?_ ?_
        ·(try dsimp only);exact (hS3.out.keep ((Below.refl _ _).alloc (Nat.le_refl _) _)).un.s3
        clear hK K hHeld;intro hHeld
        try simp only [Act.put,List.setIfInBounds_toArray,List.set_cons_zero,List.set_cons_succ]
        refine wpAnyH_ready (rs:=[18]) (by kernel_rfl) (by simp) ?_
        refine AllReadyH.cons (o:={ dst:=some 98,op:=Op.call { callee:=Callee.builtin Builtin.append,args:=#[Operand.tmp 81,Operand.tmp 97],argTypes:=#[29,29] },type:=29,pos:= "tape.go:122",after:=#[{ on:=1,ground:=Ground.data },{ on:=17,ground:=Ground.data },{ on:=16,ground:=Ground.chain }],guard:=none }) rfl (fun K hK=>?_) ?_
        ·refine step_append_lies _ rfl (.tmp 81) (.tmp 97) 29 rfl H 75 i0 (.agg #[.int .i64 0,.int .i64 0,.slice none 0 0,.slice none 0 0]) 4 64 Tryz.underlying29 hi0 hz0 hz1 hz2 rfl (by decide) (.slice a' 6 cp') 6 _ rfl (hS3.out.mr.row.alloc _) ⟨y3.heap.size,0,none⟩ 3 3 (mt4s [(⟨0,2,X1,flat I1⟩,.slice la1 14 lc1,.slice ka1 (flat I1).length kc1),(⟨0,2,X2,flat I2⟩,.slice la2 14 lc2,.slice ka2 (flat I2).length kc2),(⟨1,2,X3,flat I3⟩,.slice la3 14 lc3,.slice ka3 (flat I3).length kc3)]) rfl rfl (World.news_of_block (alloc_at _ _ _ rfl)) (mt4s_one _ (by intro x hx;simp only [List.mem_cons,List.not_mem_nil,or_false] at hx;rcases hx with rfl | rfl | rfl <;> exact⟨⟨_,_,_,rfl⟩,⟨_,_,_,rfl⟩⟩)) (by omega) (by omega) (by omega) (by have:=hS3.out.HB;have:=hS3.out.Hsz;simp;omega) _ rfl ?_
         intro g1 cap1 w3 hown1 hgrow1 hat1 hlt1
         have hU3:=Lib.hid (hS3.out.grown ((Below.refl _ _).alloc (Nat.le_refl _) _) hgrow1)
         refine hK.out _ _ ?_ ?_
         ·(try dsimp only);exact hU3.out.s3
         clear hK K hHeld;intro hHeld
         try simp only [Act.put,List.setIfInBounds_toArray,List.set_cons_zero,List.set_cons_succ]
         refine wpAnyH_take (i:=19) (oi:={ dst:=some 99,op:=Op.fieldAddr 32 (Operand.tmp 3) 2,type:=0,pos:= "tape.go:122",after:=#[{ on:=0,ground:=Ground.phase },{ on:=1,ground:=Ground.phase },{ on:=2,ground:=Ground.phase },{ on:=3,ground:=Ground.phase },{ on:=4,ground:=Ground.phase },{ on:=5,ground:=Ground.phase },{ on:=6,ground:=Ground.phase },{ on:=7,ground:=Ground.phase },{ on:=8,ground:=Ground.phase },{ on:=9,ground:=Ground.phase },{ on:=10,ground:=Ground.phase },{ on:=11,ground:=Ground.phase },{ on:=12,ground:=Ground.phase },{ on:=13,ground:=Ground.phase },{ on:=14,ground:=Ground.phase },{ on:=15,ground:=Ground.phase },{ on:=16,ground:=Ground.phase },{ on:=17,ground:=Ground.phase },{ on:=18,ground:=Ground.phase }],guard:=none }) (v:=?_) rfl (by kernel_rfl) (by kernel_rfl) (by kernel_rfl) (fun _ _ _ h=>h) (Or.inl ⟨by rfl,?_⟩) (by assumption) ?_
         rotate_left 1
         ·intro w hSw;(try dsimp only at hSw);go_simp <;> with_reducible rfl
         try simp only [Act.put,List.setIfInBounds_toArray,List.set_cons_zero,List.set_cons_succ]
         refine last_step (o:={ dst:=none,op:=Op.store 29 (Operand.tmp 99) (Operand.tmp 98),type:=0,pos:= "tape.go:122",after:=#[{ on:=19,ground:=Ground.data },{ on:=18,ground:=Ground.data },{ on:=18,ground:=Ground.chain },{ on:=0,ground:=Ground.phase },{ on:=1,ground:=Ground.phase },{ on:=2,ground:=Ground.phase },{ on:=3,ground:=Ground.phase },{ on:=4,ground:=Ground.phase },{ on:=5,ground:=Ground.phase },{ on:=6,ground:=Ground.phase },{ on:=7,ground:=Ground.phase },{ on:=8,ground:=Ground.phase },{ on:=9,ground:=Ground.phase },{ on:=10,ground:=Ground.phase },{ on:=11,ground:=Ground.phase },{ on:=12,ground:=Ground.phase },{ on:=13,ground:=Ground.phase },{ on:=14,ground:=Ground.phase },{ on:=15,ground:=Ground.phase },{ on:=16,ground:=Ground.phase },{ on:=17,ground:=Ground.phase },{ on:=18,ground:=Ground.phase }],guard:=none }) rfl (by kernel_rfl) (fun K hK=>?_)
         go_simp
         refine hK.out _ _ ?_
         clear hK K
         try simp only [Act.put,List.setIfInBounds_toArray,List.set_cons_zero,List.set_cons_succ]
         have hz:=hS1.out.Hsz
         have hHy:H≤wr0.heap.size:=hS.out.Hsz
         have hpB:=hS.out.un.pB
         have hBH:=hS.out.HB
         have q1:Sub2 H y1 (⟨0,2,X1,flat I1⟩,.slice la1 14 lc1,.slice ka1 (flat I1).length kc1):=hN1.out.base hHy
         have q1':=(q1.carry hcg2.out (fun b hb e=>by omega)).carry hcg3.out (fun b hb e=>by omega)
         have q2:Sub2 H y2 (⟨0,2,X2,flat I2⟩,.slice la2 14 lc2,.slice ka2 (flat I2).length kc2):=hN2.out.base (Nat.le_trans hHy hcg1.out.size)
         have q2':=q2.carry hcg3.out (fun b hb e=>by omega)
         have q3:Sub2 H y3 (⟨1,2,X3,flat I3⟩,.slice la3 14 lc3,.slice ka3 (flat I3).length kc3):=hN3.out.base (Nat.le_trans hHy (Nat.le_trans hcg1.out.size hcg2.out.size))
         have z1:=hcg1.out.size
         have z2:=hcg2.out.size
         have hlt:=fun b hb=>(hS.out.mr.row.lt b hb).2
         have z0:wr0.drew.heap.size=wr0.heap.size:=rfl
         have hP3:=Lib.hid (hS3.out.add (N:=[(⟨0,2,X1,flat I1⟩,.slice la1 14 lc1,.slice ka1 (flat I1).length kc1),(⟨0,2,X2,flat I2⟩,.slice la2 14 lc2,.slice ka2 (flat I2).length kc2),(⟨1,2,X3,flat I3⟩,.slice la3 14 lc3,.slice ka3 (flat I3).length kc3)]) (q:=3) rfl (by intro x hx;simp only [List.mem_cons,List.not_mem_nil,or_false] at hx;rcases hx with rfl | rfl | rfl;exact q1';exact q2';exact q3) (by intro x hx b hb;have hb':=hlt b hb;simp only [List.mem_cons,List.not_mem_nil,or_false] at hx;rcases hx with rfl | rfl | rfl;exact⟨fun e=>by have:=(hN1.out.l.lt b e).1;omega,fun e=>by have:=(hN1.out.c.lt b e).1;omega⟩;exact⟨fun e=>by have:=(hN2.out.l.lt b e).1;omega,fun e=>by have:=(hN2.out.c.lt b e).1;omega⟩;exact⟨fun e=>by have:=(hN3.out.l.lt b e).1;omega,fun e=>by have:=(hN3.out.c.lt b e).1;omega⟩) ((Below.refl _ _).alloc (Nat.le_refl _) _) hown1 hgrow1 (at_hat hat1) (meth3 _ _ _ ⟨rfl,rfl,hok1.out.1,I1,hok1.out.2,rfl⟩ ⟨rfl,rfl,hok2.out.1,I2,hok2.out.2,rfl⟩ ⟨rfl,rfl,hok3.out.1,I3,hok3.out.2,rfl⟩))
         clear hz hHy hown1 hgrow1 hat1 hlt1 q1 q1' q2 q2' q3 z1 z2 hlt
         go_wp2_with fail
         go_meet
         exact⟨_,_,_,hP3⟩
        exact AllReadyH.nil
       exact AllReadyH.nil
      exact AllReadyH.nil
     exact AllReadyH.nil
    exact AllReadyH.nil
   case rest =>
    clear hS
    obtain⟨a',cp',M,hS⟩:=hcut
    obtain⟨g,rfl⟩:=row_some hS.out.row (by omega)
    have hst3:=Lib.hid (P3.start hS.out)
    clear hS
    go_upto_block 4 with fail
    generalize wc.heap.size=H3 at *
    generalize hmv:(Value.slice a' 9 cp')=mv at *
    replace hmv:=Lib.hid hmv
    go_cut [] (fun wx=>∃ (T':List (ClassA × Value)),Hid (P3 w wB wx p n ad B (.slice (some ⟨Bn,0,none⟩) 6 6) g cp m T' H mv M H3 m 0))
    case first =>
     obtain⟨i0,hi0,hz0,hz1,hz2⟩:=info_parts infoBind
     have hmx:100000≤maxLen:=by decide
     go_wp2_with fail
     go_loopw [7] (fun i7 wr=>∃ (c:Nat) (T':List (ClassA × Value)),c≤m∧1≤c∧i7=.int .i64 c∧Hid (P3 w wB wr p n ad B (.slice (some ⟨Bn,0,none⟩) 6 6) g cp m T' H mv M H3 c 0)) (fun i7 _=>m - (intOf i7).toNat)
     case atStart=>exact⟨1,T,by omega,by omega,rfl,hst3⟩
     case round =>
      clear hst3
      obtain⟨c,T',hcm,hc1,rfl,hS⟩:=hrel
      have u1:=hS.out.un.c1
      by_cases hclt:c < m
      ·have hclt':(c:Int) < (m:Int):=by omega
       have hcl5:(c:Int) < 5:=by omega
       go_upto_block 6 with (first | (go_at_call 29;((with_reducible refine (names_c _).mono ?_);rintro e w3 ⟨rfl,hw3⟩;have hS3:=Lib.hid (hS.out.keep (by rw [hw3];exact (Below.refl _ _).alloc (Nat.le_refl _) _:Below wr.heap.size wr w3));clear hS hw3 u1)))
       go_wp2_with fail
       go_loopw [109] (fun i109 wr=>∃ (k:Nat) (T':List (ClassA × Value)),k≤6∧i109=.int .i64 k∧Hid (P3 w wB wr p n ad B (.slice (some ⟨Bn,0,none⟩) 6 6) g cp m T' H mv M H3 c k)) (fun i109 _=>6 - (intOf i109).toNat)
       case atStart=>exact⟨0,T',by omega,rfl,hS3⟩
       case round =>
        clear hS3
        obtain⟨k,T',hk,rfl,hS⟩:=hrel
        by_cases hk6:k < 6
        ·have hk6':(k:Int) < 6:=by omega
         go_wp2_with fail
         refine (next_c 3 (by omega) (by omega) hS.out.un.ks.tp).mono ?_
         rintro e w5 ⟨y,rfl,⟨y0,y1⟩,t1,c1⟩
         have hS5:=Lib.hid (hS.out.next t1 c1)
         clear hS t1 c1
         by_cases hy:0 < y
         ·obtain⟨⟨cx,bv⟩,hx⟩:∃ x,T'[c]?=some x:=⟨T'[c]'(by have:=hS5.out.len;omega),by simp⟩
          have hbd:=hS5.out.bnd c _ hx
          simp only at hbd
          have hbl:cx.binds.length≤6:=by have:=((hS5.out.don c _ hx).2.2.1 rfl).len;simp only at this;omega
          obtain⟨ba,bc,rfl⟩:=row_shape hbd
          obtain⟨bm,hbm⟩:∃ bm,bm=cx.binds.length:=⟨_,rfl⟩
          rw [← hbm] at hbd hbl hx
          replace hbm:=Lib.hid hbm.symm
          replace hbd:=Lib.hid (row_bel hbd (Below.refl _ _).drew)
          have hHs:Hid (H3≤w5.heap.size):=Lib.hid hS5.out.Hsz
          go_upto_region 24 with fail
          refine wp_region_last (d:=16) (fuel:=16) (S:=(fun wr=>wr.cell? ⟨B,1,none⟩=some (.slice (some ⟨g,0,none⟩) m cp)∧wr.cell? ⟨g,c*4+3,none⟩=some (.slice ba bm bc)∧wr.frozen? ⟨g,c*4+3,none⟩=false)) (by kernel_rfl) (by kernel_rfl) rfl ?_ (fun hHeld=>?_)
          ·(try dsimp only);exact (hS5.out.keep (Below.refl _ _).drew).s24 hx
          try simp only [Act.put,List.setIfInBounds_toArray,List.set_cons_zero,List.set_cons_succ]
          refine wpAnyH_take (i:=0) (oi:={ dst:=some 115,op:=Op.fieldAddr 32 (Operand.tmp 3) 1,type:=0,pos:= "tape.go:126",after:=#[],guard:=none }) (v:=?_) rfl (by kernel_rfl) (by kernel_rfl) (by kernel_rfl) (fun _ _ _ h=>h) (Or.inl ⟨by rfl,?_⟩) (by assumption) ?_
          rotate_left 1
          ·intro w hSw;(try dsimp only at hSw);go_simp <;> with_reducible rfl
          try simp only [Act.put,List.setIfInBounds_toArray,List.set_cons_zero,List.set_cons_succ]
          refine wpAnyH_take (i:=1) (oi:={ dst:=some 116,op:=Op.load 28 (Operand.tmp 115),type:=28,pos:= "tape.go:126",after:=#[{ on:=0,ground:=Ground.data }],guard:=none }) (v:=?_) rfl (by kernel_rfl) (by kernel_rfl) (by kernel_rfl) (fun _ _ _ h=>h) (Or.inl ⟨by rfl,?_⟩) (by assumption) ?_
          rotate_left 1
          ·intro w hSw;(try dsimp only at hSw);go_simp <;> with_reducible rfl
          try simp only [Act.put,List.setIfInBounds_toArray,List.set_cons_zero,List.set_cons_succ]
          refine wpAnyH_take (i:=2) (oi:={ dst:=some 117,op:=Op.move (Operand.tmp 7),type:=3,pos:= "tape.go:126",after:=#[],guard:=none }) (v:=?_) rfl (by kernel_rfl) (by kernel_rfl) (by kernel_rfl) (fun _ _ _ h=>h) (Or.inl ⟨by rfl,?_⟩) (by assumption) ?_
          rotate_left 1
          ·intro w hSw;(try dsimp only at hSw);go_simp <;> with_reducible rfl
          try simp only [Act.put,List.setIfInBounds_toArray,List.set_cons_zero,List.set_cons_succ]
          refine wpAnyH_take (i:=3) (oi:={ dst:=some 118,op:=Op.fieldAddr 32 (Operand.tmp 3) 1,type:=0,pos:= "tape.go:126",after:=#[],guard:=none }) (v:=?_) rfl (by kernel_rfl) (by kernel_rfl) (by kernel_rfl) (fun _ _ _ h=>h) (Or.inl ⟨by rfl,?_⟩) (by assumption) ?_
          rotate_left 1
          ·intro w hSw;(try dsimp only at hSw);go_simp <;> with_reducible rfl
          try simp only [Act.put,List.setIfInBounds_toArray,List.set_cons_zero,List.set_cons_succ]
          refine wpAnyH_take (i:=4) (oi:={ dst:=some 119,op:=Op.load 28 (Operand.tmp 118),type:=28,pos:= "tape.go:126",after:=#[{ on:=3,ground:=Ground.data }],guard:=none }) (v:=?_) rfl (by kernel_rfl) (by kernel_rfl) (by kernel_rfl) (fun _ _ _ h=>h) (Or.inl ⟨by rfl,?_⟩) (by assumption) ?_
          rotate_left 1
          ·intro w hSw;(try dsimp only at hSw);go_simp <;> with_reducible rfl
          try simp only [Act.put,List.setIfInBounds_toArray,List.set_cons_zero,List.set_cons_succ]
          refine wpAnyH_take (i:=5) (oi:={ dst:=some 120,op:=Op.move (Operand.tmp 7),type:=3,pos:= "tape.go:126",after:=#[],guard:=none }) (v:=?_) rfl (by kernel_rfl) (by kernel_rfl) (by kernel_rfl) (fun _ _ _ h=>h) (Or.inl ⟨by rfl,?_⟩) (by assumption) ?_
          rotate_left 1
          ·intro w hSw;(try dsimp only at hSw);go_simp <;> with_reducible rfl
          try simp only [Act.put,List.setIfInBounds_toArray,List.set_cons_zero,List.set_cons_succ]
          refine wpAnyH_take (i:=6) (oi:={ dst:=some 121,op:=Op.indexAddr 28 (Operand.tmp 119) (Operand.tmp 120),type:=0,pos:= "tape.go:126",after:=#[{ on:=4,ground:=Ground.data },{ on:=5,ground:=Ground.data }],guard:=none }) (v:=?_) rfl (by kernel_rfl) (by kernel_rfl) (by kernel_rfl) (fun _ _ _ h=>h) (Or.inl ⟨by rfl,?_⟩) (by assumption) ?_
          rotate_left 1
          ·intro w hSw;(try dsimp only at hSw);go_simp <;> with_reducible rfl
          try simp only [Act.put,List.setIfInBounds_toArray,List.set_cons_zero,List.set_cons_succ]
          refine wpAnyH_take (i:=7) (oi:={ dst:=some 122,op:=Op.fieldAddr 72 (Operand.tmp 121) 3,type:=0,pos:= "tape.go:126",after:=#[{ on:=6,ground:=Ground.data }],guard:=none }) (v:=?_) rfl (by kernel_rfl) (by kernel_rfl) (by kernel_rfl) (fun _ _ _ h=>h) (Or.inl ⟨by rfl,?_⟩) (by assumption) ?_
          rotate_left 1
          ·intro w hSw;(try dsimp only at hSw);go_simp <;> with_reducible rfl
          try simp only [Act.put,List.setIfInBounds_toArray,List.set_cons_zero,List.set_cons_succ]
          refine wpAnyH_take (i:=8) (oi:={ dst:=some 123,op:=Op.load 70 (Operand.tmp 122),type:=70,pos:= "tape.go:126",after:=#[{ on:=7,ground:=Ground.data }],guard:=none }) (v:=?_) rfl (by kernel_rfl) (by kernel_rfl) (by kernel_rfl) (fun _ _ _ h=>h) (Or.inl ⟨by rfl,?_⟩) (by assumption) ?_
          rotate_left 1
          ·intro w hSw;(try dsimp only at hSw);go_simp <;> with_reducible rfl
          try simp only [Act.put,List.setIfInBounds_toArray,List.set_cons_zero,List.set_cons_succ]
          refine wpAnyH_take (i:=9) (oi:={ dst:=some 124,op:=Op.move (Operand.tmp 8),type:=3,pos:= "tape.go:126",after:=#[],guard:=none }) (v:=?_) rfl (by kernel_rfl) (by kernel_rfl) (by kernel_rfl) (fun _ _ _ h=>h) (Or.inl ⟨by rfl,?_⟩) (by assumption) ?_
          rotate_left 1
          ·intro w hSw;(try dsimp only at hSw);go_simp <;> with_reducible rfl
          try simp only [Act.put,List.setIfInBounds_toArray,List.set_cons_zero,List.set_cons_succ]
          refine wpAnyH_take (i:=10) (oi:={ dst:=some 125,op:=Op.move (Operand.tmp 8),type:=3,pos:= "tape.go:126",after:=#[],guard:=none }) (v:=?_) rfl (by kernel_rfl) (by kernel_rfl) (by kernel_rfl) (fun _ _ _ h=>h) (Or.inl ⟨by rfl,?_⟩) (by assumption) ?_
          rotate_left 1
          ·intro w hSw;(try dsimp only at hSw);go_simp <;> with_reducible rfl
          try simp only [Act.put,List.setIfInBounds_toArray,List.set_cons_zero,List.set_cons_succ]
          refine wpAnyH_take (i:=11) (oi:={ dst:=some 126,op:=Op.build 78 #[(0,Operand.tmp 124),(1,Operand.tmp 125)],type:=78,pos:= "tape.go:126",after:=#[{ on:=9,ground:=Ground.data },{ on:=10,ground:=Ground.data }],guard:=none }) (v:=?_) rfl (by kernel_rfl) (by kernel_rfl) (by kernel_rfl) (fun _ _ _ h=>h) (Or.inl ⟨by rfl,?_⟩) (by assumption) ?_
          rotate_left 1
          ·intro w hSw;(try dsimp only at hSw);go_simp <;> with_reducible rfl
          try simp only [Act.put,List.setIfInBounds_toArray,List.set_cons_zero,List.set_cons_succ]
          refine wpAnyH_ready (rs:=[12]) (by kernel_rfl) (by simp) ?_
          refine AllReadyH.cons (o:={ dst:=some 127,op:=Op.buildSlice 70 1 #[(0,Operand.tmp 126)],type:=70,pos:= "tape.go:126",after:=#[{ on:=11,ground:=Ground.data }],guard:=none }) rfl (fun K hK=>?_) ?_
          ·go_simp
           refine hK.out _ _ ?_ ?_
           ·(try dsimp only);exact ((hS5.out.keep (Below.refl _ _).drew).keep ((Below.refl _ _).alloc (Nat.le_refl _) _)).s24 hx
           clear hK K hHeld;intro hHeld
           try simp only [Act.put,List.setIfInBounds_toArray,List.set_cons_zero,List.set_cons_succ]
           refine wpAnyH_ready (rs:=[13]) (by kernel_rfl) (by simp) ?_
           refine AllReadyH.cons (o:={ dst:=some 128,op:=Op.call { callee:=Callee.builtin Builtin.append,args:=#[Operand.tmp 123,Operand.tmp 127],argTypes:=#[70,70] },type:=70,pos:= "tape.go:126",after:=#[{ on:=8,ground:=Ground.data },{ on:=12,ground:=Ground.data }],guard:=none }) rfl (fun K hK=>?_) ?_
           ·refine step_append_lies _ rfl (.tmp 123) (.tmp 127) 70 rfl H3 78 i0 (.agg #[.int .i64 0,.int .i64 0]) 2 16 Tryz.underlying70 hi0 hz0 hz1 hz2 rfl (by decide) (.slice ba bm bc) bm _ rfl (hbd.out.alloc _) ⟨w5.drew.heap.size,0,none⟩ 1 1 (pr2 [((k:Int),(k:Int))]) rfl rfl (pair_at ((World.cell?_alloc_new _ _ _ 0).trans rfl) ((World.cell?_alloc_new _ _ _ 1).trans rfl)) (pr2_one _) (by omega) (by omega) (by omega) (by have:=hHs.out;simp;omega) _ rfl ?_
            intro g1 cap1 w6 hown1 hgrow1 hat1 hlt1
            have hU3:=Lib.hid (hS5.out.grown hx (((Below.refl _ _).drew).alloc (Nat.le_refl _) _) hgrow1)
            refine hK.out _ _ ?_ ?_
            ·(try dsimp only);exact⟨hU3.out.1.c1,(hU3.out.2.1.cellAt _ (by omega)).trans (cl4s_get T' c _ hx).2.2.2,hU3.out.2.1.frozenAt _⟩
            clear hK K hHeld;intro hHeld
            try simp only [Act.put,List.setIfInBounds_toArray,List.set_cons_zero,List.set_cons_succ]
            refine wpAnyH_take (i:=14) (oi:={ dst:=some 129,op:=Op.indexAddr 28 (Operand.tmp 116) (Operand.tmp 117),type:=0,pos:= "tape.go:126",after:=#[{ on:=1,ground:=Ground.data },{ on:=2,ground:=Ground.data },{ on:=0,ground:=Ground.phase },{ on:=1,ground:=Ground.phase },{ on:=2,ground:=Ground.phase },{ on:=3,ground:=Ground.phase },{ on:=4,ground:=Ground.phase },{ on:=5,ground:=Ground.phase },{ on:=6,ground:=Ground.phase },{ on:=7,ground:=Ground.phase },{ on:=8,ground:=Ground.phase },{ on:=9,ground:=Ground.phase },{ on:=10,ground:=Ground.phase },{ on:=11,ground:=Ground.phase },{ on:=12,ground:=Ground.phase },{ on:=13,ground:=Ground.phase }],guard:=none }) (v:=?_) rfl (by kernel_rfl) (by kernel_rfl) (by kernel_rfl) (fun _ _ _ h=>h) (Or.inl ⟨by rfl,?_⟩) (by assumption) ?_
            rotate_left 1
            ·intro w hSw;(try dsimp only at hSw);go_simp <;> with_reducible rfl
            try simp only [Act.put,List.setIfInBounds_toArray,List.set_cons_zero,List.set_cons_succ]
            refine wpAnyH_take (i:=15) (oi:={ dst:=some 130,op:=Op.fieldAddr 72 (Operand.tmp 129) 3,type:=0,pos:= "tape.go:126",after:=#[{ on:=14,ground:=Ground.data },{ on:=0,ground:=Ground.phase },{ on:=1,ground:=Ground.phase },{ on:=2,ground:=Ground.phase },{ on:=3,ground:=Ground.phase },{ on:=4,ground:=Ground.phase },{ on:=5,ground:=Ground.phase },{ on:=6,ground:=Ground.phase },{ on:=7,ground:=Ground.phase },{ on:=8,ground:=Ground.phase },{ on:=9,ground:=Ground.phase },{ on:=10,ground:=Ground.phase },{ on:=11,ground:=Ground.phase },{ on:=12,ground:=Ground.phase },{ on:=13,ground:=Ground.phase }],guard:=none }) (v:=?_) rfl (by kernel_rfl) (by kernel_rfl) (by kernel_rfl) (fun _ _ _ h=>h) (Or.inl ⟨by rfl,?_⟩) (by assumption) ?_
            rotate_left 1
            ·intro w hSw;(try dsimp only at hSw);go_simp <;> with_reducible rfl
            try simp only [Act.put,List.setIfInBounds_toArray,List.set_cons_zero,List.set_cons_succ]
            refine last_step (o:={ dst:=none,op:=Op.store 70 (Operand.tmp 130) (Operand.tmp 128),type:=0,pos:= "tape.go:126",after:=#[{ on:=15,ground:=Ground.data },{ on:=13,ground:=Ground.data },{ on:=13,ground:=Ground.chain },{ on:=0,ground:=Ground.phase },{ on:=1,ground:=Ground.phase },{ on:=2,ground:=Ground.phase },{ on:=3,ground:=Ground.phase },{ on:=4,ground:=Ground.phase },{ on:=5,ground:=Ground.phase },{ on:=6,ground:=Ground.phase },{ on:=7,ground:=Ground.phase },{ on:=8,ground:=Ground.phase },{ on:=9,ground:=Ground.phase },{ on:=10,ground:=Ground.phase },{ on:=11,ground:=Ground.phase },{ on:=12,ground:=Ground.phase },{ on:=13,ground:=Ground.phase }],guard:=none }) rfl (by kernel_rfl) (fun K hK=>?_)
            go_simp
            refine hK.out _ _ ?_
            clear hK K
            try simp only [Act.put,List.setIfInBounds_toArray,List.set_cons_zero,List.set_cons_succ]
            have hP3:=Lib.hid (hS5.out.add (by omega) hx (((Below.refl _ _).drew).alloc (Nat.le_refl _) _) (by rw [hbm.out];exact hown1) hgrow1 (at_hat hat1))
            clear hown1 hgrow1 hat1 hlt1 hU3 hHeld
            go_wp2_with fail
            go_roundw
            case rel=>exact⟨k+1,_,by omega,by go_num,hP3⟩
            case measure=>simp [intOf];omega
           exact AllReadyH.nil
          exact AllReadyH.nil
         ·have hS6:=Lib.hid hS5.out.skip
          go_wp2_with fail
          go_roundw
          case rel=>exact⟨k+1,T',by omega,by go_num,hS6⟩
          case measure=>simp [intOf];omega
        ·obtain rfl:k=6:=by omega
         have hS6:=Lib.hid (hS.out.over hc1)
         go_wp2_with fail
         go_roundw
         case rel=>exact⟨c+1,T',by omega,by omega,by go_num,hS6⟩
         case measure=>simp [intOf];omega
      ·obtain rfl:c=m:=by omega
       go_wp2_with fail
       go_meet
       exact⟨_,hS⟩
    case rest =>
     clear hst3
     obtain⟨T',hS⟩:=hcut
     go_wp2_with fail
     refine (next_c 5 (by omega) (by omega) hS.out.un.ks.tp).mono ?_
     rintro e w5 ⟨xn,rfl,⟨xn0,xn1⟩,t1,c1⟩
     have hS5:=Lib.hid (hS.out.next t1 c1)
     clear hS t1 c1
     obtain⟨N,hN⟩:∃ N:Nat,1+xn=(N:Int):=⟨(1+xn).toNat,by omega⟩
     have hN1:1≤N:=by omega
     have hN5:N≤5:=by omega
     have hwN:IntKind.i64.wrap (1+xn)=(N:Int):=by rw [IntKind.wrap_i64];omega
     clear hN xn0 xn1
     have hst4:=Lib.hid (P4.start N hS5.out)
     clear hS5
     go_upto_block 8 with fail
     generalize w5.heap.size=H4 at *
     go_cut [9] (fun v9 wx=>∃ (a:Option Addr) (cpo:Nat) (O:List (ObjA × Value)),Hid (P4 w wB wx p n ad B (.slice (some ⟨Bn,0,none⟩) 6 6) g cp m T' H mv M H3 H4 N (.slice a N cpo) N O))
     case first =>
      obtain⟨i0,hi0,hz0,hz1,hz2⟩:=info_parts infoVal
      obtain⟨i1,hi1,hy0,hy1,hy2⟩:=info_parts infoObj
      have hmx:100000≤maxLen:=by decide
      go_wp2_with fail
      go_loopw [10] (fun i10 wr=>∃ (k:Nat) (a:Option Addr) (cpo:Nat) (O:List (ObjA × Value)),k≤N∧i10=.int .i64 k∧Hid (P4 w wB wr p n ad B (.slice (some ⟨Bn,0,none⟩) 6 6) g cp m T' H mv M H3 H4 N (.slice a k cpo) k O)) (fun i10 _=>N - (intOf i10).toNat)
      case atStart=>exact⟨0,none,0,[],by omega,rfl,hst4⟩
      case round =>
       clear hst4
       obtain⟨k,a,cpo,O,hk,rfl,hS⟩:=hrel
       by_cases hkN:k < N
       ·have hkN':(k:Int) < (N:Int):=by omega
        have u1:=hS.out.un.c1
        have hwm:IntKind.i64.wrap ((m:Int) - 2)=(m:Int) - 2:=by rw [IntKind.wrap_i64];omega
        go_wp2_with fail
        refine (next_c ((m:Int) - 2) (by omega) (by omega) hS.out.un.ks.tp).mono ?_
        rintro e w6 ⟨x,rfl,⟨x0,x1⟩,t1,c1⟩
        have hS6:=Lib.hid (hS.out.next t1 c1)
        clear hS t1 c1 u1
        obtain⟨j,hj⟩:∃ j:Nat,2+x=(j:Int):=⟨(2+x).toNat,by omega⟩
        have hj2:2≤j:=by omega
        have hjm:j < m:=by omega
        have hjm':(j:Int) < (m:Int):=by omega
        have hwj:IntKind.i64.wrap (2+x)=(j:Int):=by rw [IntKind.wrap_i64];omega
        clear hj x0 x1
        have hQ:=Lib.hid (Q4.start (c:=(j:Int)) hS6.out rfl)
        obtain⟨⟨d,dv⟩,hd⟩:∃ x,T'[j]?=some x:=⟨T'[j]'(by have:=hS6.out.fin.len;omega),by simp⟩
        obtain⟨f0,f1⟩:=(hS6.out.fin.ok j _ hd).fld hj2
        simp only at f0 f1
        have rc:(w6.alloc (.cells #[.int .i64 (j:Int),.slice none 0 0] 66)).cell? ⟨g,j*4+2,none⟩=some (.int .i64 d.fields):=(hQ.out.p4.fin.row.cellAt (j*4+2) (by omega)).trans (cl4s_get T' j _ hd).2.2.1
        have u1:=hQ.out.p4.un.c1
        obtain⟨q0,hq0⟩:∃ q:Nat,d.fields=(q:Int):=⟨d.fields.toNat,by omega⟩
        have hq10:q0≤10:=by omega
        have hcl:Hid ((2≤(j:Int)∧∃ d,(T'.map (·.1))[(j:Int).toNat]?=some d∧(q0:Int)=d.fields)∨(0 < k∧(j:Int)=1∧q0≤8)):=Lib.hid (Or.inl ⟨by omega,d,by simp [hd],hq0.symm⟩)
        rw [hq0] at rc
        clear hS6 hd f0 f1 hq0
        go_upto_region 32 with fail
        generalize w6.alloc (.cells #[.int .i64 (j:Int),.slice none 0 0] 66)=w7 at *
        generalize w6.heap.size=D at *
        clear rc u1
        go_cut [161] (fun b wx=>∃ (c:Bool),b=.bool c∧Hid (c=true→0 < k)∧Hid (Q4 w wB wx p n ad B (.slice (some ⟨Bn,0,none⟩) 6 6) g cp m T' H mv M H3 H4 N (.slice a k cpo) k O D (j:Int) (.slice none 0 0) 0 []))
        case first =>
         by_cases hi0:0 < k
         ·have hi0':(0:Int) < (k:Int):=by omega
          go_wp2_with fail
          refine (next_c 3 (by omega) (by omega) hQ.out.p4.un.ks.tp).mono ?_
          rintro e w8 ⟨y,rfl,⟨y0,y1⟩,t1,c1⟩
          have hQ3:=Lib.hid (hQ.out.next t1 c1)
          by_cases hy:y=0
          ·subst hy
           go_wp2_with fail
           go_meet
           exact⟨true,rfl,Lib.hid (fun _=>hi0),hQ3⟩
          ·have hy':(y == 0)=false:=by simpa using hy
           go_wp2_with fail
           go_meet
           exact⟨false,rfl,Lib.hid (fun h=>by cases h),hQ3⟩
         ·have hi0':¬ (0:Int) < (k:Int):=by omega
          go_wp2_with fail
          go_meet
          exact⟨false,rfl,Lib.hid (fun h=>by cases h),hQ⟩
        case rest =>
         clear hQ
         obtain⟨b,rfl,hb,hQ⟩:=hcut
         go_upto_if 161 with fail
         go_cut [12] (fun v12 wx=>∃ (c:Int) (q:Nat),v12=.int .i64 q∧q≤10∧Hid ((2≤c∧∃ d,(T'.map (·.1))[c.toNat]?=some d∧(q:Int)=d.fields)∨(0 < k∧c=1∧q≤8))∧Hid (Q4 w wB wx p n ad B (.slice (some ⟨Bn,0,none⟩) 6 6) g cp m T' H mv M H3 H4 N (.slice a k cpo) k O D c (.slice none 0 0) 0 []))
         case first =>
          cases b with
          | false =>
           go_wp2_with fail
           go_meet
           exact⟨_,q0,rfl,hq10,hcl,hQ⟩
          | true =>
           go_wp2_with fail
           refine (next_c 9 (by omega) (by omega) hQ.out.p4.un.ks.tp).mono ?_
           rintro e w8 ⟨y,rfl,⟨y0,y1⟩,t1,c1⟩
           have hQ3:=Lib.hid (hQ.out.next t1 c1)
           have d0:=hQ3.out.d0
           have dz:=hQ3.out.dz 0
           have hQ4:=Lib.hid (hQ3.out.setc 1)
           go_wp2_with fail
           go_meet
           exact⟨1,y.toNat,by rw [show ((y.toNat:Nat):Int)=y by omega],by omega,Lib.hid (Or.inr ⟨hb.out (by simp),rfl,by omega⟩),hQ4⟩
         case rest =>
          clear hQ hcl hb
          obtain⟨c,q,rfl,hq,hcl,hQ⟩:=hcut
          go_upto_block 10 with fail
          go_cut [] (fun wx=>∃ (fa:Option Addr) (fc:Nat) (F:List (Int × Int)),Hid (Q4 w wB wx p n ad B (.slice (some ⟨Bn,0,none⟩) 6 6) g cp m T' H mv M H3 H4 N (.slice a k cpo) k O D c (.slice fa q fc) q F))
          case first =>
           go_wp2_with fail
           go_loopw [12] (fun i12 wr=>∃ (kk:Nat) (fa:Option Addr) (f fc:Nat) (F:List (Int × Int)),kk+f≤20∧i12=.int .i64 kk∧Hid (f+kk=q)∧Hid (Q4 w wB wr p n ad B (.slice (some ⟨Bn,0,none⟩) 6 6) g cp m T' H mv M H3 H4 N (.slice a k cpo) k O D c (.slice fa f fc) f F)) (fun i12 _=>(intOf i12).toNat)
           case atStart=>exact⟨q,none,0,0,[],by omega,rfl,Lib.hid (by omega),hQ⟩
           case round =>
            clear hQ
            obtain⟨kk,fa,f,fc,F,hkf,rfl,hfk,hQ⟩:=hrel
            by_cases hk0:0 < kk
            ·have hk0':(0:Int) < (kk:Int):=by omega
             have hwk:IntKind.i64.wrap ((kk:Int) - 1)=(kk:Int) - 1:=by rw [IntKind.wrap_i64];omega
             go_upto_region 36 with fail
             refine wp_region_last (d:=21) (fuel:=21) (S:=(fun wr=>wr.cell? ⟨D,1,none⟩=some (.slice fa f fc)∧wr.frozen? ⟨D,1,none⟩=false)) (by kernel_rfl) (by kernel_rfl) rfl ?_ (fun hHeld=>?_)
             ·(try dsimp only);exact (hQ.out.keep (Below.refl _ _).drew).s36
             try simp only [Act.put,List.setIfInBounds_toArray,List.set_cons_zero,List.set_cons_succ]
             refine wpAnyH_take (i:=0) (oi:={ dst:=some 169,op:=Op.fieldAddr 66 (Operand.tmp 11) 1,type:=0,pos:= "tape.go:138",after:=#[],guard:=none }) (v:=?_) rfl (by kernel_rfl) (by kernel_rfl) (by kernel_rfl) (fun _ _ _ h=>h) (Or.inl ⟨by rfl,?_⟩) (by assumption) ?_
             rotate_left 1
             ·intro w hSw;(try dsimp only at hSw);go_simp <;> with_reducible rfl
             try simp only [Act.put,List.setIfInBounds_toArray,List.set_cons_zero,List.set_cons_succ]
             refine wpAnyH_take (i:=1) (oi:={ dst:=some 170,op:=Op.load 64 (Operand.tmp 169),type:=64,pos:= "tape.go:138",after:=#[{ on:=0,ground:=Ground.data }],guard:=none }) (v:=?_) rfl (by kernel_rfl) (by kernel_rfl) (by kernel_rfl) (fun _ _ _ h=>h) (Or.inl ⟨by rfl,?_⟩) (by assumption) ?_
             rotate_left 1
             ·intro w hSw;(try dsimp only at hSw);go_simp <;> with_reducible rfl
             try simp only [Act.put,List.setIfInBounds_toArray,List.set_cons_zero,List.set_cons_succ]
             refine wpAnyH_take (i:=2) (oi:={ dst:=some 171,op:=Op.build 80 #[],type:=80,pos:= "tape.go:138",after:=#[],guard:=none }) (v:=?_) rfl (by kernel_rfl) (by kernel_rfl) (by kernel_rfl) (fun _ _ _ h=>h) (Or.inl ⟨by rfl,?_⟩) (by assumption) ?_
             rotate_left 1
             ·intro w hSw;(try dsimp only at hSw);go_simp <;> with_reducible rfl
             try simp only [Act.put,List.setIfInBounds_toArray,List.set_cons_zero,List.set_cons_succ]
             refine wpAnyH_take (i:=3) (oi:={ dst:=some 172,op:=Op.build 80 #[(0,Operand.const (Value.int IntKind.i64 1))],type:=80,pos:= "tape.go:138",after:=#[],guard:=none }) (v:=?_) rfl (by kernel_rfl) (by kernel_rfl) (by kernel_rfl) (fun _ _ _ h=>h) (Or.inl ⟨by rfl,?_⟩) (by assumption) ?_
             rotate_left 1
             ·intro w hSw;(try dsimp only at hSw);go_simp <;> with_reducible rfl
             try simp only [Act.put,List.setIfInBounds_toArray,List.set_cons_zero,List.set_cons_succ]
             refine wpAnyH_take (i:=4) (oi:={ dst:=some 173,op:=Op.build 80 #[(0,Operand.const (Value.int IntKind.i64 2))],type:=80,pos:= "tape.go:138",after:=#[],guard:=none }) (v:=?_) rfl (by kernel_rfl) (by kernel_rfl) (by kernel_rfl) (fun _ _ _ h=>h) (Or.inl ⟨by rfl,?_⟩) (by assumption) ?_
             rotate_left 1
             ·intro w hSw;(try dsimp only at hSw);go_simp <;> with_reducible rfl
             try simp only [Act.put,List.setIfInBounds_toArray,List.set_cons_zero,List.set_cons_succ]
             refine wpAnyH_take (i:=5) (oi:={ dst:=some 174,op:=Op.move (Operand.tmp 0),type:=33,pos:= "tape.go:138",after:=#[],guard:=none }) (v:=?_) rfl (by kernel_rfl) (by kernel_rfl) (by kernel_rfl) (fun _ _ _ h=>h) (Or.inl ⟨by rfl,?_⟩) (by assumption) ?_
             rotate_left 1
             ·intro w hSw;(try dsimp only at hSw);go_simp <;> with_reducible rfl
             try simp only [Act.put,List.setIfInBounds_toArray,List.set_cons_zero,List.set_cons_succ]
             refine wpAnyH_take (i:=9) (oi:={ dst:=some 178,op:=Op.move (Operand.tmp 0),type:=33,pos:= "tape.go:138",after:=#[],guard:=none }) (v:=?_) rfl (by kernel_rfl) (by kernel_rfl) (by kernel_rfl) (fun _ _ _ h=>h) (Or.inl ⟨by rfl,?_⟩) (by assumption) ?_
             rotate_left 1
             ·intro w hSw;(try dsimp only at hSw);go_simp <;> with_reducible rfl
             try simp only [Act.put,List.setIfInBounds_toArray,List.set_cons_zero,List.set_cons_succ]
             refine wpAnyH_take (i:=10) (oi:={ dst:=some 179,op:=Op.move (Operand.tmp 9),type:=3,pos:= "tape.go:138",after:=#[],guard:=none }) (v:=?_) rfl (by kernel_rfl) (by kernel_rfl) (by kernel_rfl) (fun _ _ _ h=>h) (Or.inl ⟨by rfl,?_⟩) (by assumption) ?_
             rotate_left 1
             ·intro w hSw;(try dsimp only at hSw);go_simp <;> with_reducible rfl
             try simp only [Act.put,List.setIfInBounds_toArray,List.set_cons_zero,List.set_cons_succ]
             refine wpAnyH_take (i:=14) (oi:={ dst:=some 183,op:=Op.move (Operand.tmp 0),type:=33,pos:= "tape.go:138",after:=#[],guard:=none }) (v:=?_) rfl (by kernel_rfl) (by kernel_rfl) (by kernel_rfl) (fun _ _ _ h=>h) (Or.inl ⟨by rfl,?_⟩) (by assumption) ?_
             rotate_left 1
             ·intro w hSw;(try dsimp only at hSw);go_simp <;> with_reducible rfl
             try simp only [Act.put,List.setIfInBounds_toArray,List.set_cons_zero,List.set_cons_succ]
             refine wpAnyH_ready (rs:=[6]) (by kernel_rfl) (by simp) ?_
             refine AllReadyH.cons (o:={ dst:=some 175,op:=Op.call { callee:=Callee.value (Operand.func 30),args:=#[Operand.tmp 174,Operand.const (Value.int IntKind.i64 900)],argTypes:=#[33,3] },type:=3,pos:= "tape.go:138",after:=#[{ on:=5,ground:=Ground.data }],guard:=none }) rfl (fun K hK=>?_) ?_
             ·go_simp
              with_reducible refine (next_c 900 (by omega) (by omega) (hQ.out.keep (Below.refl _ _).drew).p4.un.ks.tp).mono ?_
              rintro e y1 ⟨x1,rfl,⟨x10,x11⟩,t1,c1⟩
              have hQ1:=Lib.hid ((hQ.out.keep (Below.refl _ _).drew).next t1 c1)
              have hwx:IntKind.i64.wrap (x1 - 400)=x1 - 400:=by rw [IntKind.wrap_i64];omega
              clear t1 c1
              go_wp2_with fail
              refine hK.out _ _ ?_ ?_
              ·(try dsimp only);exact hQ1.out.s36
              clear hK K hHeld;intro hHeld
              try simp only [Act.put,List.setIfInBounds_toArray,List.set_cons_zero,List.set_cons_succ]
              refine wpAnyH_take (i:=7) (oi:={ dst:=some 176,op:=Op.binOp BinOp.sub 3 (Operand.tmp 175) (Operand.const (Value.int IntKind.i64 400)) 3,type:=3,pos:= "tape.go:138",after:=#[{ on:=6,ground:=Ground.data }],guard:=none }) (v:=?_) rfl (by kernel_rfl) (by kernel_rfl) (by kernel_rfl) (fun _ _ _ h=>h) (Or.inl ⟨by rfl,?_⟩) (by assumption) ?_
              rotate_left 1
              ·intro w hSw;(try dsimp only at hSw);go_simp <;> with_reducible rfl
              try simp only [Act.put,List.setIfInBounds_toArray,List.set_cons_zero,List.set_cons_succ]
              refine wpAnyH_take (i:=8) (oi:={ dst:=some 177,op:=Op.build 80 #[(0,Operand.const (Value.int IntKind.i64 3)),(1,Operand.tmp 176)],type:=80,pos:= "tape.go:138",after:=#[{ on:=7,ground:=Ground.data }],guard:=none }) (v:=?_) rfl (by kernel_rfl) (by kernel_rfl) (by kernel_rfl) (fun _ _ _ h=>h) (Or.inl ⟨by rfl,?_⟩) (by assumption) ?_
              rotate_left 1
              ·intro w hSw;(try dsimp only at hSw);go_simp <;> with_reducible rfl
              try simp only [Act.put,List.setIfInBounds_toArray,List.set_cons_zero,List.set_cons_succ]
              refine wpAnyH_ready (rs:=[11]) (by kernel_rfl) (by simp) ?_
              refine AllReadyH.cons (o:={ dst:=some 180,op:=Op.call { callee:=Callee.value (Operand.func 30),args:=#[Operand.tmp 178,Operand.tmp 179],argTypes:=#[33,3] },type:=3,pos:= "tape.go:138",after:=#[{ on:=9,ground:=Ground.data },{ on:=10,ground:=Ground.data },{ on:=6,ground:=Ground.chain }],guard:=none }) rfl (fun K hK=>?_) ?_
              ·go_simp
               with_reducible refine (next_c (N:Int) (by omega) (by omega) hQ1.out.p4.un.ks.tp).mono ?_
               rintro e y2 ⟨x2,rfl,⟨x20,x21⟩,t1,c1⟩
               have hQ2:=Lib.hid (hQ1.out.next t1 c1)
               clear t1 c1
               go_wp2_with fail
               refine hK.out _ _ ?_ ?_
               ·(try dsimp only);exact hQ2.out.s36
               clear hK K hHeld;intro hHeld
               try simp only [Act.put,List.setIfInBounds_toArray,List.set_cons_zero,List.set_cons_succ]
               refine wpAnyH_take (i:=12) (oi:={ dst:=some 181,op:=Op.build 80 #[(0,Operand.const (Value.int IntKind.i64 4)),(1,Operand.tmp 180)],type:=80,pos:= "tape.go:138",after:=#[{ on:=11,ground:=Ground.data }],guard:=none }) (v:=?_) rfl (by kernel_rfl) (by kernel_rfl) (by kernel_rfl) (fun _ _ _ h=>h) (Or.inl ⟨by rfl,?_⟩) (by assumption) ?_
               rotate_left 1
               ·intro w hSw;(try dsimp only at hSw);go_simp <;> with_reducible rfl
               try simp only [Act.put,List.setIfInBounds_toArray,List.set_cons_zero,List.set_cons_succ]
               refine wpAnyH_ready (rs:=[13,15]) (by kernel_rfl) (by simp) ?_
               refine AllReadyH.cons (o:={ dst:=some 182,op:=Op.buildSlice 64 5 #[(0,Operand.tmp 171),(1,Operand.tmp 172),(2,Operand.tmp 173),(3,Operand.tmp 177),(4,Operand.tmp 181)],type:=64,pos:= "tape.go:138",after:=#[{ on:=2,ground:=Ground.data },{ on:=3,ground:=Ground.data },{ on:=4,ground:=Ground.data },{ on:=8,ground:=Ground.data },{ on:=12,ground:=Ground.data }],guard:=none }) rfl (fun K hK=>?_) ?_
               ·go_simp
                refine hK.out _ _ ?_ ?_
                ·(try dsimp only);exact (hQ2.out.keep ((Below.refl _ _).alloc (Nat.le_refl _) _)).s36
                clear hK K hHeld;intro hHeld
                try simp only [Act.put,List.setIfInBounds_toArray,List.set_cons_zero,List.set_cons_succ]
                refine wpAnyH_ready (rs:=[15]) (by kernel_rfl) (by simp) ?_
                refine AllReadyH.cons (o:={ dst:=some 184,op:=Op.call { callee:=Callee.value (Operand.func 30),args:=#[Operand.tmp 183,Operand.const (Value.int IntKind.i64 5)],argTypes:=#[33,3] },type:=3,pos:= "tape.go:138",after:=#[{ on:=14,ground:=Ground.data },{ on:=11,ground:=Ground.chain }],guard:=none }) rfl (fun K hK=>?_) ?_
                ·go_simp
                 with_reducible refine (next_c 5 (by omega) (by omega) (hQ2.out.keep ((Below.refl _ _).alloc (Nat.le_refl _) _)).p4.un.ks.tp).mono ?_
                 rintro e y3 ⟨x3,rfl,⟨x30,x31⟩,t1,c1⟩
                 have hQ3:=Lib.hid ((hQ2.out.keep ((Below.refl _ _).alloc (Nat.le_refl _) _)).next t1 c1)
                 obtain⟨j,rfl⟩:∃ j:Nat,x3=(j:Int):=⟨x3.toNat,by omega⟩
                 have hj:j < 5:=by omega
                 have hqb:=born5 y2 (x1 - 400) x2 hj
                 have hcb:=c1.block y2.heap.size (by simp) (by have:=hQ2.out.p4.un.ks.p0;have:=hQ2.out.p4.un.ks.cg.size;omega)
                 have hq0:=(World.cell?_of_block (a:=⟨y2.heap.size,j*2,none⟩) hcb).trans hqb.1
                 have hq1:=(World.cell?_of_block (a:=⟨y2.heap.size,j*2+1,none⟩) hcb).trans hqb.2
                 clear hqb hcb
                 have hvo:=Lib.hid (sel5_ok (N:=N) (x:=x1 - 400) (z:=x2) ⟨by omega,by omega⟩ ⟨x20,x21⟩ j hj)
                 generalize hsel:sel5 (x1 - 400) x2 j=q at *
                 clear hsel
                 obtain⟨q1,q2⟩:=q
                 simp only at hq0 hq1
                 clear t1 c1
                 go_wp2_with fail
                 refine hK.out _ _ ?_ ?_
                 ·(try dsimp only);exact hQ3.out.s36
                 clear hK K hHeld;intro hHeld
                 try simp only [Act.put,List.setIfInBounds_toArray,List.set_cons_zero,List.set_cons_succ]
                 refine wpAnyH_take (i:=16) (oi:={ dst:=some 185,op:=Op.indexAddr 64 (Operand.tmp 182) (Operand.tmp 184),type:=0,pos:= "tape.go:138",after:=#[{ on:=13,ground:=Ground.data },{ on:=15,ground:=Ground.data }],guard:=none }) (v:=?_) rfl (by kernel_rfl) (by kernel_rfl) (by kernel_rfl) (fun _ _ _ h=>h) (Or.inl ⟨by rfl,?_⟩) (by assumption) ?_
                 rotate_left 1
                 ·intro w hSw;(try dsimp only at hSw);go_simp <;> with_reducible rfl
                 try simp only [Act.put,List.setIfInBounds_toArray,List.set_cons_zero,List.set_cons_succ]
                 refine wpAnyH_ready (rs:=[17]) (by kernel_rfl) (by simp) ?_
                 refine AllReadyH.cons (o:={ dst:=some 186,op:=Op.load 80 (Operand.tmp 185),type:=80,pos:= "tape.go:138",after:=#[{ on:=16,ground:=Ground.data }],guard:=none }) rfl (fun K hK=>?_) ?_
                 ·go_simp
                  refine hK.out _ _ ?_ ?_
                  ·(try dsimp only);exact hQ3.out.s36
                  clear hK K hHeld;intro hHeld
                  try simp only [Act.put,List.setIfInBounds_toArray,List.set_cons_zero,List.set_cons_succ]
                  refine wpAnyH_ready (rs:=[18]) (by kernel_rfl) (by simp) ?_
                  refine AllReadyH.cons (o:={ dst:=some 187,op:=Op.buildSlice 64 1 #[(0,Operand.tmp 186)],type:=64,pos:= "tape.go:138",after:=#[{ on:=17,ground:=Ground.data }],guard:=none }) rfl (fun K hK=>?_) ?_
                  ·go_simp
                   refine hK.out _ _ ?_ ?_
                   ·(try dsimp only);exact (hQ3.out.keep ((Below.refl _ _).alloc (Nat.le_refl _) _)).s36
                   clear hK K hHeld;intro hHeld
                   try simp only [Act.put,List.setIfInBounds_toArray,List.set_cons_zero,List.set_cons_succ]
                   refine wpAnyH_ready (rs:=[19]) (by kernel_rfl) (by simp) ?_
                   refine AllReadyH.cons (o:={ dst:=some 188,op:=Op.call { callee:=Callee.builtin Builtin.append,args:=#[Operand.tmp 170,Operand.tmp 187],argTypes:=#[64,64] },type:=64,pos:= "tape.go:138",after:=#[{ on:=1,ground:=Ground.data },{ on:=18,ground:=Ground.data },{ on:=15,ground:=Ground.chain }],guard:=none }) rfl (fun K hK=>?_) ?_
                   ·refine step_append_lies _ rfl (.tmp 170) (.tmp 187) 64 rfl H4 80 i0 (.agg #[.int .i64 0,.int .i64 0]) 2 16 Tryz.underlying64 hi0 hz0 hz1 hz2 rfl (by decide) (.slice fa f fc) f _ rfl (hQ3.out.fr.alloc _) ⟨y3.heap.size,0,none⟩ 1 1 (pr2 [(q1,q2)]) rfl rfl (pair_at ((World.cell?_alloc_new _ _ _ 0).trans rfl) ((World.cell?_alloc_new _ _ _ 1).trans rfl)) (pr2_one _) (by omega) (by omega) (by omega) (by have:=hQ3.out.p4.Hsz;simp;omega) _ rfl ?_
                    intro g1 cap1 w6 hown1 hgrow1 hat1 hlt1
                    have hG:=hQ3.out.g36 ((Below.refl y3.heap.size y3).alloc (Nat.le_refl _) _) hgrow1
                    have hQn:=Lib.hid (hQ3.out.app hvo.out ((Below.refl y3.heap.size y3).alloc (Nat.le_refl _) _) hown1 hgrow1 (at_hat hat1))
                    refine hK.out _ _ ?_ ?_
                    ·(try dsimp only);exact hG
                    clear hK K hHeld;intro hHeld
                    try simp only [Act.put,List.setIfInBounds_toArray,List.set_cons_zero,List.set_cons_succ]
                    refine wpAnyH_take (i:=20) (oi:={ dst:=some 189,op:=Op.fieldAddr 66 (Operand.tmp 11) 1,type:=0,pos:= "tape.go:138",after:=#[{ on:=0,ground:=Ground.phase },{ on:=1,ground:=Ground.phase },{ on:=2,ground:=Ground.phase },{ on:=3,ground:=Ground.phase },{ on:=4,ground:=Ground.phase },{ on:=5,ground:=Ground.phase },{ on:=6,ground:=Ground.phase },{ on:=7,ground:=Ground.phase },{ on:=8,ground:=Ground.phase },{ on:=9,ground:=Ground.phase },{ on:=10,ground:=Ground.phase },{ on:=11,ground:=Ground.phase },{ on:=12,ground:=Ground.phase },{ on:=13,ground:=Ground.phase },{ on:=14,ground:=Ground.phase },{ on:=15,ground:=Ground.phase },{ on:=16,ground:=Ground.phase },{ on:=17,ground:=Ground.phase },{ on:=18,ground:=Ground.phase },{ on:=19,ground:=Ground.phase }],guard:=none }) (v:=?_) rfl (by kernel_rfl) (by kernel_rfl) (by kernel_rfl) (fun _ _ _ h=>h) (Or.inl ⟨by rfl,?_⟩) (by assumption) ?_
                    rotate_left 1
                    ·intro w hSw;(try dsimp only at hSw);go_simp <;> with_reducible rfl
                    try simp only [Act.put,List.setIfInBounds_toArray,List.set_cons_zero,List.set_cons_succ]
                    refine last_step (o:={ dst:=none,op:=Op.store 64 (Operand.tmp 189) (Operand.tmp 188),type:=0,pos:= "tape.go:138",after:=#[{ on:=20,ground:=Ground.data },{ on:=19,ground:=Ground.data },{ on:=19,ground:=Ground.chain },{ on:=0,ground:=Ground.phase },{ on:=1,ground:=Ground.phase },{ on:=2,ground:=Ground.phase },{ on:=3,ground:=Ground.phase },{ on:=4,ground:=Ground.phase },{ on:=5,ground:=Ground.phase },{ on:=6,ground:=Ground.phase },{ on:=7,ground:=Ground.phase },{ on:=8,ground:=Ground.phase },{ on:=9,ground:=Ground.phase },{ on:=10,ground:=Ground.phase },{ on:=11,ground:=Ground.phase },{ on:=12,ground:=Ground.phase },{ on:=13,ground:=Ground.phase },{ on:=14,ground:=Ground.phase },{ on:=15,ground:=Ground.phase },{ on:=16,ground:=Ground.phase },{ on:=17,ground:=Ground.phase },{ on:=18,ground:=Ground.phase },{ on:=19,ground:=Ground.phase }],guard:=none }) rfl (by kernel_rfl) (fun K hK=>?_)
                    go_simp
                    refine hK.out _ _ ?_
                    clear hK K
                    try simp only [Act.put,List.setIfInBounds_toArray,List.set_cons_zero,List.set_cons_succ]
                    clear hown1 hgrow1 hat1 hlt1 hG hHeld
                    go_wp2_with fail
                    go_roundw
                    case rel=>exact⟨kk - 1,_,_,_,_,by omega,by rw [show ((kk - 1:Nat):Int)=(kk:Int) - 1 by omega],Lib.hid (by have:=hfk.out;omega),hQn⟩
                    case measure=>simp [intOf];omega
                   exact AllReadyH.nil
                  exact AllReadyH.nil
                 exact AllReadyH.nil
                exact AllReadyH.nil
               refine AllReadyH.cons (o:={ dst:=some 184,op:=Op.call { callee:=Callee.value (Operand.func 30),args:=#[Operand.tmp 183,Operand.const (Value.int IntKind.i64 5)],argTypes:=#[33,3] },type:=3,pos:= "tape.go:138",after:=#[{ on:=14,ground:=Ground.data },{ on:=11,ground:=Ground.chain }],guard:=none }) rfl (fun K hK=>?_) ?_
               ·go_simp
                with_reducible refine (next_c 5 (by omega) (by omega) hQ2.out.p4.un.ks.tp).mono ?_
                rintro e y3 ⟨x3,rfl,⟨x30,x31⟩,t1,c1⟩
                have hQ3:=Lib.hid (hQ2.out.next t1 c1)
                obtain⟨j,rfl⟩:∃ j:Nat,x3=(j:Int):=⟨x3.toNat,by omega⟩
                have hj:j < 5:=by omega
                obtain⟨hq0,hq1⟩:=born5 y3 (x1 - 400) x2 hj
                have hvo:=Lib.hid (sel5_ok (N:=N) (x:=x1 - 400) (z:=x2) ⟨by omega,by omega⟩ ⟨x20,x21⟩ j hj)
                generalize hsel:sel5 (x1 - 400) x2 j=q at *
                clear hsel
                obtain⟨q1,q2⟩:=q
                simp only at hq0 hq1
                clear t1 c1
                go_wp2_with fail
                refine hK.out _ _ ?_ ?_
                ·(try dsimp only);exact hQ3.out.s36
                clear hK K hHeld;intro hHeld
                try simp only [Act.put,List.setIfInBounds_toArray,List.set_cons_zero,List.set_cons_succ]
                refine wpAnyH_ready (rs:=[13]) (by kernel_rfl) (by simp) ?_
                refine AllReadyH.cons (o:={ dst:=some 182,op:=Op.buildSlice 64 5 #[(0,Operand.tmp 171),(1,Operand.tmp 172),(2,Operand.tmp 173),(3,Operand.tmp 177),(4,Operand.tmp 181)],type:=64,pos:= "tape.go:138",after:=#[{ on:=2,ground:=Ground.data },{ on:=3,ground:=Ground.data },{ on:=4,ground:=Ground.data },{ on:=8,ground:=Ground.data },{ on:=12,ground:=Ground.data }],guard:=none }) rfl (fun K hK=>?_) ?_
                ·go_simp
                 refine hK.out _ _ ?_ ?_
                 ·(try dsimp only);exact (hQ3.out.keep ((Below.refl _ _).alloc (Nat.le_refl _) _)).s36
                 clear hK K hHeld;intro hHeld
                 try simp only [Act.put,List.setIfInBounds_toArray,List.set_cons_zero,List.set_cons_succ]
                 refine wpAnyH_take (i:=16) (oi:={ dst:=some 185,op:=Op.indexAddr 64 (Operand.tmp 182) (Operand.tmp 184),type:=0,pos:= "tape.go:138",after:=#[{ on:=13,ground:=Ground.data },{ on:=15,ground:=Ground.data }],guard:=none }) (v:=?_) rfl (by kernel_rfl) (by kernel_rfl) (by kernel_rfl) (fun _ _ _ h=>h) (Or.inl ⟨by rfl,?_⟩) (by assumption) ?_
                 rotate_left 1
                 ·intro w hSw;(try dsimp only at hSw);go_simp <;> with_reducible rfl
                 try simp only [Act.put,List.setIfInBounds_toArray,List.set_cons_zero,List.set_cons_succ]
                 refine wpAnyH_ready (rs:=[17]) (by kernel_rfl) (by simp) ?_
                 refine AllReadyH.cons (o:={ dst:=some 186,op:=Op.load 80 (Operand.tmp 185),type:=80,pos:= "tape.go:138",after:=#[{ on:=16,ground:=Ground.data }],guard:=none }) rfl (fun K hK=>?_) ?_
                 ·go_simp
                  refine hK.out _ _ ?_ ?_
                  ·(try dsimp only);exact (hQ3.out.keep ((Below.refl _ _).alloc (Nat.le_refl _) _)).s36
                  clear hK K hHeld;intro hHeld
                  try simp only [Act.put,List.setIfInBounds_toArray,List.set_cons_zero,List.set_cons_succ]
                  refine wpAnyH_ready (rs:=[18]) (by kernel_rfl) (by simp) ?_
                  refine AllReadyH.cons (o:={ dst:=some 187,op:=Op.buildSlice 64 1 #[(0,Operand.tmp 186)],type:=64,pos:= "tape.go:138",after:=#[{ on:=17,ground:=Ground.data }],guard:=none }) rfl (fun K hK=>?_) ?_
                  ·go_simp
                   refine hK.out _ _ ?_ ?_
                   ·(try dsimp only);exact (hQ3.out.keep (((Below.refl _ _).alloc (Nat.le_refl _) _).alloc (by simp) _)).s36
                   clear hK K hHeld;intro hHeld
                   try simp only [Act.put,List.setIfInBounds_toArray,List.set_cons_zero,List.set_cons_succ]
                   refine wpAnyH_ready (rs:=[19]) (by kernel_rfl) (by simp) ?_
                   refine AllReadyH.cons (o:={ dst:=some 188,op:=Op.call { callee:=Callee.builtin Builtin.append,args:=#[Operand.tmp 170,Operand.tmp 187],argTypes:=#[64,64] },type:=64,pos:= "tape.go:138",after:=#[{ on:=1,ground:=Ground.data },{ on:=18,ground:=Ground.data },{ on:=15,ground:=Ground.chain }],guard:=none }) rfl (fun K hK=>?_) ?_
                   ·refine step_append_lies _ rfl (.tmp 170) (.tmp 187) 64 rfl H4 80 i0 (.agg #[.int .i64 0,.int .i64 0]) 2 16 Tryz.underlying64 hi0 hz0 hz1 hz2 rfl (by decide) (.slice fa f fc) f _ rfl ((hQ3.out.keep ((Below.refl _ _).alloc (Nat.le_refl _) _)).fr.alloc _) ⟨(y3.alloc (.cells #[.int .i64 0,.int .i64 0,.int .i64 1,.int .i64 0,.int .i64 2,.int .i64 0,.int .i64 3,.int .i64 (x1 - 400),.int .i64 4,.int .i64 x2] 80)).heap.size,0,none⟩ 1 1 (pr2 [(q1,q2)]) (by simp [Act.eval]) rfl (pair_at ((World.cell?_alloc_new _ _ _ 0).trans rfl) ((World.cell?_alloc_new _ _ _ 1).trans rfl)) (pr2_one _) (by omega) (by omega) (by omega) (by have:=hQ3.out.p4.Hsz;simp;omega) _ rfl ?_
                    intro g1 cap1 w6 hown1 hgrow1 hat1 hlt1
                    have hG:=(hQ3.out.keep ((Below.refl _ _).alloc (Nat.le_refl _) _)).g36 ((Below.refl (y3.alloc (.cells #[.int .i64 0,.int .i64 0,.int .i64 1,.int .i64 0,.int .i64 2,.int .i64 0,.int .i64 3,.int .i64 (x1 - 400),.int .i64 4,.int .i64 x2] 80)).heap.size (y3.alloc (.cells #[.int .i64 0,.int .i64 0,.int .i64 1,.int .i64 0,.int .i64 2,.int .i64 0,.int .i64 3,.int .i64 (x1 - 400),.int .i64 4,.int .i64 x2] 80))).alloc (Nat.le_refl _) _) hgrow1
                    have hQn:=Lib.hid ((hQ3.out.keep ((Below.refl _ _).alloc (Nat.le_refl _) _)).app hvo.out ((Below.refl (y3.alloc (.cells #[.int .i64 0,.int .i64 0,.int .i64 1,.int .i64 0,.int .i64 2,.int .i64 0,.int .i64 3,.int .i64 (x1 - 400),.int .i64 4,.int .i64 x2] 80)).heap.size (y3.alloc (.cells #[.int .i64 0,.int .i64 0,.int .i64 1,.int .i64 0,.int .i64 2,.int .i64 0,.int .i64 3,.int .i64 (x1 - 400),.int .i64 4,.int .i64 x2] 80))).alloc (Nat.le_refl _) _) hown1 hgrow1 (at_hat hat1))
                    refine hK.out _ _ ?_ ?_
                    ·(try dsimp only);exact hG
                    clear hK K hHeld;intro hHeld
                    try simp only [Act.put,List.setIfInBounds_toArray,List.set_cons_zero,List.set_cons_succ]
                    refine wpAnyH_take (i:=20) (oi:={ dst:=some 189,op:=Op.fieldAddr 66 (Operand.tmp 11) 1,type:=0,pos:= "tape.go:138",after:=#[{ on:=0,ground:=Ground.phase },{ on:=1,ground:=Ground.phase },{ on:=2,ground:=Ground.phase },{ on:=3,ground:=Ground.phase },{ on:=4,ground:=Ground.phase },{ on:=5,ground:=Ground.phase },{ on:=6,ground:=Ground.phase },{ on:=7,ground:=Ground.phase },{ on:=8,ground:=Ground.phase },{ on:=9,ground:=Ground.phase },{ on:=10,ground:=Ground.phase },{ on:=11,ground:=Ground.phase },{ on:=12,ground:=Ground.phase },{ on:=13,ground:=Ground.phase },{ on:=14,ground:=Ground.phase },{ on:=15,ground:=Ground.phase },{ on:=16,ground:=Ground.phase },{ on:=17,ground:=Ground.phase },{ on:=18,ground:=Ground.phase },{ on:=19,ground:=Ground.phase }],guard:=none }) (v:=?_) rfl (by kernel_rfl) (by kernel_rfl) (by kernel_rfl) (fun _ _ _ h=>h) (Or.inl ⟨by rfl,?_⟩) (by assumption) ?_
                    rotate_left 1
                    ·intro w hSw;(try dsimp only at hSw);go_simp <;> with_reducible rfl
                    try simp only [Act.put,List.setIfInBounds_toArray,List.set_cons_zero,List.set_cons_succ]
                    refine last_step (o:={ dst:=none,op:=Op.store 64 (Operand.tmp 189) (Operand.tmp 188),type:=0,pos:= "tape.go:138",after:=#[{ on:=20,ground:=Ground.data },{ on:=19,ground:=Ground.data },{ on:=19,ground:=Ground.chain },{ on:=0,ground:=Ground.phase },{ on:=1,ground:=Ground.phase },{ on:=2,ground:=Ground.phase },{ on:=3,ground:=Ground.phase },{ on:=4,ground:=Ground.phase },{ on:=5,ground:=Ground.phase },{ on:=6,ground:=Ground.phase },{ on:=7,ground:=Ground.phase },{ on:=8,ground:=Ground.phase },{ on:=9,ground:=Ground.phase },{ on:=10,ground:=Ground.phase },{ on:=11,ground:=Ground.phase },{ on:=12,ground:=Ground.phase },{ on:=13,ground:=Ground.phase },{ on:=14,ground:=Ground.phase },{ on:=15,ground:=Ground.phase },{ on:=16,ground:=Ground.phase },{ on:=17,ground:=Ground.phase },{ on:=18,ground:=Ground.phase },{ on:=19,ground:=Ground.phase }],guard:=none }) rfl (by kernel_rfl) (fun K hK=>?_)
                    go_simp
                    refine hK.out _ _ ?_
                    clear hK K
                    try simp only [Act.put,List.setIfInBounds_toArray,List.set_cons_zero,List.set_cons_succ]
                    clear hown1 hgrow1 hat1 hlt1 hG hHeld
                    go_wp2_with fail
                    go_roundw
                    case rel=>exact⟨kk - 1,_,_,_,_,by omega,by rw [show ((kk - 1:Nat):Int)=(kk:Int) - 1 by omega],Lib.hid (by have:=hfk.out;omega),hQn⟩
                    case measure=>simp [intOf];omega
                   exact AllReadyH.nil
                  exact AllReadyH.nil
                 exact AllReadyH.nil
                exact AllReadyH.nil
               exact AllReadyH.nil
              exact AllReadyH.nil
             exact AllReadyH.nil
            ·obtain rfl:kk=0:=by omega
             obtain rfl:f=q:=by have:=hfk.out;omega
             go_wp2_with fail
             go_meet
             exact⟨fa,fc,F,hQ⟩
          case rest =>
           clear hQ
           obtain⟨fa,fc,F,hQ⟩:=hcut
           have d0:=hQ.out.d0
           have d1:=hQ.out.d1
           have u3:=hQ.out.p4.un.c3
           have hcd:=Lib.hid hQ.out.p4.row
           have hsz:Hid (H4≤wc.heap.size):=Lib.hid hQ.out.p4.Hsz
           have hok:Hid (objOk (T'.map (·.1)) N k ⟨c,F⟩):=Lib.hid ⟨by have:=hcl.out;have hfl:=hQ.out.fl;rw [hfl] at this;exact this,hQ.out.fo⟩
           go_wp2_with (first | (at_builtin;refine wpList_append_lies _ rfl (.tmp 191) (.tmp 193) 30 rfl H4 66 i1 (.agg #[.int .i64 0,.slice none 0 0]) 2 32 Tryz.underlying30 hi1 hy0 hy1 hy2 rfl (by decide) (.slice a k cpo) k _ (by simp [Act.eval]) (hcd.out.alloc _) ⟨wc.heap.size,0,none⟩ 1 1 (ob2s [(⟨c,F⟩,.slice fa q fc)]) (by simp [Act.eval]) (by simp [ob2s]) (World.news_of_block (alloc_at _ _ _ rfl)) (ob2s_one _ (by intro x hx;rw [List.mem_singleton.1 hx];exact⟨_,_,_,rfl⟩)) (by omega) (by omega) (by omega) (by have:=hsz.out;simp;omega) _ rfl ?_;intro g1 cap1 w9 hown1 hgrow1 hat1 hlt1;have hU3:=(hQ.out.un37 ((Below.refl _ wc).alloc (Nat.le_refl _) _) hgrow1).1;have u33:=hU3.c3;have uz3:=hU3.z 3;have hPn:=Lib.hid (hQ.out.add hok.out ((Below.refl _ wc).alloc (Nat.le_refl _) _) hown1 hgrow1 (at_hat hat1));clear hU3 hown1 hgrow1 hat1 hlt1))
           go_roundw
           case rel=>exact⟨k+1,_,_,_,by omega,by go_num,hPn⟩
           case measure=>simp [intOf];omega
       ·obtain rfl:k=N:=by omega
        go_wp2_with fail
        go_meet
        exact⟨_,_,_,hS⟩
     case rest =>
      clear hst4
      obtain⟨a,cpo,O,hS⟩:=hcut
      have hmv':=hmv.out
      subst hmv'
      have hh:wc.heap[w.heap.size]?=some (.cells #[.slice none 0 0,.slice none 0 0,.slice none 0 0,.slice none 0 0,.int .i64 0] 32 (0,0)):=(hS.out.un.cg.block w.heap.size (by have:=hS.out.un.bs;have:=hBn'.out;have:=hBB'.out;omega) (by have:=hS.out.un.ks.p0;have:=hBn'.out;have:=hBB'.out;omega)).trans e0.out
      have k0:=hS.out.un.c0
      have k1:=hS.out.un.c1
      have k2:=hS.out.un.c2
      have k3:=hS.out.un.c3
      have k4:=hS.out.un.c4
      have b0:=cell_in (k:=0) hh rfl
      have b1:=cell_in (k:=1) hh rfl
      have b2:=cell_in (k:=2) hh rfl
      have b3:=cell_in (k:=3) hh rfl
      have b4:=cell_in (k:=4) hh rfl
      have z0:=loose_in (k:=0) hh
      have z1:=loose_in (k:=1) hh
      have z2:=loose_in (k:=2) hh
      have z3:=loose_in (k:=3) hh
      have z4:=loose_in (k:=4) hh
      clear hh
      obtain⟨r0,r1,r2,r3,r4⟩:=set5_at (v0:=.slice (some ⟨Bn,0,none⟩) 6 6) (v1:=.slice (some ⟨g,0,none⟩) m cp) (v2:=.slice a' 9 cp') (v3:=.slice a N cpo) (v4:=.int .i64 6) b0 b1 b2 b3 b4
      go_wp2
      refine bodyPost_ret (by simp [results,Tryz.results9,go_sem,r0,r1,r2,r3,r4];try rfl) rfl ?_
      obtain⟨U,h1,h2,h3,h4,h5⟩:=hS.out.done hm.out hN1 hN5 e1.out hBn'.out hBB'.out (set5_cg wc w.heap.size (.slice (some ⟨Bn,0,none⟩) 6 6) (.slice (some ⟨g,0,none⟩) m cp) (.slice a' 9 cp') (.slice a N cpo) (.int .i64 6))
      exact⟨_,_,_,_,rfl,U,h1,h2,h3,h4,h5⟩
end Wd
end Go.Proofs.YteiejjmhmmkdhaaGreat
