/- Texts joined: YL, TRef, TOps, TZero, MRef, MFirst, MColor, MShade, MFlip, MNew, EGood, EPure, EMap, ELeaf, ERef, ERead, EShade, EOps, EApp, EPut, EAlloc, EScan, EFlip, ENew, ELaw. -/
import Derived.Test.YteiejjmhmmkdhaaGreatJ1
import Derived.Test.YteiejjmhmmkdhaaGreatJ8
import Derived.Test.YteiejjmhmmkdhaaGreatJ14
import Derived.StillTailTactics
import Derived.BigRegion
import Derived.OpenShut
import Derived.Deep.RegionHeld3
import Derived.Maps.Own
import Derived.Maps.OwnOps
import Derived.Maps.OwnSet
import Derived.DeepKeys4
import Derived.LoopN
import Derived.Laws.BitsAllLaws
/- The document's own Load, the walk. -/
namespace Go.Proofs.YteiejjmhmmkdhaaGreat
open Go.RowKit
set_option linter.unusedVariables false
set_option maxRecDepth 20000
namespace Wd
section
variable {b:Nat} {w0 w1 wr w' w2:World} {F0 F F':Nat→Prop}
theorem szN8 (S:List Ob8) (O:List ObjA) (p:Nat):∀ k,(stA idealM S O k).1.length≤S.length+k:=(idealK p).szN S O
set_option maxHeartbeats 64000000 in
theorem rload_c {w:World} {u:Value} {U:UnitA} {S:List Ob8} (hu:UnK w1 u U) (hb:Below w1.heap.size w1 w) (ho:ObsOk U.objects) (hP:PD b w S F0) (hF0:∀ k,F0 k→w1.heap.size≤k) (hs:S.length≤500) :
  Calls Tryz.prog 21 #[pV b,u] w fun e w'=>∃ iv F',e=.returned iv∧PD b w' (ldS idealM S U.objects) F'∧w'.ownsRow 0 3 1 iv U.objects.length (ints (ldI idealM S U.objects))∧Cg F0 w w'∧(∀ k,F' k→F0 k∨w.heap.size≤k)∧∀ k,iv.ownBlock=some k→¬ F' k∧w.heap.size≤k:=by
 obtain⟨na,nc,ca,cc,ma,mc,oa,oc,rfl,hS⟩:=hu.ex
 have hbF:Hid (∀ w',Cg F0 w w'→Below w1.heap.size w1 w'):=Lib.hid (fun w' c=>hb.trans (c.toB hb.size hF0))
 have hob:=Lib.hid (fun (k:Nat) (x:ObjA) (hx:U.objects[k]?=some x)=>hS.o.at hx)
 have hI:=Lib.hid (LdR.begin (oa:=oa) (n:=U.objects.length) (oc:=oc) (a:=.cells #[.slice na U.names.length nc,.slice ca U.classes.length cc,.slice ma U.methods.length mc,.slice oa U.objects.length oc,.int .i64 U.main] 32) hP rfl)
 have h1000:=ho.len
 clear hu hS
 generalize U.names.length=l1 at *
 generalize U.classes.length=l2 at *
 generalize U.methods.length=l3 at *
 generalize U.main=mm at *
 generalize hl4:U.objects.length=l4 at *
 rw [show ldS idealM S U.objects=stO idealM (stA idealM S U.objects l4).1 (stA idealM S U.objects l4).2 U.objects l4 by unfold ldS ldI;rw [hl4],show ldI idealM S U.objects=(stA idealM S U.objects l4).2 by unfold ldI;rw [hl4]]
 go_enter Tryz.func21,Tryz.ntmps21
 go_upto_region 1 with fail
 generalize w.alloc (.cells #[.slice na l1 nc,.slice ca l2 cc,.slice ma l3 mc,.slice oa l4 oc,.int .i64 mm] 32)=W at *
 have b3:=hI.out.b3
 obtain⟨i0,hi0,hz0,hz1,hz2⟩:=infoP8 infoI8
 go_wp2
 clear b3
 go_loopw [5,15] (fun v5 i wr=>∃ (k:Nat) (iv:Value) (F:Nat→Prop),k≤l4∧v5=iv∧i=.int .i64 k∧Hid (LdR b w F0 oa l4 oc wr iv (stA idealM S U.objects k).1 F (stA idealM S U.objects k).2)) (fun _ i _=>l4 - (intOf i).toNat)
 case atStart=>exact⟨0,_,F0,by omega,rfl,rfl,hI⟩
 case round =>
  clear hI
  obtain⟨k,iv,F,hk,rfl,rfl,hI⟩:=hrel
  obtain⟨ai,ci,e,_⟩:=own_form hI.out.own
  rw [stA_len] at e
  subst e
  by_cases hlt:k < l4
  ·as_aux_lemma =>
   have hlt':decide ((k:Int) < (l4:Int))=true:=by simp;omega
   have p1:(k:Int) < (l4:Int):=by omega
   obtain⟨x,hx⟩:∃ x,U.objects[k]?=some x:=⟨U.objects[k]'(by omega),by simp⟩
   obtain⟨i1,g,off,fv,rfl,d0,d1,pf⟩:=hob.out k x hx
   obtain⟨fa,fc,rfl,_,_⟩:=pf.form
   replace d0:=cell_up (hbF.out wr hI.out.cg) d0
   replace d1:=cell_up (hbF.out wr hI.out.cg) d1
   have hsz:=Lib.hid (Nat.le_trans (szN8 S U.objects b k) (show S.length+k≤10000 by omega))
   have hI3:=Lib.hid (hI.out.up ((Below.refl _ _).alloc (Nat.le_refl _) (.cells #[.int .i64 x.cls,.slice fa x.flds.length fc] 66)))
   have h62:=(okA_cases x.cls (x.flds.length:Int)).elim (fun h=>h.2.2.2.2.1) (fun h=>by have:=ho.ok x (List.mem_of_getElem? hx);rcases h with h | h <;> rw [h.1] at this <;> cases this)
   have PA:=Lib.hid (pd_alloc x.cls (x.flds.length:Int) hI3.out.st hsz.out i1 ⟨by omega,by omega⟩)
   have hss:=Lib.hid (stA_succ idealM (S:=S) hx)
   have hle:=Lib.hid (stA_len idealM S U.objects k)
   have z0:(wr.alloc (.cells #[.int .i64 x.cls,.slice fa x.flds.length fc] 66)).cell? ⟨wr.heap.size,0,none⟩=some (.int .i64 x.cls):=World.cell?_alloc_new _ _ _ 0
   have z1:(wr.alloc (.cells #[.int .i64 x.cls,.slice fa x.flds.length fc] 66)).cell? ⟨wr.heap.size,1,none⟩=some (.slice fa x.flds.length fc):=World.cell?_alloc_new _ _ _ 1
   have hmx:Hid (k+1≤maxLen):=Lib.hid (by simp only [maxLen];omega)
   have hbx:Hid ((k+1)*8≤140737488355328):=Lib.hid (by omega)
   clear hx pf i1 h62 hI hob ho hP hb hs hF0
   generalize (stA idealM S U.objects k).2=is at *
   generalize (stA idealM S U.objects k).1=Tk at *
   rw [show idealM.ai=alI from rfl] at hss
   rw [show idealM.al=alL from rfl] at hss
   generalize alI Tk x.cls (x.flds.length:Int)=id at *
   go_upto_region 5 with fail
   generalize wr.alloc (.cells #[.int .i64 x.cls,.slice fa x.flds.length fc] 66)=W3 at *
   generalize wr.heap.size=q3 at *
   clear d0 d1
   go_wp2_with (first | (go_at_call 18;refine (PA.out).mono ?_;rintro e w5 ⟨rfl,F2,hP5,hc5,hn5⟩;have hI5:=Lib.hid (hI3.out.stp hP5 hc5 hn5);have hown5:=Lib.hid (own_same hI5.out.own (w':=w5.alloc (.cells #[.int .i64 id] 3)) (fun k hk=>Below.heap_alloc _ _ _ (own_lt hI5.out.own k hk)) (by simp));(rw [hle.out] at hown5);clear PA hI3 hP5 hc5 hn5 z0 z1) | (at_builtin;refine wpList_app_any rfl (.tmp 19) (.tmp 27) 34 rfl 0 3 i0 (.int .i64 0) 1 8 Tryz.underlying34 hi0 hz0 hz1 hz2 rfl (by decide) (.slice ai k ci) (.slice (some ⟨w5.heap.size,0,none⟩) 1 1) k 1 (ints is) [.int .i64 id] (by simp [Act.eval]) (by simp [Act.eval]) hown5.out (rd_one _ _ _) rfl (by simp [Value.oneCell']) hmx.out hbx.out (Nat.zero_le _) ?_;intro v9 w9 hown9 hg9 hat9;have hI9:=Lib.hid (hI5.out.app (by rw [hle.out];exact hown9) hg9 hat9);clear hown9 hg9 hat9))
   go_roundw
   case rel=>exact⟨k+1,_,F2,by omega,rfl,by go_num,by rw [hss.out];exact hI9⟩
   case measure=>simp [intOf];omega
  ·have e:k=l4:=by omega
   subst e
   have hd:decide ((k:Int) < (k:Int))=false:=by simp
   have b3:=hI.out.b3
   have hil:(stA idealM S U.objects k).2.length=k:=stA_len idealM S U.objects k
   have hi64:=Lib.hid ((idealK b).ids64 S U.objects hs k (by omega))
   have hsz:=Lib.hid (Nat.le_trans (szN8 S U.objects b k) (show S.length+k≤2000 by omega))
   generalize hids:(stA idealM S U.objects k).2=ids at *
   generalize hT0:(stA idealM S U.objects k).1=T0 at *
   replace hids:=Lib.hid hids
   replace hT0:=Lib.hid hT0
   clear hi0 hz0 hz1 hz2
   go_wp2
   clear b3
   go_loopw [33] (fun i wr=>∃ (j:Nat) (F:Nat→Prop),j≤k∧i=.int .i64 j∧Hid (LdR b w F0 oa k oc wr (.slice ai k ci) (stO idealM T0 ids U.objects j) F ids)) (fun i _=>k - (intOf i).toNat)
   case atStart=>exact⟨0,F,by omega,rfl,hI⟩
   case round =>
    clear hI
    obtain⟨j,F,hj,rfl,hI⟩:=hrel
    by_cases hlt2:j < k
    ·as_aux_lemma =>
     have hlt':decide ((j:Int) < (k:Int))=true:=by simp;omega
     have p1:(j:Int) < (k:Int):=by omega
     obtain⟨x,hx⟩:∃ x,U.objects[j]?=some x:=⟨U.objects[j]'(by omega),by simp⟩
     obtain⟨i1,g,off,fv,rfl,d0,d1,pf⟩:=hob.out j x hx
     obtain⟨fa,fc,rfl,_,_⟩:=pf.form
     replace d0:=cell_up (hbF.out wr hI.out.cg) d0
     replace d1:=cell_up (hbF.out wr hI.out.cg) d1
     have hjl:j < ids.length:=by omega
     have hidx:ids[j]?=some ids[j]:=by simp
     have h64:=Lib.hid (hi64.out ids[j] (by simp))
     have hxm:=List.mem_of_getElem? hx
     have h62:x.flds.length≤62:=(okA_cases x.cls (x.flds.length:Int)).elim (fun h=>by have:=h.2.2.2.2.1;omega) (fun h=>by have:=ho.ok x hxm;rcases h with h | h <;> rw [h.1] at this <;> cases this)
     have hrf:=Lib.hid (ho.ref x hxm)
     have hso:=Lib.hid (stO_succ idealM (S:=T0) (ids:=ids) hx hidx)
     have hI3:=Lib.hid (hI.out.up ((Below.refl _ _).alloc (Nat.le_refl _) (.cells #[.int .i64 x.cls,.slice fa x.flds.length fc] 66)))
     have hs2:=Lib.hid (Nat.le_trans ((idealK b).szO T0 ids U.objects j) hsz.out)
     have hpf:=Lib.hid (fun (W:World) (c:Cg F0 w W)=>pf.up (hbF.out W c))
     have z1:(wr.alloc (.cells #[.int .i64 x.cls,.slice fa x.flds.length fc] 66)).cell? ⟨wr.heap.size,1,none⟩=some (.slice fa x.flds.length fc):=World.cell?_alloc_new _ _ _ 1
     have hown3:=hI3.out.own
     obtain⟨gi,rfl,hci⟩:∃ gi,ai=some ⟨gi,0,none⟩∧Hid (∀ (W:World),W.ownsRow 0 3 1 (.slice (some ⟨gi,0,none⟩) k ci) ids.length (ints ids)→W.cell? ⟨gi,j,none⟩=some (.int .i64 ids[j])):=by
      rcases hown3.2 with ⟨_,e2⟩ | ⟨gi,cap',cur,e,_⟩
      ·omega
      ·cases e
       exact⟨gi,rfl,Lib.hid (fun W h=>own_cell h (by simp [ints]))⟩
     clear hown3
     clear hx pf i1 hI hob ho hP hb hs hF0 hxm hidx
     generalize ids[j]=id at *
     go_upto_region 10 with fail
     generalize wr.alloc (.cells #[.int .i64 x.cls,.slice fa x.flds.length fc] 66)=W3 at *
     generalize wr.heap.size=q3 at *
     clear d0 d1
     generalize hT1:stO idealM T0 ids U.objects j=T1 at *
     generalize hfl:x.flds.length=fl at *
     go_wp2
     go_loopw [41] (fun i wr=>∃ (m:Nat) (F:Nat→Prop),m≤fl∧i=.int .i64 m∧Hid (LdR b w F0 (some ⟨g,off,none⟩) k oc wr (.slice (some ⟨gi,0,none⟩) k ci) (stF idealM T1 ids id x.flds m) F ids)) (fun i _=>fl - (intOf i).toNat)
     case atStart=>exact⟨0,F,by omega,rfl,hI3⟩
     case round =>
      clear hI3
      obtain⟨m,F,hm,rfl,hI⟩:=hrel
      by_cases hlt3:m < fl
      ·as_aux_lemma =>
       have hlt4:decide ((m:Int) < (fl:Int))=true:=by simp;omega
       have p2:(m:Int) < (fl:Int):=by omega
       obtain⟨y,hy⟩:∃ y,x.flds[m]?=some y:=⟨x.flds[m]'(by omega),by simp⟩
       obtain⟨y1,y2⟩:=y
       obtain⟨i1,i2,g2,off2,rfl,d0,d1⟩:=(hpf.out wr hI.out.cg).at hy
       have hI5:=Lib.hid (hI.out.up ((Below.refl _ _).alloc (Nat.le_refl _) (.cells #[.int .i64 y1,.int .i64 y2] 80)))
       have PW:=Lib.hid (fun (W:World) (g:Below (wr.alloc (.cells #[.int .i64 y1,.int .i64 y2] 80)).heap.size (wr.alloc (.cells #[.int .i64 y1,.int .i64 y2] 80)) W)=>value8_c (k:=y1) (x:=y2) (a:=some ⟨gi,0,none⟩) (n:=k) (c:=ci) (ids:=ids) (w:=W) (by have:=(hI5.out.up g).own;rw [hil] at this;exact this) (fun e=>hrf.out (y1,y2) (List.mem_of_getElem? hy) e |>.imp_right (fun h=>by omega)))
       have PQ:=Lib.hid (fun (W:World) (g:Below (wr.alloc (.cells #[.int .i64 y1,.int .i64 y2] 80)).heap.size (wr.alloc (.cells #[.int .i64 y1,.int .i64 y2] 80)) W)=>pd_put id (m:Int) (valW (y1,y2) ids) (hI5.out.up g).st (Nat.le_trans (Nat.le_trans ((idealK b).szF T1 ids id x.flds m) hs2.out) (by omega)) h64.out ⟨by omega,by omega⟩ (valW_bd _ _))
       have hN:=Lib.hid (fun (W W':World) (gg:Below (wr.alloc (.cells #[.int .i64 y1,.int .i64 y2] 80)).heap.size (wr.alloc (.cells #[.int .i64 y1,.int .i64 y2] 80)) W) (hP:PD b W' (puL (stF idealM T1 ids id x.flds m) id (m:Int) (valW (y1,y2) ids)) F) (c:Cg F W W')=>(show LdR b w F0 (some ⟨g,off,none⟩) k oc W' (.slice (some ⟨gi,0,none⟩) k ci) (stF idealM T1 ids id x.flds (m+1)) F ids from by rw [stF_succ idealM hy];exact (hI5.out.up gg).stp hP c (fun q hq=>Or.inl hq)))
       have hcI:=Lib.hid (fun (W:World) (T:List Ob8) (F:Nat→Prop) (h:LdR b w F0 (some ⟨g,off,none⟩) k oc W (.slice (some ⟨gi,0,none⟩) k ci) T F ids)=>hci.out W h.own)
       have z0:(wr.alloc (.cells #[.int .i64 y1,.int .i64 y2] 80)).cell? ⟨wr.heap.size,0,none⟩=some (.int .i64 y1):=World.cell?_alloc_new _ _ _ 0
       have z2:(wr.alloc (.cells #[.int .i64 y1,.int .i64 y2] 80)).cell? ⟨wr.heap.size,1,none⟩=some (.int .i64 y2):=World.cell?_alloc_new _ _ _ 1
       have zi:=hcI.out _ _ _ hI5.out
       have hqF:=Lib.hid (show ¬ F wr.heap.size from fun e=>by have:=hI.out.st.lt _ e;omega)
       have hq5:=Lib.hid (show wr.heap.size < (wr.alloc (.cells #[.int .i64 y1,.int .i64 y2] 80)).heap.size by simp)
       clear hy hI hpf hrf hci
       go_upto_region 13 with fail
       generalize wr.alloc (.cells #[.int .i64 y1,.int .i64 y2] 80)=W5 at *
       generalize wr.heap.size=q5 at *
       clear d0 d1
       refine wp_region_held_drew (S:=(fun wr'=>wr'.cell? ⟨q5,0,none⟩=some (.int .i64 y1)∧wr'.cell? ⟨q5,1,none⟩=some (.int .i64 y2)∧wr'.cell? ⟨gi,j,none⟩=some (.int .i64 id))) (by kernel_rfl) ?_ (fun hHeld=>?_)
       ·(try dsimp only);exact⟨z0,z2,zi⟩
       try simp only [Act.put,nA]
       refine tk (i:=0) (oi:=⟨some 46,.move (.tmp 0),44,"ref.go:95",#[],none⟩) (hy:=by intro w hSw;(try dsimp only at hSw);obtain⟨q0,q1,q2⟩:=hSw;go_simp <;> with_reducible rfl) ?_
       try simp only [Act.put,nA]
       refine tk (i:=1) (oi:=⟨some 47,.move (.tmp 5),34,"ref.go:95",#[],none⟩) (hy:=by intro w hSw;(try dsimp only at hSw);obtain⟨q0,q1,q2⟩:=hSw;go_simp <;> with_reducible rfl) ?_
       try simp only [Act.put,nA]
       refine tk (i:=2) (oi:=⟨some 48,.move (.tmp 8),3,"ref.go:95",#[],none⟩) (hy:=by intro w hSw;(try dsimp only at hSw);obtain⟨q0,q1,q2⟩:=hSw;go_simp <;> with_reducible rfl) ?_
       try simp only [Act.put,nA]
       refine tk (i:=3) (oi:=⟨some 49,.indexAddr 34 (.tmp 47) (.tmp 48),0,"ref.go:95",#[⟨1,.data⟩,⟨2,.data⟩],none⟩) (hy:=by intro w hSw;(try dsimp only at hSw);obtain⟨q0,q1,q2⟩:=hSw;go_simp <;> with_reducible rfl) ?_
       try simp only [Act.put,nA]
       refine tk (i:=4) (oi:=⟨some 50,.load 3 (.tmp 49),3,"ref.go:95",#[⟨3,.data⟩],none⟩) (hy:=by intro w hSw;(try dsimp only at hSw);obtain⟨q0,q1,q2⟩:=hSw;go_simp <;> with_reducible rfl) ?_
       try simp only [Act.put,nA]
       refine tk (i:=5) (oi:=⟨some 51,.move (.tmp 10),3,"ref.go:95",#[],none⟩) (hy:=by intro w hSw;(try dsimp only at hSw);obtain⟨q0,q1,q2⟩:=hSw;go_simp <;> with_reducible rfl) ?_
       try simp only [Act.put,nA]
       refine tk (i:=6) (oi:=⟨some 52,.load 80 (.tmp 11),80,"ref.go:95",#[],none⟩) (hy:=by intro w hSw;(try dsimp only at hSw);obtain⟨q0,q1,q2⟩:=hSw;go_simp <;> with_reducible rfl) ?_
       try simp only [Act.put,nA]
       refine tk (i:=7) (oi:=⟨some 53,.move (.tmp 5),34,"ref.go:95",#[],none⟩) (hy:=by intro w hSw;(try dsimp only at hSw);obtain⟨q0,q1,q2⟩:=hSw;go_simp <;> with_reducible rfl) ?_
       try simp only [Act.put,nA]
       refine wpAnyH_ready (rs:=[8]) (by kernel_rfl) (by simp) ?_
       refine AllReadyH.cons (o:=⟨some 54,.call { callee:=.value (.func 47),args:=#[.tmp 52,.tmp 53],argTypes:=#[80,34] },49,"ref.go:95",#[⟨6,.data⟩,⟨7,.data⟩],none⟩) rfl (fun K9 hK=>?_) AllReadyH.nil
       go_simp
       refine (PW.out _ (Below.refl _ _).drew).mono ?_
       rintro e w6 ⟨rfl,h6⟩
       have g6:=Lib.hid (((Below.refl _ _).drew).trans h6)
       clear h6
       have u0:=cell_up g6.out z0
       have u1:=cell_up g6.out z2
       have u2:=cell_up g6.out zi
       go_wp2_with fail
       refine hK.out _ _ ?_ ?_
       ·(try dsimp only);exact⟨u0,u1,u2⟩
       clear hK K9 hHeld;intro hHeld
       try simp only [Act.put,nA]
       refine wpAnyH_ready (rs:=[9]) (by kernel_rfl) (by simp) ?_
       refine AllReadyH.cons (o:=⟨some 55,.call { callee:=.value (.func 14),args:=#[.tmp 46,.tmp 50,.tmp 51,.tmp 54],argTypes:=#[44,3,3,49] },4,"ref.go:95",#[⟨0,.data⟩,⟨4,.data⟩,⟨5,.data⟩,⟨8,.data⟩,⟨8,.chain⟩],none⟩) rfl (fun K9 hK=>?_) AllReadyH.nil
       go_simp
       refine (PQ.out _ g6.out).mono ?_
       rintro e w7 ⟨rfl,hP7,hc7⟩
       have hI9:=Lib.hid (hN.out _ _ g6.out hP7 hc7)
       have v0:=(World.cell?_of_block (a:=⟨q5,0,none⟩) (hc7.block q5 (Nat.lt_of_lt_of_le hq5.out g6.out.size) hqF.out)).trans u0
       have v1:=(World.cell?_of_block (a:=⟨q5,1,none⟩) (hc7.block q5 (Nat.lt_of_lt_of_le hq5.out g6.out.size) hqF.out)).trans u1
       have v2:=hcI.out _ _ _ hI9.out
       clear hP7 hc7
       go_wp2_with fail
       refine hK.out _ _ ?_ ?_
       ·(try dsimp only);exact⟨v0,v1,v2⟩
       clear hK K9 hHeld;intro hHeld
       try simp only [Act.put,nA]
       refine wpAnyH_done (by kernel_rfl) ?_ _
       go_wp2
       go_roundw
       case rel=>exact⟨m+1,F,by omega,by go_num,hI9⟩
       case measure=>simp [intOf];omega
      ·as_aux_lemma =>
       have e:m=fl:=by omega
       subst e
       have hlt4:decide ((m:Int) < (m:Int))=false:=by simp
       go_wp2
       go_roundw
       case rel=>exact⟨j+1,F,by omega,by go_num,by rw [hso.out];exact hI⟩
       case measure=>simp [intOf];omega
    ·have e:j=k:=by omega
     subst e
     have hd:decide ((j:Int) < (j:Int))=false:=by simp
     have hz3:=hI.out.sz
     go_wp2
     go_ret
     rw [hids.out,hT0.out]
     refine⟨.slice ai j ci,F,rfl,hI.out.st,?_,hI.out.cg,fun q hq=>(hI.out.nF q hq).elim (fun e=>Or.inl e.1) (fun e=>Or.inr (by omega)),fun q hq=>⟨(hI.out.of q hq).1,by have:=(hI.out.of q hq).2;omega⟩⟩
     have:=hI.out.own
     rw [hil] at this;exact this
end
end Wd
end Go.Proofs.YteiejjmhmmkdhaaGreat

/- The document's own table: what it is, and Of. -/
namespace Go.Proofs.YteiejjmhmmkdhaaGreat
open Go.RowKit
set_option linter.unusedVariables false
namespace Wd
abbrev Pl := Int × Int
/-- identities' places -/
abbrev Tst := Nat → Option Pl
def plV (p : Pl) : Value := .agg #[.int .i64 p.1, .int .i64 p.2]
def firstIn (P : Nat → Bool) : Option Nat := (List.range' 4 1020).find? P
theorem firstIn_hit {P : Nat → Bool} {k : Nat} (h4 : 4 ≤ k) (hk : k < 1024) (hn : ∀ j, 4 ≤ j → j < k → P j = false) (hp : P k = true) : firstIn P = some k := by
  unfold firstIn
  rw [List.find?_range'_eq_some]
  exact ⟨hp, by rw [List.mem_range'_1]; omega, fun j h1 h2 => by rw [hn j h1 h2]; rfl⟩
theorem firstIn_none {P : Nat → Bool} (hn : ∀ j, 4 ≤ j → j < 1024 → P j = false) : firstIn P = none := by
  unfold firstIn
  rw [List.find?_range'_eq_none]
  intro j h1 h2
  rw [hn j h1 (by omega)]; rfl
theorem firstIn_some {P : Nat → Bool} {k : Nat} (h : firstIn P = some k) : 4 ≤ k ∧ k < 1024 ∧ P k = true ∧ ∀ j, 4 ≤ j → j < k → P j = false := by
  unfold firstIn at h
  rw [List.find?_range'_eq_some] at h
  obtain ⟨h1, h2, h3⟩ := h
  rw [List.mem_range'_1] at h2
  exact ⟨h2.1, by omega, h1, fun j a b => by simpa using h3 j a b⟩
theorem firstIn_no {P : Nat → Bool} (h : firstIn P = none) : ∀ j, 4 ≤ j → j < 1024 → P j = false := by
  unfold firstIn at h
  rw [List.find?_range'_eq_none] at h
  intro j a b
  simpa using h j a (by omega)
/-- whose the place is -/
def ofR (T : Tst) (p : Pl) : Option Nat := firstIn (fun id => T id == some p)
def ofI (T : Tst) (p : Pl) : Int := (((ofR T p).getD 0 : Nat) : Int)
/-- the least one that is free -/
def freeR (T : Tst) : Option Nat := firstIn (fun id => (T id).isNone)
def updT (T : Tst) (k : Nat) (v : Option Pl) : Tst := fun j => if j = k then v else T j
def frI : Option Nat → Int | some k => (k : Int) | none => -1
def frT (T : Tst) (p : Pl) : Option Nat → Tst | some k => updT T k (some p) | none => T
def takeI (T : Tst) (p : Pl) : Int := if (ofR T p).isSome then -1 else frI (freeR T)
def takeT (T : Tst) (p : Pl) : Tst := if (ofR T p).isSome then T else frT T p (freeR T)
def hasT (T : Tst) (i : Int) : Bool := decide (0 ≤ i) && (decide (i < 1024) && (T i.toNat).isSome)
def swapB (T : Tst) (a b : Int) : Bool := hasT T a && hasT T b
def swapT (T : Tst) (a b : Int) : Tst := if swapB T a b then updT (updT T a.toNat (T b.toNat)) b.toNat (T a.toNat) else T
def idsT (T : Tst) : List Int := ((List.range 1024).filter (fun k => (T k).isSome)).map (fun (k : Nat) => (k : Int))
def inR9 (T : Tst) (k : Nat) : Bool := (T k).isSome
def szR (T : Tst) (k : Nat) : Int := ((T k).getD (0, 0)).1
def clR (T : Tst) (k : Nat) : Int := ((T k).getD (0, 0)).2
/-- a table of the document's own, at block b -/
structure RefT (X : Nat → Option Value) (w : World) (b : Nat) (T : Tst) : Prop where
  ci : ∀ k, k < 1024 → w.cell? ⟨b, k, none⟩ = some (.bool (inR9 T k))
  cs : ∀ k, k < 1024 → w.cell? ⟨b, 1024 + k * 2, none⟩ = some (.int .i64 (szR T k))
  cl : ∀ k, k < 1024 → w.cell? ⟨b, 1024 + k * 2 + 1, none⟩ = some (.int .i64 (clR T k))
  z : ∀ k, w.frozen? ⟨b, k, none⟩ = false
  x : ∀ k, 3072 ≤ k → w.cell? ⟨b, k, none⟩ = X k
section
variable {X : Nat → Option Value}
theorem RefT.lt {w : World} {b : Nat} {T : Tst} (h : RefT X w b T) : b < w.heap.size := World.block_lt_of_cell? w _ (h.ci 0 (by decide))
theorem RefT.same {w w' : World} {b : Nat} {T : Tst} (h : RefT X w b T) (hb : w'.heap[b]? = w.heap[b]?) : RefT X w' b T :=
  ⟨fun k hk => (World.cell?_of_block (a := ⟨b, k, none⟩) hb).trans (h.ci k hk), fun k hk => (World.cell?_of_block (a := ⟨b, 1024 + k * 2, none⟩) hb).trans (h.cs k hk), fun k hk => (World.cell?_of_block (a := ⟨b, 1024 + k * 2 + 1, none⟩) hb).trans (h.cl k hk), fun k => (World.frozen?_of_block (a := ⟨b, k, none⟩) hb).trans (h.z k), fun k hk => (World.cell?_of_block (a := ⟨b, k, none⟩) hb).trans (h.x k hk)⟩
theorem RefT.keep {w w' : World} {b : Nat} {T : Tst} (h : RefT X w b T) (g : Below w.heap.size w w') : RefT X w' b T := h.same (g.block b h.lt)
/-- so far nobody has it -/
structure OSt (w : World) (T : Tst) (p : Pl) (q k : Nat) (wr : World) : Prop where
  bel : Below w.heap.size w wr
  c0 : wr.cell? ⟨q, 0, none⟩ = some (.int .i64 p.1)
  c1 : wr.cell? ⟨q, 1, none⟩ = some (.int .i64 p.2)
  em : ∀ j, 4 ≤ j → j < k → (T j == some p) = false
theorem OSt.next {w wr : World} {T : Tst} {p : Pl} {q k : Nat} (h : OSt w T p q k wr) (hk : (T k == some p) = false) : OSt w T p q (k + 1) wr.drew :=
  ⟨h.bel.drew, h.c0, h.c1, fun j h4 hj => by
    by_cases c : j = k
    · subst c; exact hk
    · exact h.em j h4 (by omega)⟩
end
end Wd
end Go.Proofs.YteiejjmhmmkdhaaGreat

/- The document's own table: Has, Take, Give, Swap. -/
namespace Go.Proofs.YteiejjmhmmkdhaaGreat
open Go.RowKit
set_option linter.unusedVariables false
namespace Wd
/-- w' is w, but for the blocks of F and new ones -/
structure Ch9 (F : Nat → Prop) (w w' : World) : Prop where
  os : w'.os = w.os
  tape : w'.tape = w.tape
  output : w'.output = w.output
  size : w.heap.size ≤ w'.heap.size
  block : ∀ k, k < w.heap.size → ¬ F k → w'.heap[k]? = w.heap[k]?
/-- F' has no block but those of F and new ones -/
def Newer9 (F F' : Nat → Prop) (s : Nat) : Prop := ∀ k, F' k → F k ∨ s ≤ k
theorem Ch9.refl (F : Nat → Prop) (w : World) : Ch9 F w w := ⟨rfl, rfl, rfl, Nat.le_refl _, fun _ _ _ => rfl⟩
theorem Ch9.trans {F : Nat → Prop} {w w1 w2 : World} (h : Ch9 F w w1) (g : Ch9 F w1 w2) : Ch9 F w w2 :=
  ⟨g.os.trans h.os, g.tape.trans h.tape, g.output.trans h.output, Nat.le_trans h.size g.size, fun k hk hF => (g.block k (Nat.lt_of_lt_of_le hk h.size) hF).trans (h.block k hk hF)⟩
theorem Ch9.set {F : Nat → Prop} {w w1 : World} (h : Ch9 F w w1) (a : Addr) (ha : F a.block) (v : Value) : Ch9 F w (w1.setCell a v) :=
  ⟨h.os, h.tape, h.output, by simpa [World.setCell] using h.size, fun k hk hF => (Below.heap_setCell _ _ _ _ (fun e => hF (by rw [e]; exact ha))).trans (h.block k hk hF)⟩
theorem Ch9.drew {F : Nat → Prop} {w w1 : World} (h : Ch9 F w w1) : Ch9 F w w1.drew := ⟨h.os, h.tape, h.output, h.size, h.block⟩
theorem below_toCh {w w' : World} (F : Nat → Prop) (b : Below w.heap.size w w') : Ch9 F w w' := ⟨b.os, b.tape, b.output, b.size, fun k hk _ => b.block k hk⟩
theorem below_ch9 {w wr w1 : World} {F : Nat → Prop} (h : Below w.heap.size w wr) (c : Ch9 F wr w1) (hF : ∀ k, F k → w.heap.size ≤ k) : Below w.heap.size w w1 :=
  ⟨c.os.trans h.os, c.tape.trans h.tape, c.output.trans h.output, Nat.le_trans h.size c.size, fun k hk => (c.block k (Nat.lt_of_lt_of_le hk h.size) (fun e => by have := hF k e; omega)).trans (h.block k hk)⟩
theorem Ch9.mono {F G : Nat → Prop} {w w' : World} (h : Ch9 F w w') (hFG : ∀ k, F k → G k) : Ch9 G w w' := ⟨h.os, h.tape, h.output, h.size, fun k hk hn => h.block k hk (fun hF => hn (hFG k hF))⟩
section
variable {X : Nat → Option Value} {w : World} {b : Nat} {T : Tst}
theorem hasT_out {i : Int} (hi : ¬ (0 ≤ i ∧ i < 1024)) : hasT T i = false := by
  unfold hasT
  by_cases h : 0 ≤ i
  · rw [decide_eq_false (show ¬ i < 1024 by omega)]; simp
  · rw [decide_eq_false h]; simp
theorem hasT_in {k : Nat} (hk : k < 1024) : hasT T (k : Int) = inR9 T k := by
  unfold hasT inR9
  rw [decide_eq_true (show (0 : Int) ≤ k by omega), decide_eq_true (show (k : Int) < 1024 by omega)]
  simp
theorem RefT.drew (h : RefT X w b T) : RefT X w.drew b T := h.same rfl
/-- a place is written, and whether it is there -/
theorem RefT.put (h : RefT X w b T) {k : Nat} (hk : k < 1024) (v : Option Pl) : RefT X (((w.setCell ⟨b, k, none⟩ (.bool v.isSome)).setCell ⟨b, 1024 + k * 2, none⟩ (.int .i64 (v.getD (0, 0)).1)).setCell ⟨b, 1024 + k * 2 + 1, none⟩ (.int .i64 (v.getD (0, 0)).2)) b (updT T k v) := by
  have far : ∀ {w : World} {o o' : Nat} {x : Value}, o ≠ o' → (w.setCell ⟨b, o, none⟩ x).cell? ⟨b, o', none⟩ = w.cell? ⟨b, o', none⟩ := fun hne => World.cell?_setCell_other _ _ _ _ (by intro e; injection e with _ h2; exact hne h2)
  refine ⟨fun j hj => ?_, fun j hj => ?_, fun j hj => ?_, fun j => by rw [World.frozen?_setCell, World.frozen?_setCell, World.frozen?_setCell]; exact h.z j, fun j hj => by rw [far (by omega), far (by omega), far (by omega)]; exact h.x j hj⟩
  · rw [far (by omega), far (by omega)]
    by_cases c : j = k
    · subst c
      rw [World.cell?_setCell_same _ _ _ (h.ci j hj)]
      simp [inR9, updT]
    · rw [far (by omega), h.ci j hj]
      simp [inR9, updT, c]
  · rw [far (by omega)]
    by_cases c : j = k
    · subst c
      rw [World.cell?_setCell_same _ _ _ (by rw [far (by omega)]; exact h.cs j hj)]
      simp [szR, updT]
    · rw [far (by omega), far (by omega), h.cs j hj]
      simp [szR, updT, c]
  · by_cases c : j = k
    · subst c
      rw [World.cell?_setCell_same _ _ _ (by rw [far (by omega), far (by omega)]; exact h.cl j hj)]
      simp [clR, updT]
    · rw [far (by omega), far (by omega), far (by omega), h.cl j hj]
      simp [clR, updT, c]
theorem updT_self {k : Nat} (v : Option Pl) : updT T k v k = v := by simp [updT]
theorem hasT_some {i : Int} (hh : hasT T i = true) : ∃ k : Nat, i = k ∧ k < 1024 ∧ inR9 T k = true ∧ ∃ p, T k = some p := by
  have hi : 0 ≤ i ∧ i < 1024 := by
    apply Classical.byContradiction
    intro hn
    rw [hasT_out hn] at hh
    cases hh
  obtain ⟨k, rfl⟩ : ∃ k : Nat, i = k := ⟨i.toNat, by omega⟩
  have hk : k < 1024 := by omega
  rw [hasT_in hk] at hh
  refine ⟨k, rfl, hk, hh, ?_⟩
  unfold inR9 at hh
  exact Option.isSome_iff_exists.1 hh
end
end Wd
end Go.Proofs.YteiejjmhmmkdhaaGreat

/- The document's own table: none is taken. -/
namespace Go.Proofs.YteiejjmhmmkdhaaGreat
open Go.RowKit
set_option linter.unusedVariables false
namespace Wd
section
variable {X : Nat → Option Value}
def noT : Tst := fun _ => none
theorem idsT_def (T : Tst) : idsT T = ((List.range 1024).filter (fun k => (T k).isSome)).map (fun (k : Nat) => (k : Int)) := rfl
def idsK (T : Tst) (k : Nat) : List Int := ((List.range k).filter (fun k => (T k).isSome)).map (fun (k : Nat) => (k : Int))
theorem idsK_in {T : Tst} {k : Nat} (h : inR9 T k = true) : idsK T (k + 1) = idsK T k ++ [(k : Int)] := by
  unfold inR9 at h
  unfold idsK
  rw [List.range_succ, List.filter_append, List.map_append]
  simp [h]
theorem idsK_out {T : Tst} {k : Nat} (h : inR9 T k = false) : idsK T (k + 1) = idsK T k := by
  unfold inR9 at h
  unfold idsK
  rw [List.range_succ, List.filter_append, List.map_append]
  simp [h]
theorem idsK_len (T : Tst) (k : Nat) : (idsK T k).length ≤ k := by
  unfold idsK
  rw [List.length_map]
  exact Nat.le_trans (List.length_filter_le _ _) (by simp)
/-- those that were told so far -/
structure IDt (w : World) (T : Tst) (b k : Nat) (v : Value) (wr : World) : Prop where
  own : wr.ownsRow w.heap.size 3 1 v (idsK T k).length (ints (idsK T k))
  bel : Below w.heap.size w wr
theorem IDt.next {w wr w1 : World} {T : Tst} {b k g cap : Nat} {v : Value} (h : IDt w T b k v wr) (hk : inR9 T k = true)
    {c : Array Value} {t : TypeId} (hown : w1.ownsRow w.heap.size 3 1 (.slice (some ⟨g, 0, none⟩) ((idsK T k).length + 1) cap) ((idsK T k).length + 1) (ints (idsK T k) ++ ints [(k : Int)])) (hg : (wr.alloc (.cells c t)).grownBy w1 v.ownBlock) :
    IDt w T b (k + 1) (.slice (some ⟨g, 0, none⟩) ((idsK T k).length + 1) cap) w1 := by
  refine ⟨?_, ?_⟩
  · rw [idsK_in hk]
    simpa [ints] using hown
  · exact (h.bel.alloc h.bel.size _).grown hg (by have := h.bel.size; simp; omega) (fun k' hk => (h.own.lt k' hk).1)
end
end Wd
end Go.Proofs.YteiejjmhmmkdhaaGreat

/- The document's own mill: its rows. -/
namespace Go.Proofs.YteiejjmhmmkdhaaGreat
open Go.RowKit
set_option linter.unusedVariables false
namespace Wd
/-- the rows of a mill: Free, Black, Grey, Ecru -/
abbrev Mst := Nat → List Int
def upA (A : Mst) (k : Nat) (X : List Int) : Mst := fun j => if j = k then X else A j
def upV (V : Nat → Value) (k : Nat) (v : Value) : Nat → Value := fun j => if j = k then v else V j
/-- the first of a row is the last of another -/
def firstA (A : Mst) (x y : Nat) : Mst := match A x with
  | [] => A
  | i :: T => upA (upA A x T) y (A y ++ [i])
def firstR (A : Mst) (x : Nat) : Int := match A x with
  | [] => -1
  | i :: _ => i
def colorR (A : Mst) (i : Int) : Int := if i ∈ A 0 then 0 else if i ∈ A 1 then 1 else if i ∈ A 2 then 2 else if i ∈ A 3 then 3 else -1
def shadeA (A : Mst) (i : Int) : Mst := if colorR A i = 3 then upA (upA A 3 ((A 3).filter (· ≠ i))) 2 (A 2 ++ [i]) else A
def flipR (A : Mst) : List Int := if A 2 = [] then A 3 else []
def flipA (A : Mst) : Mst := if A 2 = [] then upA (upA (upA A 0 (A 0 ++ A 3)) 3 (A 1)) 1 [] else A
/-- a mill of the document's own, at block b -/
structure RefM (w : World) (b : Nat) (A : Mst) (V : Nat → Value) : Prop where
  c : ∀ k, k < 4 → w.cell? ⟨b, k, none⟩ = some (V k)
  z : ∀ k, w.frozen? ⟨b, k, none⟩ = false
  own : ∀ k, k < 4 → SL w 3 (V k) (A k)
  apart : ∀ k, k < 4 → (V k).ownBlock ≠ some b
def Comes (V V' : Nat → Value) (s : Nat) : Prop := ∀ k g, k < 4 → (V' k).ownBlock = some g → s ≤ g ∨ ∃ j, j < 4 ∧ (V j).ownBlock = some g
theorem Comes.refl (V : Nat → Value) (s : Nat) : Comes V V s := fun k _ hk h => Or.inr ⟨k, hk, h⟩
theorem Comes.up {V V' : Nat → Value} {s : Nat} (h : Comes V V' s) (k : Nat) {v : Value} (hv : ∀ g, v.ownBlock = some g → s ≤ g ∨ ∃ j, j < 4 ∧ (V j).ownBlock = some g) : Comes V (upV V' k v) s := by
  intro j g hj hg
  unfold upV at hg
  split at hg
  · exact hv g hg
  · exact h j g hj hg
theorem Comes.trans {V V' V'' : Nat → Value} {s t : Nat} (h : Comes V V' s) (g : Comes V' V'' t) (hst : s ≤ t) : Comes V V'' s := by
  intro k x hk hx
  rcases g k x hk hx with h1 | ⟨j, hj, h1⟩
  · exact Or.inl (by omega)
  · exact h j x hj h1
theorem RefM.lt {w : World} {b : Nat} {A : Mst} {V : Nat → Value} (h : RefM w b A V) : b < w.heap.size ∧ ∀ k g, k < 4 → (V k).ownBlock = some g → g < w.heap.size :=
  ⟨World.block_lt_of_cell? w _ (h.c 0 (by decide)), fun k g hk hg => ((h.own k hk).lt g hg).2⟩
theorem RefM.same {w w' : World} {b : Nat} {A : Mst} {V : Nat → Value} (h : RefM w b A V) (hk : ∀ g, (g = b ∨ ∃ j, j < 4 ∧ (V j).ownBlock = some g) → w'.heap[g]? = w.heap[g]?) : RefM w' b A V := by
  have hb := hk b (Or.inl rfl)
  refine ⟨fun k h4 => (World.cell?_of_block (a := ⟨b, k, none⟩) hb).trans (h.c k h4), fun k => (World.frozen?_of_block (a := ⟨b, k, none⟩) hb).trans (h.z k), fun k h4 => ?_, h.apart⟩
  obtain ⟨h1, h2⟩ := h.own k h4
  refine ⟨h1, ?_⟩
  rcases h2 with hh | ⟨g, cap, cur, e1, e2, e3, e4⟩
  · exact Or.inl hh
  · exact Or.inr ⟨g, cap, cur, e1, e2, (hk g (Or.inr ⟨k, h4, by rw [e1]; rfl⟩)).trans e3, e4⟩
theorem RefM.keep {w w' : World} {b : Nat} {A : Mst} {V : Nat → Value} (h : RefM w b A V) (g : Below w.heap.size w w') : RefM w' b A V :=
  h.same (fun k hk => g.block k (by rcases hk with rfl | ⟨j, hj, hk⟩; exact h.lt.1; exact h.lt.2 j k hj hk))
theorem RefM.put {w2 : World} {b k : Nat} {A : Mst} {V : Nat → Value} {v : Value} {X : List Int} (h : RefM w2 b A V) (hk : k < 4) (own : SL w2 3 v X) (far : v.ownBlock ≠ some b) :
    RefM (w2.setCell ⟨b, k, none⟩ v) b (upA A k X) (upV V k v) := by
  refine ⟨fun j hj => ?_, fun j => by rw [World.frozen?_setCell]; exact h.z j, fun j hj => ?_, fun j hj => ?_⟩
  · by_cases c : j = k
    · subst c; simp only [upV, if_true]; exact World.cell?_setCell_same _ _ _ (h.c j hj)
    · simp only [upV, if_neg c]; exact (World.cell?_setCell_other _ _ _ _ (by intro e; cases e; exact c rfl)).trans (h.c j hj)
  · by_cases c : j = k
    · subst c; simp only [upV, upA, if_true]; exact ownsRow_setCell_other own far _
    · simp only [upV, upA, if_neg c]; exact ownsRow_setCell_other (h.own j hj) (h.apart j hj) _
  · by_cases c : j = k
    · subst c; simp only [upV, if_true]; exact far
    · simp only [upV, if_neg c]; exact h.apart j hj
end Wd
end Go.Proofs.YteiejjmhmmkdhaaGreat

/- The document's own mill: the first of a row is the last of another. -/
namespace Go.Proofs.YteiejjmhmmkdhaaGreat
open Go.RowKit
set_option linter.unusedVariables false
namespace Wd
end Wd
end Go.Proofs.YteiejjmhmmkdhaaGreat

/- The document's own mill: Alloc, Scan, Color. -/
namespace Go.Proofs.YteiejjmhmmkdhaaGreat
open Go.RowKit
set_option linter.unusedVariables false
namespace Wd
theorem colorR_hit {A : Mst} {i : Int} {c : Nat} (hc : c < 4) (hn : ∀ j, j < c → i ∉ A j) (hi : i ∈ A c) : colorR A i = c := by
  unfold colorR
  have h0 := hn 0
  have h1 := hn 1
  have h2 := hn 2
  rcases (show c = 0 ∨ c = 1 ∨ c = 2 ∨ c = 3 by omega) with rfl | rfl | rfl | rfl <;> simp_all
theorem colorR_miss {A : Mst} {i : Int} (hn : ∀ j, j < 4 → i ∉ A j) : colorR A i = -1 := by
  unfold colorR
  rw [if_neg (hn 0 (by decide)), if_neg (hn 1 (by decide)), if_neg (hn 2 (by decide)), if_neg (hn 3 (by decide))]
end Wd
end Go.Proofs.YteiejjmhmmkdhaaGreat

/- The document's own mill: Shade. -/
namespace Go.Proofs.YteiejjmhmmkdhaaGreat
open Go.RowKit
set_option linter.unusedVariables false
namespace Wd
theorem colorR_in {A : Mst} {i : Int} (h : colorR A i = 3) : i ∈ A 3 := by
  unfold colorR at h
  repeat' (split at h)
  all_goals first | assumption | omega
end Wd
end Go.Proofs.YteiejjmhmmkdhaaGreat

/- The document's own mill: Flip. -/
namespace Go.Proofs.YteiejjmhmmkdhaaGreat
open Go.RowKit
set_option linter.unusedVariables false
namespace Wd
end Wd
end Go.Proofs.YteiejjmhmmkdhaaGreat

/- The document's own mill: it is made. -/
namespace Go.Proofs.YteiejjmhmmkdhaaGreat
open Go.RowKit
set_option linter.unusedVariables false
namespace Wd
/-- the mill while it is filled -/
structure NMst (w : World) (k : Nat) (v : Value) (wr : World) : Prop where
  ref : RefM wr w.heap.size (upA (fun _ => []) 0 (rng k)) (upV (fun _ => .slice none 0 0) 0 v)
  own : wr.ownsRow w.heap.size 3 1 v k (ints (rng k))
  bel : Below w.heap.size w wr
theorem NMst.next {w wr w1 : World} {k : Nat} {v v1 : Value} {o : Obj} (h : NMst w k v wr) (hown : w1.ownsRow w.heap.size 3 1 v1 (k + 1) (ints (rng (k + 1)))) (hg : (wr.alloc o).grownBy w1 v.ownBlock) (hat : v1.ownBlock = v.ownBlock ∨ v1.ownBlock = some (wr.alloc o).heap.size) :
    NMst w (k + 1) v1 (w1.setCell ⟨w.heap.size, 0, none⟩ v1) := by
  have hb := h.ref.lt.1
  have far0 : v.ownBlock ≠ some w.heap.size := h.ref.apart 0 (by decide)
  have far : v1.ownBlock ≠ some w.heap.size := by
    rcases hat with e | e <;> rw [e]
    · exact far0
    · simp; omega
  have hbl : ∀ g, g < wr.heap.size → some g ≠ v.ownBlock → w1.heap[g]? = wr.heap[g]? := fun g hg1 hne => (hg.block g (by simp; omega) hne).trans (Below.heap_alloc _ _ _ hg1)
  have hbb := hbl w.heap.size hb (fun e => far0 e.symm)
  have b1 : Below w.heap.size w w1 := (h.bel.alloc h.bel.size _).grown hg (by have := h.bel.size; simp; omega) (fun k' hk => (h.own.lt k' hk).1)
  refine ⟨⟨fun j hj => ?_, fun j => ?_, fun j hj => ?_, fun j hj => ?_⟩, ownsRow_setCell_other hown far _, b1.setCell (Nat.le_refl _) _⟩
  · by_cases c : j = 0
    · subst c
      simp only [upV, if_true]
      exact World.cell?_setCell_same _ _ _ ((World.cell?_of_block (a := ⟨w.heap.size, 0, none⟩) hbb).trans (h.ref.c 0 (by decide)))
    · simp only [upV, if_neg c]
      refine (World.cell?_setCell_other _ _ _ _ (by intro e; cases e; exact c rfl)).trans ?_
      have := (World.cell?_of_block (a := ⟨w.heap.size, j, none⟩) hbb).trans (h.ref.c j hj)
      simpa only [upV, if_neg c] using this
  · rw [World.frozen?_setCell]; exact (World.frozen?_of_block (a := ⟨w.heap.size, j, none⟩) hbb).trans (h.ref.z j)
  · by_cases c : j = 0
    · subst c
      simp only [upV, upA, if_true]
      have := ownsRow_setCell_other (own_base hown) far (a := ⟨w.heap.size, 0, none⟩) v1
      unfold SL
      rw [rng_len]
      exact this
    · simp only [upV, upA, if_neg c]
      exact World.ownsRow_nil _ _ _ _
  · by_cases c : j = 0
    · subst c; simp only [upV, if_true]; exact far
    · simp only [upV, if_neg c, Value.ownBlock]; simp
end Wd
end Go.Proofs.YteiejjmhmmkdhaaGreat

/- What holds of rows of cells, and of identities' places (out of the stages 5 and 7). -/
namespace Go.Proofs.YteiejjmhmmkdhaaGreat
open Go.RowKit
set_option linter.unusedVariables false
namespace Wd
def startA (n : Nat) : Mst := upA (fun _ => []) 0 (rng n)
/-- all cells are in one row, once -/
def Good (n : Nat) (A : Mst) : Prop := (A 0 ++ (A 1 ++ (A 2 ++ A 3))).Perm (rng n)
theorem good_start (n : Nat) : Good n (startA n) := by unfold Good startA; simp [upA]
theorem good_first {n : Nat} {A : Mst} (h : Good n A) (x : Nat) (hx : x = 0 ∨ x = 2) : Good n (firstA A x 1) := by
  unfold firstA
  split
  · exact h
  · rename_i i T hA
    refine List.Perm.trans ?_ h
    rcases hx with rfl | rfl
    · simp only [upA]
      simp only [hA, if_true, show ((0 : Nat) = 1) = False by simp, show ((2 : Nat) = 1) = False by simp, show ((3 : Nat) = 1) = False by simp, show ((2 : Nat) = 0) = False by simp, show ((3 : Nat) = 0) = False by simp, show ((1 : Nat) = 0) = False by simp, if_false]
      refine List.perm_iff_count.2 (fun a => ?_)
      simp only [List.count_append, List.count_cons, List.count_nil]
      omega
    · simp only [upA]
      simp only [hA, if_true, show ((0 : Nat) = 1) = False by simp, show ((2 : Nat) = 1) = False by simp, show ((3 : Nat) = 1) = False by simp, show ((0 : Nat) = 2) = False by simp, show ((3 : Nat) = 2) = False by simp, show ((1 : Nat) = 2) = False by simp, if_false]
      refine List.perm_iff_count.2 (fun a => ?_)
      simp only [List.count_append, List.count_cons, List.count_nil]
      omega
theorem good_nd {n : Nat} {A : Mst} (h : Good n A) : (A 0 ++ (A 1 ++ (A 2 ++ A 3))).Nodup := h.nodup_iff.2 (rng_nd n)
theorem good_len {n : Nat} {A : Mst} (h : Good n A) : (A 0).length + ((A 1).length + ((A 2).length + (A 3).length)) = n := by
  have := h.length_eq
  simpa [rng] using this
theorem good_le {n : Nat} {A : Mst} (h : Good n A) : ∀ k, k < 4 → (A k).length ≤ n := by
  have := good_len h
  intro k hk
  rcases (show k = 0 ∨ k = 1 ∨ k = 2 ∨ k = 3 by omega) with rfl | rfl | rfl | rfl <;> omega
theorem nd3 {n : Nat} {A : Mst} (h : Good n A) : (A 3).Nodup := by
  have := good_nd h
  exact (List.nodup_append.1 (List.nodup_append.1 (List.nodup_append.1 this).2.1).2.1).2.1
theorem filt_perm {L : List Int} (hn : L.Nodup) {i : Int} (h : i ∈ L) : (L.filter (· ≠ i) ++ [i]).Perm L := by
  have e : L.filter (· ≠ i) = L.erase i := by rw [hn.erase_eq_filter]; congr 1; funext x; by_cases h : x = i <;> simp [h]
  rw [e]
  exact (List.perm_append_singleton i _).trans (List.perm_cons_erase h).symm
theorem good_shade {n : Nat} {A : Mst} (h : Good n A) (i : Int) : Good n (shadeA A i) := by
  unfold shadeA
  split
  · rename_i hc
    refine List.Perm.trans ?_ h
    have hp := filt_perm (nd3 h) (colorR_in hc)
    simp only [upA]
    simp only [if_true, show ((0 : Nat) = 2) = False by simp, show ((1 : Nat) = 2) = False by simp, show ((3 : Nat) = 2) = False by simp, show ((0 : Nat) = 3) = False by simp, show ((1 : Nat) = 3) = False by simp, show ((2 : Nat) = 3) = False by simp, if_false]
    refine List.perm_iff_count.2 (fun a => ?_)
    have := List.perm_iff_count.1 hp a
    simp only [List.count_append] at this ⊢
    omega
  · exact h
def LL (A : Mst) : List Int := A 0 ++ (A 1 ++ (A 2 ++ A 3))
theorem good_mem {n : Nat} {A : Mst} (h : Good n A) {i : Int} : i ∈ LL A ↔ 0 ≤ i ∧ i < n := by
  rw [show (i ∈ LL A ↔ i ∈ rng n) from List.Perm.mem_iff h]
  unfold rng
  rw [List.mem_map]
  constructor
  · rintro ⟨k, hk, rfl⟩; rw [List.mem_range] at hk; omega
  · intro hi; exact ⟨i.toNat, by rw [List.mem_range]; omega, by omega⟩
theorem mem_LL {A : Mst} {i : Int} : i ∈ LL A ↔ ∃ k, k < 4 ∧ i ∈ A k := by
  unfold LL
  simp only [List.mem_append]
  constructor
  · rintro (h | h | h | h)
    · exact ⟨0, by omega, h⟩
    · exact ⟨1, by omega, h⟩
    · exact ⟨2, by omega, h⟩
    · exact ⟨3, by omega, h⟩
  · rintro ⟨k, hk, h⟩
    rcases (show k = 0 ∨ k = 1 ∨ k = 2 ∨ k = 3 by omega) with rfl | rfl | rfl | rfl <;> simp [h]
theorem good_apart {n : Nat} {A : Mst} (h : Good n A) {x y : Nat} (hx : x < 4) (hy : y < 4) {i : Int} (h1 : i ∈ A x) (h2 : i ∈ A y) : x = y := by
  have hn := good_nd h
  have n1 := List.nodup_append.1 hn
  have n2 := List.nodup_append.1 n1.2.1
  have n3 := List.nodup_append.1 n2.2.1
  rcases (show x = 0 ∨ x = 1 ∨ x = 2 ∨ x = 3 by omega) with rfl | rfl | rfl | rfl <;> rcases (show y = 0 ∨ y = 1 ∨ y = 2 ∨ y = 3 by omega) with rfl | rfl | rfl | rfl <;> first | rfl | (exfalso; first | exact n1.2.2 i h1 i (by simp [h2]) rfl | exact n1.2.2 i h2 i (by simp [h1]) rfl | exact n2.2.2 i h1 i (by simp [h2]) rfl | exact n2.2.2 i h2 i (by simp [h1]) rfl | exact n3.2.2 i h1 i (by simp [h2]) rfl | exact n3.2.2 i h2 i (by simp [h1]) rfl)
theorem good_color {n : Nat} {A : Mst} (h : Good n A) {x : Nat} (hx : x < 4) {i : Int} (h1 : i ∈ A x) : colorR A i = x :=
  colorR_hit hx (fun j hj hi => by have := good_apart h (by omega) hx hi h1; omega) h1
theorem good_out {n : Nat} {A : Mst} (h : Good n A) {i : Int} (hi : ¬ (0 ≤ i ∧ i < n)) : colorR A i = -1 :=
  colorR_miss (fun j hj hm => hi ((good_mem h).1 (mem_LL.2 ⟨j, hj, hm⟩)))
theorem good_in {n : Nat} {A : Mst} (h : Good n A) {k : Nat} (hk : k < n) : ∃ x, x < 4 ∧ (k : Int) ∈ A x ∧ colorR A k = (x : Int) := by
  obtain ⟨x, hx, hm⟩ := mem_LL.1 ((good_mem h).2 (⟨by omega, by omega⟩ : 0 ≤ (k : Int) ∧ (k : Int) < n))
  exact ⟨x, hx, hm, good_color h hx hm⟩
def plOk (p : Pl) : Prop := (-9223372036854775808 ≤ p.1 ∧ p.1 ≤ 9223372036854775807) ∧ (-9223372036854775808 ≤ p.2 ∧ p.2 ≤ 9223372036854775807)
def atP (T : Tst) (i : Int) : Pl := if hasT T i then (T i.toNat).getD (0, 0) else (0, 0)
/-- each identity that is there is in bounds, its place is nobody else's -/
structure Inv (T : Tst) : Prop where
  bd : ∀ k p, T k = some p → 4 ≤ k ∧ k < 1024 ∧ plOk p
  inj : ∀ i j p, T i = some p → T j = some p → i = j
theorem Inv.no : Inv noT := ⟨fun k p h => (by cases h), fun i j p h => (by cases h)⟩
theorem ofR_none {T : Tst} (hI : Inv T) {p : Pl} (h : ofR T p = none) (k : Nat) : T k ≠ some p := by
  intro hk
  obtain ⟨h1, h2, _⟩ := hI.bd k p hk
  have := firstIn_no h k h1 h2
  rw [hk] at this
  simp at this
theorem ofR_at {T : Tst} (hI : Inv T) {k : Nat} {p : Pl} (h : T k = some p) : ofR T p = some k := by
  obtain ⟨h1, h2, _⟩ := hI.bd k p h
  refine firstIn_hit h1 h2 (fun j a b => ?_) (by show (T k == some p) = true; rw [h]; simp)
  show (T j == some p) = false
  have : T j ≠ some p := fun e => by have := hI.inj j k p e h; omega
  simpa using this
theorem freeR_at {T : Tst} {k : Nat} (h : freeR T = some k) : 4 ≤ k ∧ k < 1024 ∧ T k = none := by
  obtain ⟨h1, h2, h3, _⟩ := firstIn_some h
  exact ⟨h1, h2, by simpa using h3⟩
theorem Inv.upd {T : Tst} (hI : Inv T) {k : Nat} {p : Pl} (h1 : 4 ≤ k) (h2 : k < 1024) (hp : plOk p) (hn : ∀ j, j ≠ k → T j ≠ some p) : Inv (updT T k (some p)) := by
  refine ⟨fun j q hq => ?_, fun i j q hi hj => ?_⟩
  · unfold updT at hq
    by_cases c : j = k
    · subst c; rw [if_pos rfl] at hq; cases hq; exact ⟨h1, h2, hp⟩
    · rw [if_neg c] at hq; exact hI.bd j q hq
  · unfold updT at hi hj
    by_cases c : i = k
    · rw [if_pos c] at hi
      cases hi
      by_cases d : j = k
      · omega
      · rw [if_neg d] at hj; exact absurd hj (hn j d)
    · rw [if_neg c] at hi
      by_cases d : j = k
      · rw [if_pos d] at hj; cases hj; exact absurd hi (hn i c)
      · rw [if_neg d] at hj; exact hI.inj i j q hi hj
theorem Inv.take {T : Tst} (hI : Inv T) {p : Pl} (hp : plOk p) : Inv (takeT T p) := by
  unfold takeT
  cases ho : ofR T p with
  | some j => simpa using hI
  | none =>
    simp only [Option.isSome_none, Bool.false_eq_true, if_false]
    cases hf : freeR T with
    | none => exact hI
    | some k =>
      obtain ⟨h1, h2, h3⟩ := freeR_at hf
      exact hI.upd h1 h2 hp (fun j _ => ofR_none hI ho j)
theorem swapT_at {T : Tst} {x y : Nat} {p q : Pl} (hx : T x = some p) (hy : T y = some q) (h1 : x < 1024) (h2 : y < 1024) : swapB T x y = true ∧ swapT T x y = updT (updT T x (some q)) y (some p) := by
  have hb : swapB T x y = true := by
    unfold swapB
    rw [hasT_in h1, hasT_in h2]
    unfold inR9
    rw [hx, hy]; rfl
  refine ⟨hb, ?_⟩
  unfold swapT
  rw [if_pos hb, show (x : Int).toNat = x by simp, show (y : Int).toNat = y by simp, hx, hy]
theorem atP_at {T : Tst} {k : Nat} {p : Pl} (h : T k = some p) (hk : k < 1024) : atP T k = p ∧ hasT T k = true := by
  have hh : hasT T k = true := by rw [hasT_in hk]; unfold inR9; rw [h]; rfl
  refine ⟨?_, hh⟩
  unfold atP
  rw [if_pos hh, show (k : Int).toNat = k by simp, h]; rfl
end Wd
end Go.Proofs.YteiejjmhmmkdhaaGreat

/- The memory of chapter 9, plainly: what each call answers and what it leaves; what holds at any time. No program is named here. -/
namespace Go.Proofs.YteiejjmhmmkdhaaGreat
open Go.RowKit
set_option linter.unusedVariables false
namespace Wd
/-- a memory: the identities' places, the rows of each size's cells, what lies in each cell: a class, fields -/
structure Hst where
  T : Tst
  M : Nat → Mst
  C : Pl → Int × List Int
def upM (M : Nat → Mst) (s : Nat) (A : Mst) : Nat → Mst := fun j => if j = s then A else M j
def upC (C : Pl → Int × List Int) (p : Pl) (x : Int × List Int) : Pl → Int × List Int := fun q => if q = p then x else C q
/-- the row of a place's size -/
def szP (p : Pl) : Nat := p.1.toNat
def sh (H : Hst) (p : Pl) : Hst := { H with M := upM H.M (szP p) (shadeA (H.M (szP p)) p.2) }
def shI (H : Hst) (i : Int) : Hst := if hasT H.T i then sh H (atP H.T i) else H
def isOp (x : Int) : Bool := decide (x % 2 = 0) && decide (x ≠ 0)
def shW (H : Hst) (x : Int) : Hst := if isOp x then shI H (x / 2) else H
def holdH (H : Hst) (l : List Int) : Hst := l.foldl shW H
def colP (H : Hst) (p : Pl) : Int := colorR (H.M (szP p)) p.2
def colI (H : Hst) (i : Int) : Int := if hasT H.T i then colP H (atP H.T i) else -1
def clsI (H : Hst) (i : Int) : Int := if hasT H.T i then (H.C (atP H.T i)).1 else -1
def fldI (H : Hst) (i : Int) : Int := if hasT H.T i then ((H.C (atP H.T i)).2.length : Int) else -1
def fsI (H : Hst) (i : Int) : List Int := if hasT H.T i then (H.C (atP H.T i)).2 else []
def getB (H : Hst) (i j : Int) : Bool := decide (0 ≤ j ∧ j < (fsI H i).length)
def getV (H : Hst) (i j : Int) : Int := if 0 ≤ j ∧ j < (fsI H i).length then (fsI H i).getD j.toNat 0 else 0
def putB9 (H : Hst) (i j x : Int) : Bool := decide (0 ≤ j ∧ j < (fsI H i).length) && decide (x ≠ 0)
def putC (H : Hst) (i j x : Int) : Hst := { H with C := upC H.C (atP H.T i) ((H.C (atP H.T i)).1, (fsI H i).set j.toNat x) }
def putH (H : Hst) (i j x : Int) : Hst := if putB9 H i j x then (if colI H i = 1 then shW (putC H i j x) x else putC H i j x) else H
def swT (H : Hst) (a b : Int) : Hst := { H with T := swapT H.T a b }
def swN (H : Hst) (a b : Int) : Bool := decide (colI H a = 3) != decide (colI H b = 3)
def swapH (H : Hst) (a b : Int) : Hst := if swapB H.T a b then (if swN H a b then shI (shI (swT H a b) a) b else swT H a b) else H
def doneB (H : Hst) : Bool := (List.range 5).all (fun s => (H.M s 2).isEmpty)
def gry (H : Hst) : Option Nat := (List.range 5).find? (fun s => !(H.M s 2).isEmpty)
def scA (H : Hst) (s : Nat) : Hst := { H with M := upM H.M s (firstA (H.M s) 2 1) }
def scan1 (H : Hst) (s : Nat) : Hst := holdH (scA H s) (H.C ((s : Int), firstR (H.M s) 2)).2
def scanN : Nat → Int → Int → Hst → Int × Hst
  | 0, _, d, H => (d, H)
  | k + 1, w, d, H => if d < w then (match gry H with | some s => scanN k w (d + wd s) (scan1 H s) | none => (d, H)) else (d, H)
def clampW (w : Int) : Int := max (min w 1048576) 0
def scanR (H : Hst) (w : Int) : Int × Hst := scanN 262145 (clampW w) 0 H
def giveP (x : Tst × Int) (p : Pl) : Tst × Int := match ofR x.1 p with | some k => (updT x.1 k none, x.2 + 1) | none => x
def flipS (H : Hst) (s : Nat) : List Pl := (flipR (H.M s)).map (fun c => ((s : Int), c))
def flipL (H : Hst) (k : Nat) : List Pl := (List.range k).flatMap (flipS H)
def flpX (H : Hst) : Tst × Int := (flipL H 5).foldl giveP (H.T, 0)
def flpM (H : Hst) (k : Nat) : Nat → Mst := fun s => if s < k then flipA (H.M s) else H.M s
def flpH (H : Hst) : Hst := if doneB H then { H with T := (flpX H).1, M := flpM H 5 } else H
def alcP (H : Hst) (f : Int) : Pl := (fo f, firstR (H.M (fo f).toNat) 0)
def alcB (H : Hst) (cl f : Int) : Bool := decide (0 ≤ cl ∧ cl ≤ 4095) && (decide (0 ≤ fo f) && !(H.M (fo f).toNat 0).isEmpty)
def alcI (H : Hst) (cl f : Int) : Int := if alcB H cl f then takeI H.T (alcP H f) else -1
def alcH (H : Hst) (cl f : Int) : Hst := if alcB H cl f then { T := takeT H.T (alcP H f), M := upM H.M (fo f).toNat (firstA (H.M (fo f).toNat) 0 1), C := upC H.C (alcP H f) (cl, List.replicate f.toNat 2) } else H
def newH (n : Nat → Nat) : Hst := ⟨noT, fun s => startA (n s), fun _ => (0, [])⟩
/-- at any time: n: the cells of each size -/
structure HInv (n : Nat → Nat) (H : Hst) : Prop where
  good : ∀ s, s < 5 → Good (n s) (H.M s)
  inv : Inv H.T
  pl : ∀ k p, H.T k = some p → ∃ s : Nat, s < 5 ∧ p.1 = s ∧ 0 ≤ p.2 ∧ p.2 < n s ∧ p.2 ∉ H.M s 0
  full : ∀ (s : Nat) (c : Int), s < 5 → 0 ≤ c → c < n s → c ∉ H.M s 0 → ∃ k, H.T k = some ((s : Int), c)
  cel : ∀ k p, H.T k = some p → fo (H.C p).2.length = p.1 ∧ (0 ≤ (H.C p).1 ∧ (H.C p).1 ≤ 4095) ∧ ∀ x ∈ (H.C p).2, 0 < x ∧ x ≤ 4294967295
  few : ∀ s, s < 5 → n s ≤ 512
  sum : n 0 + (n 1 + (n 2 + (n 3 + n 4))) ≤ 1020
section
variable {n : Nat → Nat} {H : Hst}
theorem nd_sub {α : Type} [DecidableEq α] : ∀ {L K : List α}, L.Nodup → (∀ x ∈ L, x ∈ K) → L.length ≤ K.length
  | [], K, _, _ => Nat.zero_le _
  | a :: L, K, hn, h => by
    have ha := h a (by simp)
    have hn' := List.nodup_cons.1 hn
    have := nd_sub (L := L) (K := K.erase a) hn'.2 (fun x hx => by
      have hne : x ≠ a := fun e => hn'.1 (e ▸ hx)
      exact (List.mem_erase_of_ne hne).2 (h x (by simp [hx])))
    rw [List.length_erase_of_mem ha] at this
    have h1 : 0 < K.length := List.length_pos_of_mem ha
    simp only [List.length_cons]
    omega
/-- all places of a memory -/
def allP (n : Nat → Nat) : List Pl := (List.range 5).flatMap (fun s => (rng (n s)).map (fun c => ((s : Int), c)))
theorem mem_allP {p : Pl} : p ∈ allP n ↔ ∃ s : Nat, s < 5 ∧ p.1 = s ∧ 0 ≤ p.2 ∧ p.2 < n s := by
  unfold allP rng
  simp only [List.mem_flatMap, List.mem_map, List.mem_range]
  constructor
  · rintro ⟨s, hs, c, ⟨k, hk, rfl⟩, rfl⟩; exact ⟨s, hs, rfl, by simp, by simpa using hk⟩
  · rintro ⟨s, hs, h1, h2, h3⟩; exact ⟨s, hs, p.2, ⟨p.2.toNat, by omega, by omega⟩, by rw [← h1]⟩
theorem len_allP : (allP n).length = n 0 + (n 1 + (n 2 + (n 3 + n 4))) := by
  unfold allP
  have e : List.range 5 = [0, 1, 2, 3, 4] := by decide
  rw [e]
  simp [List.flatMap_cons, rng]
theorem nodup_map_on {α β : Type} (f : α → β) : ∀ {L : List α}, L.Nodup → (∀ a ∈ L, ∀ b ∈ L, f a = f b → a = b) → (L.map f).Nodup
  | [], _, _ => by simp
  | a :: L, hn, h => by
    have hn' := List.nodup_cons.1 hn
    rw [List.map_cons, List.nodup_cons]
    refine ⟨fun hm => ?_, nodup_map_on f hn'.2 (fun x hx y hy => h x (by simp [hx]) y (by simp [hy]))⟩
    obtain ⟨b, hb, e⟩ := List.mem_map.1 hm
    have := h b (by simp [hb]) a (by simp) e
    exact hn'.1 (this ▸ hb)
/-- there is an identity as long as there is a free cell -/
theorem HInv.free (h : HInv n H) {s : Nat} {c : Int} (hs : s < 5) (hc : c ∈ H.M s 0) : ∃ k, freeR H.T = some k := by
  cases hf : freeR H.T with
  | some k => exact ⟨k, rfl⟩
  | none =>
    exfalso
    have hno := firstIn_no hf
    have hall : ∀ k, 4 ≤ k → k < 1024 → ∃ p, H.T k = some p := fun k a b => by
      have := hno k a b
      exact Option.isSome_iff_exists.1 (by simpa using this)
    have hn : ((List.range' 4 1020).map (fun k => (H.T k).getD (0, 0))).Nodup := by
      refine nodup_map_on _ List.nodup_range' ?_
      intro a ha b hb e
      rw [List.mem_range'_1] at ha hb
      obtain ⟨p, hp⟩ := hall a ha.1 (by omega)
      obtain ⟨q, hq⟩ := hall b hb.1 (by omega)
      rw [hp, hq] at e
      simp only [Option.getD_some] at e
      subst e
      exact h.inv.inj a b p hp hq
    have hg := good_mem (h.good s hs) (i := c)
    have hin : 0 ≤ c ∧ c < n s := hg.1 (by unfold LL; simp [hc])
    have hsub : ∀ x ∈ (List.range' 4 1020).map (fun k => (H.T k).getD (0, 0)), x ∈ (allP n).erase ((s : Int), c) := by
      intro x hx
      obtain ⟨k, hk, rfl⟩ := List.mem_map.1 hx
      rw [List.mem_range'_1] at hk
      obtain ⟨p, hp⟩ := hall k hk.1 (by omega)
      rw [hp]
      simp only [Option.getD_some]
      obtain ⟨s', h1, h2, h3, h4, h5⟩ := h.pl k p hp
      refine (List.mem_erase_of_ne ?_).2 (mem_allP.2 ⟨s', h1, h2, h3, h4⟩)
      intro e
      subst e
      simp only at h2 h5
      have : s' = s := by omega
      subst this
      exact h5 hc
    have hl := nd_sub hn hsub
    have hm : ((s : Int), c) ∈ allP n := mem_allP.2 ⟨s, hs, rfl, hin.1, hin.2⟩
    rw [List.length_erase_of_mem hm, len_allP] at hl
    simp only [List.length_map, List.length_range'] at hl
    have := h.sum
    omega
/-- the rows turn, but no free cell -/
theorem HInv.rows (h : HInv n H) {M' : Nat → Mst} (hg : ∀ s, s < 5 → Good (n s) (M' s)) (h0 : ∀ s, s < 5 → M' s 0 = H.M s 0) : HInv n { H with M := M' } :=
  ⟨hg, h.inv, fun k p hp => by
    obtain ⟨s, h1, h2, h3, h4, h5⟩ := h.pl k p hp
    exact ⟨s, h1, h2, h3, h4, by show p.2 ∉ M' s 0; rw [h0 s h1]; exact h5⟩,
   fun s c hs a b hc => h.full s c hs a b (by rw [← h0 s hs]; exact hc), h.cel, h.few, h.sum⟩
theorem shade_0 (A : Mst) (i : Int) : shadeA A i 0 = A 0 := by unfold shadeA; split <;> simp [upA]
theorem HInv.sh (h : HInv n H) (p : Pl) : HInv n (sh H p) := by
  refine h.rows (fun s hs => ?_) (fun s hs => ?_)
  · unfold upM
    split
    · rename_i e; subst e; exact good_shade (h.good _ hs) _
    · exact h.good s hs
  · unfold upM
    split
    · rename_i e; subst e; exact shade_0 _ _
    · rfl
theorem HInv.shI (h : HInv n H) (i : Int) : HInv n (shI H i) := by
  unfold Wd.shI; split
  · exact h.sh _
  · exact h
theorem HInv.shW (h : HInv n H) (i : Int) : HInv n (shW H i) := by
  unfold Wd.shW; split
  · exact h.shI _
  · exact h
theorem HInv.hold (h : HInv n H) : ∀ l : List Int, HInv n (holdH H l) := by
  intro l
  unfold holdH
  induction l generalizing H with
  | nil => exact h
  | cons x l ih => exact ih (h.shW x)
theorem first2_0 (A : Mst) : firstA A 2 1 0 = A 0 := by
  unfold firstA
  cases hA : A 2 <;> simp [upA]
theorem HInv.scA (h : HInv n H) (s : Nat) : HInv n (scA H s) := by
  refine h.rows (fun j hj => ?_) (fun j hj => ?_)
  · unfold upM
    split
    · rename_i e; subst e; exact good_first (h.good _ hj) 2 (Or.inr rfl)
    · exact h.good j hj
  · unfold upM
    split
    · rename_i e; subst e; exact first2_0 _
    · rfl
theorem HInv.scan1 (h : HInv n H) (s : Nat) : HInv n (scan1 H s) := (h.scA s).hold _
theorem HInv.scanN : ∀ (k : Nat) (w d : Int) {H : Hst}, HInv n H → HInv n (scanN k w d H).2
  | 0, _, _, _, h => h
  | k + 1, w, d, H, h => by
    unfold Wd.scanN
    split
    · split
      · exact HInv.scanN k w _ (h.scan1 _)
      · exact h
    · exact h
theorem HInv.has (h : HInv n H) {i : Int} (hh : hasT H.T i = true) : ∃ k p, i = (k : Nat) ∧ 4 ≤ k ∧ k < 1024 ∧ H.T k = some p ∧ atP H.T i = p := by
  obtain ⟨k, rfl, hk, _, p, hp⟩ := hasT_some hh
  exact ⟨k, p, rfl, (h.inv.bd k p hp).1, hk, hp, (atP_at hp hk).1⟩
theorem HInv.cells (h : HInv n H) {C' : Pl → Int × List Int} (hc : ∀ k p, H.T k = some p → fo (C' p).2.length = p.1 ∧ (0 ≤ (C' p).1 ∧ (C' p).1 ≤ 4095) ∧ ∀ x ∈ (C' p).2, 0 < x ∧ x ≤ 4294967295) : HInv n { H with C := C' } :=
  ⟨h.good, h.inv, h.pl, h.full, hc, h.few, h.sum⟩
theorem HInv.putC (h : HInv n H) (i j x : Int) (hx : 0 < x ∧ x ≤ 4294967295) (hh : hasT H.T i = true) : HInv n (putC H i j x) := by
  obtain ⟨k0, p0, rfl, _, _, hp0, e0⟩ := h.has hh
  refine h.cells (fun k p hp => ?_)
  unfold upC fsI
  rw [e0, if_pos hh]
  split
  · rename_i e
    subst e
    obtain ⟨c1, c2, c3⟩ := h.cel k0 p hp0
    refine ⟨by simpa using c1, c2, fun y hy => ?_⟩
    rcases List.mem_or_eq_of_mem_set hy with hy | rfl
    · exact c3 y hy
    · exact hx
  · exact h.cel k p hp
theorem HInv.put (h : HInv n H) (i j x : Int) (hx : 0 ≤ x ∧ x ≤ 4294967295) : HInv n (putH H i j x) := by
  unfold putH
  split
  · rename_i hb
    unfold putB9 at hb
    rw [Bool.and_eq_true, decide_eq_true_eq, decide_eq_true_eq] at hb
    have hh : hasT H.T i = true := by
      cases hh : hasT H.T i with
      | true => rfl
      | false =>
        exfalso
        have : fsI H i = [] := by unfold fsI; rw [hh]; simp
        rw [this] at hb
        simp at hb
        omega
    split
    · exact (h.putC i j x (by omega) hh).shW _
    · exact h.putC i j x (by omega) hh
  · exact h
theorem swap_of {T : Tst} {a b : Int} (hb : swapB T a b = true) : ∃ x y p q, a = (x : Nat) ∧ b = (y : Nat) ∧ x < 1024 ∧ y < 1024 ∧ T x = some p ∧ T y = some q ∧ swapT T a b = updT (updT T x (some q)) y (some p) := by
  have hb' := hb
  unfold swapB at hb'
  rw [Bool.and_eq_true] at hb'
  obtain ⟨x, rfl, hx, _, p, hp⟩ := hasT_some hb'.1
  obtain ⟨y, rfl, hy, _, q, hq⟩ := hasT_some hb'.2
  exact ⟨x, y, p, q, rfl, rfl, hx, hy, hp, hq, (swapT_at hp hq hx hy).2⟩
/-- what a swap leaves at an identity -/
theorem swap_val {T : Tst} {x y k : Nat} {p q : Pl} (hp : T x = some p) (hq : T y = some q) : updT (updT T x (some q)) y (some p) k = if k = y then some p else if k = x then some q else T k := by
  unfold updT; rfl
theorem HInv.swT (h : HInv n H) {a b : Int} (hb : swapB H.T a b = true) : HInv n (swT H a b) := by
  obtain ⟨x, y, p, q, rfl, rfl, hx, hy, hp, hq, e⟩ := swap_of hb
  have bx := h.inv.bd x p hp
  have by' := h.inv.bd y q hq
  have hv : ∀ k r, updT (updT H.T x (some q)) y (some p) k = some r → ∃ j, H.T j = some r := by
    intro k r hr
    rw [swap_val hp hq] at hr
    split at hr
    · exact ⟨x, by rw [hp]; exact hr⟩
    · split at hr
      · exact ⟨y, by rw [hq]; exact hr⟩
      · exact ⟨k, hr⟩
  unfold Wd.swT
  rw [e]
  refine ⟨h.good, ⟨fun k r hr => ?_, fun i j r hi hj => ?_⟩, fun k r hr => ?_, fun s c hs a b hc => ?_, fun k r hr => ?_, h.few, h.sum⟩
  · have hr' := hr
    simp only at hr
    rw [swap_val hp hq] at hr
    obtain ⟨j, hj⟩ := hv k r hr'
    refine ⟨?_, ?_, (h.inv.bd j r hj).2.2⟩
    · split at hr
      · omega
      · split at hr
        · omega
        · exact (h.inv.bd k r hr).1
    · split at hr
      · omega
      · split at hr
        · omega
        · exact (h.inv.bd k r hr).2.1
  · simp only at hi hj
    rw [swap_val hp hq] at hi hj
    have inj := h.inv.inj
    by_cases c1 : i = y
    · rw [if_pos c1] at hi
      cases hi
      by_cases d1 : j = y
      · omega
      · rw [if_neg d1] at hj
        by_cases d2 : j = x
        · rw [if_pos d2] at hj
          cases hj
          have := inj x y _ hp hq
          omega
        · rw [if_neg d2] at hj
          have := inj j x _ hj hp
          omega
    · rw [if_neg c1] at hi
      by_cases c2 : i = x
      · rw [if_pos c2] at hi
        cases hi
        by_cases d1 : j = y
        · rw [if_pos d1] at hj
          cases hj
          have := inj x y _ hp hq
          omega
        · rw [if_neg d1] at hj
          by_cases d2 : j = x
          · omega
          · rw [if_neg d2] at hj
            have := inj j y _ hj hq
            omega
      · rw [if_neg c2] at hi
        by_cases d1 : j = y
        · rw [if_pos d1] at hj
          cases hj
          have := inj i x _ hi hp
          omega
        · rw [if_neg d1] at hj
          by_cases d2 : j = x
          · rw [if_pos d2] at hj
            cases hj
            have := inj i y _ hi hq
            omega
          · rw [if_neg d2] at hj
            exact inj i j r hi hj
  · obtain ⟨j, hj⟩ := hv k r hr
    exact h.pl j r hj
  · obtain ⟨k, hk⟩ := h.full s c hs a b hc
    by_cases c1 : k = x
    · subst c1
      refine ⟨y, ?_⟩
      show updT (updT H.T k (some q)) y (some p) y = _
      rw [swap_val hp hq, if_pos rfl, ← hp, hk]
    · by_cases c2 : k = y
      · subst c2
        refine ⟨x, ?_⟩
        show updT (updT H.T x (some q)) k (some p) x = _
        rw [swap_val hp hq, if_neg (fun e => c1 e.symm), if_pos rfl, ← hq, hk]
      · refine ⟨k, ?_⟩
        show updT (updT H.T x (some q)) y (some p) k = _
        rw [swap_val hp hq, if_neg c2, if_neg c1, hk]
  · obtain ⟨j, hj⟩ := hv k r hr
    exact h.cel j r hj
theorem HInv.swap (h : HInv n H) (a b : Int) : HInv n (swapH H a b) := by
  unfold swapH
  split
  · rename_i hb
    split
    · exact ((h.swT hb).shI _).shI _
    · exact h.swT hb
  · exact h
theorem alcB_of {cl f : Int} (hb : alcB H cl f = true) : ∃ s : Nat, s < 5 ∧ fo f = s ∧ 0 ≤ f ∧ f ≤ 62 ∧ 0 ≤ cl ∧ cl ≤ 4095 ∧ ∃ i R, H.M s 0 = i :: R ∧ alcP H f = ((s : Int), i) ∧ alcH H cl f = { T := takeT H.T ((s : Int), i), M := upM H.M s (firstA (H.M s) 0 1), C := upC H.C ((s : Int), i) (cl, List.replicate f.toNat 2) } := by
  have hb' := hb
  unfold alcB at hb'
  rw [Bool.and_eq_true, Bool.and_eq_true, decide_eq_true_eq, decide_eq_true_eq] at hb'
  obtain ⟨⟨c0, c1⟩, f0, h0⟩ := hb'
  have hf := fo_bd f
  have hf2 : 0 ≤ f ∧ f ≤ 62 := by
    rcases fo_cases f with ⟨h, e⟩ | ⟨h1, h2, e⟩ | ⟨h1, h2, e⟩ | ⟨h1, h2, e⟩ | ⟨h1, h2, e⟩ | ⟨h1, h2, e⟩ <;> omega
  obtain ⟨s, hs⟩ : ∃ s : Nat, fo f = s := ⟨(fo f).toNat, by omega⟩
  have hs' : (fo f).toNat = s := by omega
  rw [hs'] at h0
  rcases hM : H.M s 0 with _ | ⟨i, R⟩
  · rw [hM] at h0; simp at h0
  · have ep : alcP H f = ((s : Int), i) := by
      unfold alcP firstR
      rw [hs', hM, hs]
    refine ⟨s, by omega, hs, hf2.1, hf2.2, c0, c1, i, R, hM, ep, ?_⟩
    unfold alcH
    rw [if_pos hb, ep, hs']
theorem HInv.miss (h : HInv n H) {s : Nat} {i : Int} (hs : s < 5) (hi : i ∈ H.M s 0) : ofR H.T ((s : Int), i) = none := by
  cases ho : ofR H.T ((s : Int), i) with
  | none => rfl
  | some k =>
    exfalso
    obtain ⟨h1, h2, h3, _⟩ := firstIn_some ho
    have hk : H.T k = some ((s : Int), i) := by simpa using h3
    obtain ⟨s', a1, a2, a3, a4, a5⟩ := h.pl k _ hk
    simp only at a2 a5
    have : s' = s := by omega
    subst this
    exact a5 hi
/-- what an Alloc that is right answers and leaves -/
theorem HInv.alc_of (h : HInv n H) {cl f : Int} (hb : alcB H cl f = true) : ∃ (s k : Nat) (i : Int) (R : List Int), s < 5 ∧ fo f = s ∧ 0 ≤ f ∧ f ≤ 62 ∧ (0 ≤ cl ∧ cl ≤ 4095) ∧ H.M s 0 = i :: R ∧ 4 ≤ k ∧ k < 1024 ∧ H.T k = none ∧ (0 ≤ i ∧ i < n s) ∧ alcI H cl f = k ∧ alcH H cl f = { T := updT H.T k (some ((s : Int), i)), M := upM H.M s (firstA (H.M s) 0 1), C := upC H.C ((s : Int), i) (cl, List.replicate f.toNat 2) } := by
  obtain ⟨s, hs, ef, f0, f1, c0, c1, i, R, hM, ep, eH⟩ := alcB_of hb
  have hi : i ∈ H.M s 0 := by rw [hM]; simp
  obtain ⟨k, hk⟩ := h.free hs hi
  obtain ⟨k1, k2, k3⟩ := freeR_at hk
  have ho := h.miss hs hi
  refine ⟨s, k, i, R, hs, ef, f0, f1, ⟨c0, c1⟩, hM, k1, k2, k3, (good_mem (h.good s hs)).1 (by unfold LL; simp [hi]), ?_, ?_⟩
  · unfold alcI
    rw [if_pos hb, ep]
    unfold takeI
    rw [ho, hk]; rfl
  · rw [eH]
    unfold takeT
    rw [ho, hk]; rfl
theorem HInv.alc (h : HInv n H) (cl f : Int) : HInv n (alcH H cl f) := by
  cases hb : alcB H cl f with
  | false => unfold alcH; rw [hb]; exact h
  | true =>
    obtain ⟨s, k, i, R, hs, ef, f0, f1, c0, hM, k1, k2, k3, i0, _, e⟩ := h.alc_of hb
    have few := h.few s hs
    rw [e]
    have hnd : i ∉ R := by
      have := good_nd (h.good s hs)
      rw [hM] at this
      exact fun hm => (List.nodup_cons.1 this).1 (by simp [hm])
    have hno : ∀ j, H.T j ≠ some ((s : Int), i) := ofR_none h.inv (h.miss hs (by rw [hM]; simp))
    have hrow : firstA (H.M s) 0 1 0 = R := by unfold firstA; rw [hM]; simp [upA]
    refine ⟨fun j hj => ?_, h.inv.upd k1 k2 ⟨⟨by simp only; omega, by simp only; omega⟩, ⟨by simp only; omega, by simp only; omega⟩⟩ (fun j _ => hno j), fun j p hp => ?_, fun j c hj a b hc => ?_, fun j p hp => ?_, h.few, h.sum⟩
    · show Good (n j) (upM H.M s _ j)
      unfold upM
      split
      · rename_i e; subst e; exact good_first (h.good _ hj) 0 (Or.inl rfl)
      · exact h.good j hj
    · simp only at hp
      unfold updT at hp
      split at hp
      · cases hp
        exact ⟨s, hs, rfl, i0.1, i0.2, by show i ∉ upM H.M s _ s 0; unfold upM; rw [if_pos rfl, hrow]; exact hnd⟩
      · obtain ⟨s', a1, a2, a3, a4, a5⟩ := h.pl j p hp
        refine ⟨s', a1, a2, a3, a4, ?_⟩
        show p.2 ∉ upM H.M s _ s' 0
        unfold upM
        split
        · rename_i e; subst e
          rw [hrow]
          intro hm
          exact a5 (by rw [hM]; simp [hm])
        · exact a5
    · have hc' : c ∉ upM H.M s (firstA (H.M s) 0 1) j 0 := hc
      unfold upM at hc'
      by_cases e : j = s
      · subst e
        rw [if_pos rfl, hrow] at hc'
        by_cases ei : c = i
        · subst ei; exact ⟨k, by show updT H.T k _ k = _; rw [updT_self]⟩
        · obtain ⟨m, hm⟩ := h.full j c hj a b (by rw [hM]; simp [ei, hc'])
          exact ⟨m, by show updT H.T k _ m = _; unfold updT; rw [if_neg (fun e => by subst e; rw [k3] at hm; cases hm)]; exact hm⟩
      · rw [if_neg e] at hc'
        obtain ⟨m, hm⟩ := h.full j c hj a b hc'
        exact ⟨m, by show updT H.T k _ m = _; unfold updT; rw [if_neg (fun e => by subst e; rw [k3] at hm; cases hm)]; exact hm⟩
    · simp only at hp ⊢
      unfold updT at hp
      split at hp
      · cases hp
        unfold upC
        rw [if_pos rfl]
        refine ⟨by simp only [List.length_replicate]; rw [show ((f.toNat : Nat) : Int) = f by omega]; exact ef, c0, fun x hx => ?_⟩
        have := List.eq_of_mem_replicate hx
        omega
      · unfold upC
        rw [if_neg (fun e : p = ((s : Int), i) => hno j (by rw [← e]; exact hp))]
        exact h.cel j p hp
theorem HInv.new (n : Nat → Nat) (h1 : ∀ s, s < 5 → n s ≤ 512) (h2 : n 0 + (n 1 + (n 2 + (n 3 + n 4))) ≤ 1020) : HInv n (newH n) :=
  ⟨fun s hs => good_start _, Inv.no, fun k p hp => (by cases hp), fun s c hs a b hc => by
    exfalso
    apply hc
    show c ∈ startA (n s) 0
    unfold startA upA rng
    rw [if_pos rfl]
    exact List.mem_map.2 ⟨c.toNat, List.mem_range.2 (by omega), by omega⟩, fun k p hp => (by cases hp), h1, h2⟩
end
end Wd
end Go.Proofs.YteiejjmhmmkdhaaGreat

/- Rows of words; a map of places to cells, of the call's own. -/
namespace Go.Proofs.YteiejjmhmmkdhaaGreat
open Go.RowKit Go.Maps
set_option linter.unusedVariables false
set_option maxRecDepth 100000
namespace Wd
def wrds (L : List Int) : List Value := L.map (.int .u32)
/-- a row of words -/
def SW (w : World) (v : Value) (L : List Int) : Prop := w.ownsRow 0 49 1 v L.length (wrds L)
theorem infoW : (Tryz.prog.info? 49).map (fun i => (i.zero, i.size, i.bytes)) = some (some (.int .u32 0), 1, 4) := by kernel_rfl
theorem SW.cases {w : World} {v : Value} {L : List Int} (h : SW w v L) : (v = .slice none 0 0 ∧ L = []) ∨ ∃ g cap, v = .slice (some ⟨g, 0, none⟩) L.length cap ∧ L.length ≤ cap ∧ cap ≤ maxLen ∧ g < w.heap.size ∧ w.ownsRow 0 49 1 (.slice (some ⟨g, 0, none⟩) L.length cap) L.length (wrds L) := by
  rcases h.2 with ⟨rfl, h0⟩ | ⟨g, cap, cur, rfl, _, hh, hle, hm, _⟩
  · exact Or.inl ⟨rfl, List.length_eq_zero_iff.1 h0⟩
  · exact Or.inr ⟨g, cap, rfl, hle, hm, (Array.getElem?_eq_some_iff.1 hh).1, h⟩
theorem SW.keep {w w' : World} {v : Value} {L : List Int} (h : SW w v L) (b : Below w.heap.size w w') : SW w' v L :=
  World.ownsRow.kept h ⟨b.os, b.tape, b.output, b.size, fun k hk _ => b.block k hk⟩ (row := none) (by cases v.ownBlock <;> simp)
theorem SW.same {w w' : World} {v : Value} {L : List Int} (h : SW w v L) (hb : ∀ g, v.ownBlock = some g → w'.heap[g]? = w.heap[g]?) : SW w' v L := by
  obtain ⟨h1, h2⟩ := h
  refine ⟨h1, ?_⟩
  rcases h2 with hh | ⟨g, cap, cur, e1, e2, e3, e4⟩
  · exact Or.inl hh
  · exact Or.inr ⟨g, cap, cur, e1, e2, (hb g (by rw [e1]; rfl)).trans e3, e4⟩
theorem SW.form {w : World} {v : Value} {L : List Int} (h : SW w v L) : ∃ a c, v = .slice a L.length c := by
  rcases h.2 with ⟨rfl, h0⟩ | ⟨g, cap, cur, rfl, _⟩
  · exact ⟨_, _, by rw [h0]⟩
  · exact ⟨_, _, rfl⟩
theorem SW.lt {w : World} {v : Value} {L : List Int} (h : SW w v L) (g : Nat) (hg : v.ownBlock = some g) : g < w.heap.size := by
  rcases h.cases with ⟨rfl, _⟩ | ⟨g', cap, rfl, _, _, hlt, _⟩
  · cases hg
  · cases hg; exact hlt
theorem wrow_cell {w : World} {e : TypeId} {g n cap k : Nat} {L : List Int} {x : Int} (h : w.ownsRow 0 e 1 (.slice (some ⟨g, 0, none⟩) n cap) n (wrds L)) (hx : L[k]? = some x) : w.cell? ⟨g, k, none⟩ = some (.int .u32 x) := by
  have hl : L.length = n := by have := h.1; simpa [wrds] using this
  have hk := (List.getElem?_eq_some_iff.1 hx).1
  rw [h.cellAt k (by omega)]
  simp [wrds, hx]
theorem laidOutP : laidOutB Tryz.prog = true := by kernel_rfl
theorem cellsI1 : Tryz.prog.cellsOf 3 = 1 := by kernel_rfl
def keyL (p : Pl) : Lit := .string (keyBytes [.int .i64 p.1, .int .i64 p.2])
section
variable {w w1 : World} {b c : Nat} {M : Pl → Option Value}
end
end Wd
end Go.Proofs.YteiejjmhmmkdhaaGreat

/- What the functions of chapter 1's own answer return, as far as the memory asks them. -/
namespace Go.Proofs.YteiejjmhmmkdhaaGreat
open Go.RowKit
set_option linter.unusedVariables false
namespace Wd
def idW (x : Int) : Int := if isOp x then x / 2 else 0
end Wd
end Go.Proofs.YteiejjmhmmkdhaaGreat

/- The document's own memory: how it lies; at. -/
namespace Go.Proofs.YteiejjmhmmkdhaaGreat
open Go.RowKit Go.Maps
set_option linter.unusedVariables false
namespace Wd
/-- a mill of the document's own, and the blocks in which it lies -/
def QM (w : World) (m : Nat) (A : Mst) (F : Nat → Prop) : Prop := ∃ V, F = (fun g => g = m ∨ ∃ j, j < 4 ∧ (V j).ownBlock = some g) ∧ RefM w m A V
theorem QM.lt {w : World} {m : Nat} {A : Mst} {F : Nat → Prop} (h : QM w m A F) : ∀ g, F g → g < w.heap.size := by
  obtain ⟨V, rfl, h⟩ := h
  rintro g (rfl | ⟨j, hj, hg⟩)
  · exact h.lt.1
  · exact h.lt.2 j g hj hg
theorem QM.same {w w' : World} {m : Nat} {A : Mst} {F : Nat → Prop} (h : QM w m A F) (hk : ∀ g, F g → w'.heap[g]? = w.heap[g]?) : QM w' m A F := by
  obtain ⟨V, rfl, h⟩ := h
  exact ⟨V, rfl, h.same hk⟩
/-- what the map holds: each cell's class and a row of its own of its fields -/
structure CM (w : World) (M : Pl → Option Value) (C : Pl → Int × List Int) (R : Nat → Prop) : Prop where
  some' : ∀ p v, M p = some v → ∃ u, v = .agg #[.int .i64 (C p).1, u] ∧ SW w u (C p).2 ∧ ∀ g, u.ownBlock = some g → R g
  none' : ∀ p, M p = none → C p = (0, [])
  lt : ∀ g, R g → g < w.heap.size
section
variable {w w' : World} {b : Nat} {n : Nat → Nat} {H : Hst} {ms : Nat → Nat} {FM : Nat → Nat → Prop} {mb c : Nat} {M : Pl → Option Value} {R : Nat → Prop}
theorem CM.same (h : CM w M H.C R) (hs : w.heap.size ≤ w'.heap.size) (hk : ∀ g, R g → w'.heap[g]? = w.heap[g]?) : CM w' M H.C R :=
  ⟨fun p v hp => by
    obtain ⟨u, h1, h2, h3⟩ := h.some' p v hp
    exact ⟨u, h1, h2.same (fun g hg => hk g (h3 g hg)), h3⟩, h.none', fun g hg => Nat.lt_of_lt_of_le (h.lt g hg) hs⟩
end
end Wd
end Go.Proofs.YteiejjmhmmkdhaaGreat

/- The document's own memory: what is read of it. -/
namespace Go.Proofs.YteiejjmhmmkdhaaGreat
open Go.RowKit Go.Maps
set_option linter.unusedVariables false
namespace Wd
section
variable {w : World} {m : Nat} {A : Mst} {F : Nat → Prop}
end
section
variable {w : World} {b : Nat} {n : Nat → Nat} {H : Hst} {ms : Nat → Nat} {FM : Nat → Nat → Prop} {mb c : Nat} {M : Pl → Option Value} {R : Nat → Prop}
theorem HInv.hl (h : HInv n H) {s : Nat} (hs : s < 5) : ∀ k, k < 4 → (H.M s k).length ≤ 8192 := fun k hk => Nat.le_trans (good_le (h.good s hs) k hk) (by have := h.few s hs; omega)
end
end Wd
end Go.Proofs.YteiejjmhmmkdhaaGreat

/- The document's own memory: Shade, Done. -/
namespace Go.Proofs.YteiejjmhmmkdhaaGreat
open Go.RowKit Go.Maps
set_option linter.unusedVariables false
namespace Wd
section
variable {w w' : World} {b : Nat} {n : Nat → Nat} {H : Hst} {ms : Nat → Nat} {FM : Nat → Nat → Prop} {mb c : Nat} {M : Pl → Option Value} {R F : Nat → Prop}
end
section
variable {w w' : World} {b : Nat} {n : Nat → Nat} {H : Hst} {F : Nat → Prop}
theorem newer_refl9 (F : Nat → Prop) (s : Nat) : Newer9 F F s := fun _ h => Or.inl h
theorem Newer9.trans {F F' F'' : Nat → Prop} {s t : Nat} (h : Newer9 F F' s) (g : Newer9 F' F'' t) (hst : s ≤ t) : Newer9 F F'' s := fun k hk => by
  rcases g k hk with h1 | h1
  · exact h k h1
  · exact Or.inr (Nat.le_trans hst h1)
theorem Ch9.then_ {F F' : Nat → Prop} {w w1 w2 : World} (h : Ch9 F w w1) (g : Ch9 F' w1 w2) (hn : Newer9 F F' w.heap.size) : Ch9 F w w2 :=
  ⟨g.os.trans h.os, g.tape.trans h.tape, g.output.trans h.output, Nat.le_trans h.size g.size, fun k hk hF => (g.block k (Nat.lt_of_lt_of_le hk h.size) (fun hF' => by
    rcases hn k hF' with h1 | h1
    · exact hF h1
    · omega)).trans (h.block k hk hF)⟩
end
end Wd
end Go.Proofs.YteiejjmhmmkdhaaGreat

/- The document's own memory: Hold, Done, Swap. -/
namespace Go.Proofs.YteiejjmhmmkdhaaGreat
open Go.RowKit Go.Maps
set_option linter.unusedVariables false
namespace Wd
section
variable {w w' : World} {b : Nat} {n : Nat → Nat} {H : Hst} {F : Nat → Prop}
theorem all_step {P : Nat → Bool} {k : Nat} : (List.range k).all P = true ↔ ∀ j, j < k → P j = true := by
  rw [List.all_eq_true]
  exact ⟨fun h j hj => h j (List.mem_range.2 hj), fun h j hj => h j (List.mem_range.1 hj)⟩
variable {ms : Nat → Nat} {FM : Nat → Nat → Prop} {mb c : Nat} {M : Pl → Option Value} {R : Nat → Prop}
end
end Wd
end Go.Proofs.YteiejjmhmmkdhaaGreat

/- An append to a row of words. -/
namespace Go.Proofs.YteiejjmhmmkdhaaGreat
open Go.RowKit
set_option linter.unusedVariables false
namespace Wd
theorem wone_at {w : World} {g : Nat} {i : Int} (h : w.cell? ⟨g, 0, none⟩ = some (.int .u32 i)) : ∀ j u, (wrds [i])[j]? = some u → w.cell? ((⟨g, 0, none⟩ : Addr).add j) = some u := by
  intro j u hu
  match j, hu with
  | 0, hu =>
    simp [wrds] at hu; subst hu
    rw [Addr.add_lit]; exact h
/-- what an append reads: nothing, or a row of numbers -/
def ReadsW (w : World) (u : Value) (M : List Int) : Prop := (u = .slice none 0 0 ∧ M = []) ∨ ∃ ad c, u = .slice (some ad) M.length c ∧ ∀ j x, (wrds M)[j]? = some x → w.cell? (ad.add j) = some x
theorem SW.reads {w : World} {v : Value} {M : List Int} (h : SW w v M) : ReadsW w v M := by
  rcases h.cases with ⟨rfl, rfl⟩ | ⟨g, cap, rfl, _, _, _, hown⟩
  · exact Or.inl ⟨rfl, rfl⟩
  · refine Or.inr ⟨_, _, rfl, fun j x hx => ?_⟩
    simp only [wrds, List.getElem?_map, Option.map_eq_some_iff] at hx
    obtain ⟨y, hy, rfl⟩ := hx
    rw [Addr.add_lit, Nat.zero_add]
    exact wrow_cell hown hy
theorem ReadsW.one {w : World} {g : Nat} {i : Int} (h : w.cell? ⟨g, 0, none⟩ = some (.int .u32 i)) : ReadsW w (.slice (some ⟨g, 0, none⟩) 1 1) [i] := Or.inr ⟨_, _, rfl, wone_at h⟩
end Wd
end Go.Proofs.YteiejjmhmmkdhaaGreat

/- The document's own memory: Put. -/
namespace Go.Proofs.YteiejjmhmmkdhaaGreat
open Go.RowKit Go.Maps
set_option linter.unusedVariables false
namespace Wd
section
variable {w w' : World} {b : Nat} {n : Nat → Nat} {H : Hst} {F : Nat → Prop}
variable {ms : Nat → Nat} {FM : Nat → Nat → Prop} {mb c : Nat} {M : Pl → Option Value} {R : Nat → Prop}
theorem HInv.place (h : HInv n H) {i : Int} (hh : hasT H.T i = true) : atP H.T i ∈ allP n := by
  obtain ⟨k, p, rfl, h4, hk, hp, e⟩ := h.has hh
  obtain ⟨s, h1, h2, h3, h5, _⟩ := h.pl k p hp
  rw [e]
  exact mem_allP.2 ⟨s, h1, h2, h3, h5⟩
theorem below_set {w w' : World} {s : Nat} (h : Below s w w') {a : Addr} (ha : s ≤ a.block) (v : Value) : Below s w (w'.setCell a v) :=
  ⟨h.os, h.tape, h.output, by rw [World.size_setCell]; exact h.size, fun k hk => (Below.heap_setCell _ _ _ _ (by omega)).trans (h.block k hk)⟩
theorem below_grown {w w1 w2 : World} {s : Nat} {r : Option Nat} (h : Below s w w1) (g : w1.grownBy w2 r) (hr : ∀ k, r = some k → s ≤ k) (hs : s ≤ w1.heap.size) : Below s w w2 :=
  ⟨g.os.trans h.os, g.tape.trans h.tape, g.output.trans h.output, Nat.le_trans h.size g.size, fun k hk => (g.block k (by omega) (fun e => by have := hr k e.symm; omega)).trans (h.block k hk)⟩
end
end Wd
end Go.Proofs.YteiejjmhmmkdhaaGreat

/- The document's own memory: Alloc. -/
namespace Go.Proofs.YteiejjmhmmkdhaaGreat
open Go.RowKit Go.Maps
set_option linter.unusedVariables false
namespace Wd
/-- while the fields are laid: the boxes of the place and of the cell -/
structure AS9 (w1 : World) (sb : Nat) (cl s i : Int) (k : Nat) (v : Value) (wr : World) : Prop where
  c0 : wr.cell? ⟨sb + 1, 0, none⟩ = some (.int .i64 cl)
  c1 : wr.cell? ⟨sb + 1, 1, none⟩ = some v
  z1 : wr.frozen? ⟨sb + 1, 1, none⟩ = false
  p0 : wr.cell? ⟨sb, 0, none⟩ = some (.int .i64 s)
  p1 : wr.cell? ⟨sb, 1, none⟩ = some (.int .i64 i)
  own : wr.ownsRow (sb + 2) 49 1 v k (wrds (List.replicate k 2))
  bel : Below sb w1 wr
  size : sb + 2 ≤ wr.heap.size
theorem AS9.next {w1 wr wC : World} {sb : Nat} {cl s i : Int} {k : Nat} {v v1 : Value} {o : Obj} (h : AS9 w1 sb cl s i k v wr) (hown : wC.ownsRow (sb + 2) 49 1 v1 (k + 1) (wrds (List.replicate k 2 ++ [2]))) (hg : (wr.alloc o).grownBy wC v.ownBlock) :
    AS9 w1 sb cl s i (k + 1) v1 (wC.setCell ⟨sb + 1, 1, none⟩ v1) := by
  have hs := h.size
  have s1 : (wr.alloc o).heap.size = wr.heap.size + 1 := by simp
  have hov : ∀ g, v.ownBlock = some g → sb + 2 ≤ g := fun g hg => (h.own.lt g hg).1
  have hov1 : ∀ g, v1.ownBlock = some g → sb + 2 ≤ g := fun g hg => (hown.lt g hg).1
  have hC : Below sb w1 wC := below_grown (h.bel.alloc (by omega) o) hg (fun g hg => by have := hov g hg; omega) (by omega)
  have hb : ∀ g, g < sb + 2 → wC.heap[g]? = wr.heap[g]? := fun g hg2 => (hg.block g (by omega) (fun e => by have := hov g e.symm; omega)).trans (Below.heap_alloc _ _ _ (by omega))
  have e1 := hb (sb + 1) (by omega)
  have e0 := hb sb (by omega)
  have c1' : wC.cell? ⟨sb + 1, 1, none⟩ = some v := (World.cell?_of_block (a := ⟨sb + 1, 1, none⟩) e1).trans h.c1
  refine ⟨?_, World.cell?_setCell_same _ _ _ c1', ?_, ?_, ?_, ?_, below_set hC (by show sb ≤ sb + 1; omega) _, ?_⟩
  · exact (World.cell?_setCell_other _ _ _ _ (by intro e; injection e with _ h2; omega)).trans ((World.cell?_of_block (a := ⟨sb + 1, 0, none⟩) e1).trans h.c0)
  · rw [World.frozen?_setCell]; exact (World.frozen?_of_block (a := ⟨sb + 1, 1, none⟩) e1).trans h.z1
  · exact (World.cell?_setCell_far _ _ _ _ (by show sb + 1 ≠ sb; omega)).trans ((World.cell?_of_block (a := ⟨sb, 0, none⟩) e0).trans h.p0)
  · exact (World.cell?_setCell_far _ _ _ _ (by show sb + 1 ≠ sb; omega)).trans ((World.cell?_of_block (a := ⟨sb, 1, none⟩) e0).trans h.p1)
  · rw [List.replicate_succ']
    exact ownsRow_setCell_other hown (a := ⟨sb + 1, 1, none⟩) (by intro e; have := hov1 _ e; simp only at this; omega) _
  · rw [World.size_setCell]
    have := hg.size
    omega
section
variable {w w' : World} {b : Nat} {n : Nat → Nat} {H : Hst} {F : Nat → Prop}
end
end Wd
end Go.Proofs.YteiejjmhmmkdhaaGreat

/- The document's own memory: Scan. -/
namespace Go.Proofs.YteiejjmhmmkdhaaGreat
open Go.RowKit Go.Maps
set_option linter.unusedVariables false
namespace Wd
theorem shI_C {H : Hst} {i : Int} : (shI H i).C = H.C := by unfold shI sh; split <;> rfl
theorem shW_C {H : Hst} {x : Int} : (shW H x).C = H.C := by unfold shW; split; exact shI_C; rfl
theorem holdH_C {l : List Int} : ∀ {H : Hst}, (holdH H l).C = H.C := by
  unfold holdH
  induction l with
  | nil => intro H; rfl
  | cons x l ih => intro H; rw [List.foldl_cons, ih, shW_C]
section
variable {w w' : World} {b : Nat} {n : Nat → Nat} {H : Hst} {F : Nat → Prop}
end
end Wd
end Go.Proofs.YteiejjmhmmkdhaaGreat

/- The document's own memory: Flip. -/
namespace Go.Proofs.YteiejjmhmmkdhaaGreat
open Go.RowKit Go.Maps
set_option linter.unusedVariables false
namespace Wd
section
variable {w w' : World} {b : Nat} {n : Nat → Nat} {H : Hst} {F : Nat → Prop}
end
end Wd
end Go.Proofs.YteiejjmhmmkdhaaGreat

/- The document's own memory: it is made. -/
namespace Go.Proofs.YteiejjmhmmkdhaaGreat
open Go.RowKit Go.Maps
set_option linter.unusedVariables false
namespace Wd
def upN (ms : Nat → Nat) (k g : Nat) : Nat → Nat := fun j => if j = k then g else ms j
theorem RefT.ext {X : Nat → Option Value} {w : World} {b : Nat} {T : Tst} (h : RefT X w b T) {k : Nat} (hk : 3072 ≤ k) {v0 v : Value} (hx : X k = some v0) : RefT (fun j => if j = k then some v else X j) (w.setCell ⟨b, k, none⟩ v) b T := by
  have far : ∀ {o : Nat}, o ≠ k → (w.setCell ⟨b, k, none⟩ v).cell? ⟨b, o, none⟩ = w.cell? ⟨b, o, none⟩ := fun hne => World.cell?_setCell_other _ _ _ _ (by intro e; injection e with _ h2; exact hne h2.symm)
  refine ⟨fun j hj => (far (by omega)).trans (h.ci j hj), fun j hj => (far (by omega)).trans (h.cs j hj), fun j hj => (far (by omega)).trans (h.cl j hj), fun j => by rw [World.frozen?_setCell]; exact h.z j, fun j hj => ?_⟩
  by_cases e : j = k
  · subst e
    simp only [if_true]
    exact World.cell?_setCell_same _ _ _ ((h.x j hk).trans hx)
  · simp only [if_neg e]
    exact (far e).trans (h.x j hj)
end Wd
end Go.Proofs.YteiejjmhmmkdhaaGreat

/- What the laws ask of a memory, whoever keeps it. -/
namespace Go.Proofs.YteiejjmhmmkdhaaGreat
open Go.RowKit Go.Maps
set_option linter.unusedVariables false
namespace Wd
abbrev HAt := World → Nat → (Nat → Nat) → Hst → (Nat → Prop) → Prop
/-- what a call leaves: the memory H', in the blocks F' -/
abbrev Left (HA : HAt) (w w' : World) (p : Nat) (n : Nat → Nat) (H' : Hst) (F F' : Nat → Prop) : Prop := HA w' p n H' F' ∧ Ch9 F w w' ∧ Newer9 F F' w.heap.size
abbrev i64 (x : Int) : Prop := -9223372036854775808 ≤ x ∧ x ≤ 9223372036854775807
def cfgV (n : Nat → Nat) (p : Int) : Value := .agg #[.int .i64 (n 0 : Nat), .int .i64 (n 1 : Nat), .int .i64 (n 2 : Nat), .int .i64 (n 3 : Nat), .int .i64 (n 4 : Nat), .int .i64 p]
/-- what the laws ask of the package's memory: 'HA w p n H F': at block p a memory of n cells, it is H; it lies in the blocks F -/
structure HeapK (HA : HAt) : Prop where
  lt : ∀ {w p n H F}, HA w p n H F → ∀ k, F k → k < w.heap.size
  keep : ∀ {w w' p n H F}, HA w p n H F → w.heap.size ≤ w'.heap.size → (∀ k, F k → w'.heap[k]? = w.heap[k]?) → HA w' p n H F
  inv : ∀ {w p n H F}, HA w p n H F → HInv n H
  alloc : ∀ {w p n H F} (cl f : Int), HA w p n H F → i64 cl → i64 f → Calls Tryz.prog 147 #[.pointer (some ⟨p, 0, none⟩), .int .i64 cl, .int .i64 f] w fun e w' => ∃ F', e = .returned (.int .i64 (alcI H cl f)) ∧ Left HA w w' p n (alcH H cl f) F F'
  get : ∀ {w p n H F} (i j : Int), HA w p n H F → i64 i → i64 j → Calls Tryz.prog 27 #[.pointer (some ⟨p, 0, none⟩), .int .i64 i, .int .i64 j] w fun e w' => ∃ F', e = .returned (.tuple #[.int .u32 (getV H i j), .bool (getB H i j)]) ∧ Left HA w w' p n H F F'
  put : ∀ {w p n H F} (i j x : Int), HA w p n H F → i64 i → i64 j → 0 ≤ x → x ≤ 4294967295 → Calls Tryz.prog 149 #[.pointer (some ⟨p, 0, none⟩), .int .i64 i, .int .i64 j, .int .u32 x] w fun e w' => ∃ F', e = .returned (.bool (putB9 H i j x)) ∧ Left HA w w' p n (putH H i j x) F F'
  cls : ∀ {w p n H F} (i : Int), HA w p n H F → i64 i → Calls Tryz.prog 25 #[.pointer (some ⟨p, 0, none⟩), .int .i64 i] w fun e w' => ∃ F', e = .returned (.int .i64 (clsI H i)) ∧ Left HA w w' p n H F F'
  fld : ∀ {w p n H F} (i : Int), HA w p n H F → i64 i → Calls Tryz.prog 26 #[.pointer (some ⟨p, 0, none⟩), .int .i64 i] w fun e w' => ∃ F', e = .returned (.int .i64 (fldI H i)) ∧ Left HA w w' p n H F F'
  col : ∀ {w p n H F} (i : Int), HA w p n H F → i64 i → Calls Tryz.prog 153 #[.pointer (some ⟨p, 0, none⟩), .int .i64 i] w fun e w' => ∃ F', e = .returned (.int .i64 (colI H i)) ∧ Left HA w w' p n H F F'
  new : ∀ {w} (n : Nat → Nat) (p : Int), (∀ s, s < 5 → n s ≤ 512) → 1 ≤ n 0 + (n 1 + (n 2 + (n 3 + n 4))) → n 0 + (n 1 + (n 2 + (n 3 + n 4))) ≤ 1020 → 1 ≤ p → p ≤ 16 → Calls Tryz.prog 23 #[cfgV n p] w fun e w' => ∃ q F, e = .returned (.pointer (some ⟨q, 0, none⟩)) ∧ HA w' q n (newH n) F ∧ (∀ k, F k → w.heap.size ≤ k) ∧ Below w.heap.size w w'
  none' : ∀ {w} (p : Int), i64 p → Calls Tryz.prog 23 #[cfgV (fun _ => 0) p] w fun e w' => e = .returned (.pointer .none) ∧ Below w.heap.size w w'
section
variable {HA : HAt} {w0 wr w1 : World} {p b : Nat} {n : Nat → Nat} {H H' G G' : Hst} {F F' D D' : Nat → Prop} {wE : World} {E : Nat → Prop}
end
theorem drewN_bel (w : World) (q : Nat) : Below w.heap.size w (w.drewN q) := ⟨rfl, rfl, rfl, Nat.le_refl _, fun _ _ => rfl⟩
section
variable {w : World} {b : Nat} {n : Nat → Nat} {H : Hst} {F : Nat → Prop}
end
end Wd
end Go.Proofs.YteiejjmhmmkdhaaGreat
