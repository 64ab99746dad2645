/- Texts joined: HG, HR, HK, WR, YM, YN, UTC. -/
import Derived.Test.YteiejjmhmmkdhaaGreatJ3
import Derived.Test.YteiejjmhmmkdhaaGreatJ8
import Derived.Test.YteiejjmhmmkdhaaGreatJ9
import Derived.Test.YteiejjmhmmkdhaaGreatJ12
import Derived.Test.YteiejjmhmmkdhaaGreatJ13
import Derived.Test.YteiejjmhmmkdhaaGreatJ14
import Derived.Test.YteiejjmhmmkdhaaGreatJ15
import Derived.Test.YteiejjmhmmkdhaaGreatJ18
import Derived.Test.YteiejjmhmmkdhaaGreatJ19
/- Load: a program's objects are made, then filled. -/
namespace Go.Proofs.YteiejjmhmmkdhaaGreat
open Go.RowKit
set_option linter.unusedVariables false
set_option maxRecDepth 20000
namespace Wd
section
variable {σ:Type} {M:Sto σ} {P:World→σ→(Nat→Prop)→Prop} {p:Nat} {sz:σ→Nat}
theorem StoH.szN (K:StoH M P p sz) (S:σ) (O:List ObjA):∀ k,sz (stA M S O k).1≤sz S+k
 | 0=>Nat.le_refl _
 | k+1=>Nat.le_trans (K.szA _ _ _) (by have:=StoH.szN K S O k;omega)
theorem StoH.szO (K:StoH M P p sz) (S:σ) (ids:List Int) (O:List ObjA):∀ k,sz (stO M S ids O k)≤sz S
 | 0=>Nat.le_refl _
 | k+1=>Nat.le_trans (K.szF _ _ _ _ _) (StoH.szO K S ids O k)
theorem StoH.ids64 (K:StoH M P p sz) (S:σ) (O:List ObjA) (hs:sz S≤500):∀ k,sz S+k≤2000→∀ id∈(stA M S O k).2,b64 id
 | 0,_=>fun id h=>by simp [stA] at h
 | k+1,hk=>fun id h=>by
  simp only [stA,List.mem_append,List.mem_singleton] at h
  rcases h with h | rfl
  ·exact StoH.ids64 K S O hs k (by omega) id h
  ·exact K.ids _ _ _ (Nat.le_trans (K.szN S O k) (by omega))
variable {w0 w1 wr w' w2:World} {F0 F F':Nat→Prop} {oa:Option Addr} {n oc:Nat} {iv iv':Value} {T T':σ} {ids:List Int}
theorem LdI.upH (K:StoH M P p sz) (h:LdI P w0 F0 oa n oc wr iv T F ids) (b:Below wr.heap.size wr w'):LdI P w0 F0 oa n oc w' iv T F ids :=
 h.same (K.same h.st b.size (fun k hk=>b.block k (K.lt h.st k hk))) (h.cg.trans (Cg.below _ b)) (fun k hk _=>b.block k hk) b.size
theorem LdI.stH (K:StoH M P p sz) (h:LdI P w0 F0 oa n oc wr iv T F ids) (hP:P w' T' F') (c:Cg F wr w') (hn:∀ k,F' k→F k∨wr.heap.size≤k) (hF0:∀ k,F0 k→k < w0.heap.size):LdI P w0 F0 oa n oc w' iv T' F' ids :=
 h.stp hP c hn hF0 (fun v hv=>own_lt h.own v hv)
set_option maxHeartbeats 64000000 in
theorem loadH_c (K:StoH M P p sz) {w:World} {u:Value} {U:UnitA} {S:σ} (hu:UnK w1 u U) (hb:Below w1.heap.size w1 w) (hr:unitR U=0) (ho:ObsOk U.objects) (hP:P w S F0) (hF0:∀ k,F0 k→w1.heap.size≤k) (hs:sz S≤500) (hid:∀ k o,U.objects[k]?=some o→M.ai (stA M S U.objects k).1 o.cls (o.flds.length:Int)≠-1) :
  Calls Tryz.prog 20 #[.iface 57 (pV p),u] w fun e w'=>∃ iv F',e=.returned (.tuple #[iv,.bool true])∧P w' (ldS M S U.objects) F'∧w'.ownsRow 0 3 1 iv U.objects.length (ints (ldI M S U.objects))∧Cg F0 w w'∧(∀ k,F' k→F0 k∨w.heap.size≤k)∧∀ k,iv.ownBlock=some k→¬ F' k∧w.heap.size≤k:=by
 have hm:∀ w:World,(method 95 57 (pV p) "Alloc").run Tryz.prog w=.ok (147,pV p) w:=fun _=>by kernel_rfl
 have hmf:∀ (fn:Fn) (first cap:Array Value) (w:World),(Instr.makeFunc fn first cap).run Tryz.prog w=.ok (.func fn first cap) w:=fun _ _ _ _=>rfl
 obtain⟨na,nc,ca,cc,ma,mc,oa,oc,rfl,hS⟩:=hu.ex
 have hbF:Hid (∀ w',Cg F0 w w'→Below w1.heap.size w1 w'):=Lib.hid (fun w' c=>hb.trans (c.toB hb.size hF0))
 have PU:=Lib.hid (fun (w':World) (b:Cg F0 w w')=>uright_c (hu.up (hbF.out _ b)))
 rw [hr] at PU
 have hlw:=Lib.hid (K.lt hP)
 have hob:=Lib.hid (fun (k:Nat) (x:ObjA) (hx:U.objects[k]?=some x)=>hS.o.at hx)
 have hst:=Lib.hid (LdI.begin (P:=P) (oa:=oa) (n:=U.objects.length) (oc:=oc) (a:=.cells #[.slice na U.names.length nc,.slice ca U.classes.length cc,.slice ma U.methods.length mc,.slice oa U.objects.length oc,.int .i64 U.main] 32) hP (K.lt hP) (fun w' b=>K.same hP b.size (fun k hk=>b.block k (K.lt hP k hk))) rfl)
 have hUl:=Lib.hid ho.len
 have h1000:=ho.len
 clear hu hS hr
 generalize U.names.length=l1 at *
 generalize U.classes.length=l2 at *
 generalize U.methods.length=l3 at *
 generalize U.main=mm at *
 generalize hl4:U.objects.length=l4 at *
 rw [show ldS M S U.objects=stO M (stA M S U.objects l4).1 (stA M S U.objects l4).2 U.objects l4 by unfold ldS ldI;rw [hl4],show ldI M S U.objects=(stA M S U.objects l4).2 by unfold ldI;rw [hl4]]
 obtain⟨x0,_⟩:=box3 w (.cells #[.slice na l1 nc,.slice ca l2 cc,.slice ma l3 mc,.slice oa l4 oc,.int .i64 mm] 32) (.cells #[.slice none 0 0] 34) (.cells #[.bool false] 4)
 generalize hW:(((w.alloc (.cells #[.slice na l1 nc,.slice ca l2 cc,.slice ma l3 mc,.slice oa l4 oc,.int .i64 mm] 32)).alloc (.cells #[.slice none 0 0] 34)).alloc (.cells #[.bool false] 4))=W at *
 have b0:W.cell? ⟨w.heap.size,0,none⟩=some (.slice na l1 nc):=by rw [Lib.cell_of_heap x0];rfl
 have b1:W.cell? ⟨w.heap.size,1,none⟩=some (.slice ca l2 cc):=by rw [Lib.cell_of_heap x0];rfl
 have b2:W.cell? ⟨w.heap.size,2,none⟩=some (.slice ma l3 mc):=by rw [Lib.cell_of_heap x0];rfl
 have b3:W.cell? ⟨w.heap.size,3,none⟩=some (.slice oa l4 oc):=by rw [Lib.cell_of_heap x0];rfl
 have b4:W.cell? ⟨w.heap.size,4,none⟩=some (.int .i64 mm):=by rw [Lib.cell_of_heap x0];rfl
 clear x0
 go_enter_defers Tryz.func20,Tryz.ntmps20
 go_upto_region 2 with fail
 clear hW
 go_upto_region 4 with (go_at_call 45;refine (PU.out W hst.out.cg).mono ?_;rintro e w3 ⟨rfl,hb3⟩;have hI:=Lib.hid (hst.out.upH K hb3);clear hst hb3 b0 b1 b2 b3 b4)
 have b3:=hI.out.b3
 obtain⟨i0,hi0,hz0,hz1,hz2⟩:=infoP8 infoI8
 go_wp2
 clear b3 PU
 go_loopw [22] (fun i wr=>∃ (k:Nat) (iv:Value) (F:Nat→Prop),k≤l4∧i=.int .i64 k∧Hid (LdI P w F0 oa l4 oc wr iv (stA M S U.objects k).1 F (stA M S U.objects k).2)) (fun i _=>l4 - (intOf i).toNat)
 case atStart=>exact⟨0,_,F0,by omega,rfl,hI⟩
 case round =>
  clear hI
  obtain⟨k,iv,F,hk,rfl,hI⟩:=hrel
  obtain⟨ai,ci,e,_⟩:=own_form hI.out.own
  rw [stA_len] at e
  subst e
  by_cases hlt:k < l4
  ·as_aux_lemma =>
   have hlt':decide ((k:Int) < (l4:Int))=true:=by simp;omega
   have p1:(k:Int) < (l4:Int):=by omega
   obtain⟨x,hx⟩:∃ x,U.objects[k]?=some x:=⟨U.objects[k]'(by omega),by simp⟩
   obtain⟨i1,g,off,fv,rfl,d0,d1,pf⟩:=hob.out k x hx
   obtain⟨fa,fc,rfl,_,_⟩:=pf.form
   replace d0:=cell_up (hbF.out wr hI.out.cg) d0
   replace d1:=cell_up (hbF.out wr hI.out.cg) d1
   have hne:=hid k x hx
   have hne2:(M.ai (stA M S U.objects k).1 x.cls (x.flds.length:Int) == -1)=false:=by simpa using hne
   have hsz:=Lib.hid (Nat.le_trans (K.szN S U.objects k) (show sz S+k≤2000 by omega))
   have hI3:=Lib.hid (hI.out.upH K ((Below.refl _ _).alloc (Nat.le_refl _) (.cells #[.int .i64 x.cls,.slice fa x.flds.length fc] 66)))
   have h62:=(okA_cases x.cls (x.flds.length:Int)).elim (fun h=>h.2.2.2.2.1) (fun h=>by have:=ho.ok x (List.mem_of_getElem? hx);rcases h with h | h <;> rw [h.1] at this <;> cases this)
   have PA:=Lib.hid (K.alloc x.cls (x.flds.length:Int) hI3.out.st hsz.out i1 ⟨by omega,by omega⟩)
   have hss:=Lib.hid (stA_succ M (S:=S) hx)
   have hle:=Lib.hid (stA_len M S U.objects k)
   have z0:(wr.alloc (.cells #[.int .i64 x.cls,.slice fa x.flds.length fc] 66)).cell? ⟨wr.heap.size,0,none⟩=some (.int .i64 x.cls):=World.cell?_alloc_new _ _ _ 0
   have z1:(wr.alloc (.cells #[.int .i64 x.cls,.slice fa x.flds.length fc] 66)).cell? ⟨wr.heap.size,1,none⟩=some (.slice fa x.flds.length fc):=World.cell?_alloc_new _ _ _ 1
   have hmx:Hid (k+1≤maxLen):=Lib.hid (by simp only [maxLen];omega)
   have hbx:Hid ((k+1)*8≤140737488355328):=Lib.hid (by omega)
   clear hx pf i1 hne h62 hI hid hob ho hP hb hs hF0
   generalize (stA M S U.objects k).2=is at *
   generalize (stA M S U.objects k).1=Tk at *
   generalize M.ai Tk x.cls (x.flds.length:Int)=id at *
   go_upto_region 7 with fail
   generalize wr.alloc (.cells #[.int .i64 x.cls,.slice fa x.flds.length fc] 66)=W3 at *
   generalize wr.heap.size=q3 at *
   clear d0 d1
   go_wp2_with (first | (go_at_call 147;refine (PA.out).mono ?_;rintro e w5 ⟨rfl,F2,hP5,hc5,hn5⟩;have hI5:=Lib.hid (hI3.out.stH K hP5 hc5 hn5 hlw.out);have c4:=hI5.out.c4;have hown5:=Lib.hid (own_same hI5.out.own (w':=w5.alloc (.cells #[.int .i64 id] 3)) (fun k hk=>Below.heap_alloc _ _ _ (own_lt hI5.out.own k hk)) (by simp));have hlt5:=Lib.hid (K.lt hP5);have hsm5:=Lib.hid (fun (w':World) (a:w5.heap.size≤w'.heap.size) (b:∀ k,F2 k→w'.heap[k]?=w5.heap[k]?)=>K.same hP5 a b);clear hP5 hc5 hn5 PA z0 z1) | (at_builtin;refine wpList_app_any rfl (.tmp 35) (.tmp 37) 34 rfl 0 3 i0 (.int .i64 0) 1 8 Tryz.underlying34 hi0 hz0 hz1 hz2 rfl (by decide) (.slice ai k ci) (.slice (some ⟨w5.heap.size,0,none⟩) 1 1) k 1 (ints is) [.int .i64 id] (by simp [Act.eval]) (by simp [Act.eval]) (by have:=hown5.out;rw [hle.out] at this;exact this) (rd_one _ _ _) rfl (by simp [Value.oneCell']) hmx.out hbx.out (Nat.zero_le _) ?_;intro v9 w9 hown9 hg9 hat9;(obtain⟨pc9,pz9⟩:=hI5.out.cell hg9);have hI9:=Lib.hid (hI5.out.app hlt5.out hsm5.out (by rw [hle.out];exact hown9) hg9 hat9);(obtain⟨a9,c9,e9,_⟩:=own_form hown9);subst e9;clear hown9 hg9 hat9 c4 hown5 hlt5 hsm5 hI5))
   go_roundw
   case rel=>exact⟨k+1,_,F2,by omega,by go_num,by rw [hss.out];exact hI9⟩
   case measure=>simp [intOf];omega
  ·have e:k=l4:=by omega
   subst e
   have hd:decide ((k:Int) < (k:Int))=false:=by simp
   have b3:=hI.out.b3
   have hil:(stA M S U.objects k).2.length=k:=stA_len M S U.objects k
   have hi64:=Lib.hid (K.ids64 S U.objects hs k (by omega))
   have hsz:=Lib.hid (Nat.le_trans (K.szN S U.objects k) (show sz S+k≤2000 by omega))
   generalize hids:(stA M S U.objects k).2=ids at *
   generalize hT0:(stA M S U.objects k).1=T0 at *
   replace hids:=Lib.hid hids
   replace hT0:=Lib.hid hT0
   clear hi0 hz0 hz1 hz2
   go_wp2
   clear b3
   go_loopw [43] (fun i wr=>∃ (j:Nat) (F:Nat→Prop),j≤k∧i=.int .i64 j∧Hid (LdI P w F0 oa k oc wr (.slice ai k ci) (stO M T0 ids U.objects j) F ids)) (fun i _=>k - (intOf i).toNat)
   case atStart=>exact⟨0,F,by omega,rfl,hI⟩
   case round =>
    clear hI
    obtain⟨j,F,hj,rfl,hI⟩:=hrel
    by_cases hlt2:j < k
    ·as_aux_lemma =>
     have hlt':decide ((j:Int) < (k:Int))=true:=by simp;omega
     have p1:(j:Int) < (k:Int):=by omega
     obtain⟨x,hx⟩:∃ x,U.objects[j]?=some x:=⟨U.objects[j]'(by omega),by simp⟩
     obtain⟨i1,g,off,fv,rfl,d0,d1,pf⟩:=hob.out j x hx
     obtain⟨fa,fc,rfl,_,_⟩:=pf.form
     replace d0:=cell_up (hbF.out wr hI.out.cg) d0
     replace d1:=cell_up (hbF.out wr hI.out.cg) d1
     have hjl:j < ids.length:=by omega
     have hidx:ids[j]?=some ids[j]:=by simp
     have h64:=hi64.out ids[j] (by simp)
     have hxm:=List.mem_of_getElem? hx
     have h62:x.flds.length≤62:=(okA_cases x.cls (x.flds.length:Int)).elim (fun h=>by have:=h.2.2.2.2.1;omega) (fun h=>by have:=ho.ok x hxm;rcases h with h | h <;> rw [h.1] at this <;> cases this)
     have hI3:=Lib.hid (hI.out.upH K ((Below.refl _ _).alloc (Nat.le_refl _) (.cells #[.int .i64 x.cls,.slice fa x.flds.length fc] 66)))
     have hs2:=Lib.hid (Nat.le_trans (K.szO T0 ids U.objects j) hsz.out)
     have PF:=Lib.hid (fun (W:World) (b:Below (wr.alloc (.cells #[.int .i64 x.cls,.slice fa x.flds.length fc] 66)).heap.size (wr.alloc (.cells #[.int .i64 x.cls,.slice fa x.flds.length fc] 66)) W)=>fillH_c (ia:=ai) (n:=k) (c:=ci) (fa:=fa) (fc:=fc) (V:=x.flds) (ids:=ids) K (hI3.out.upH K b).st hs2.out h64 (fun f hf e=>by have:=ho.ref x hxm f hf e;omega) (by omega) (fun w' c=>⟨pf.up (hbF.out w' ((hI3.out.upH K b).cg.trans' c (fun q hq=>((hI3.out.upH K b).nF q hq).elim (fun e=>Or.inl e.1) (fun e=>Or.inr (by omega))))),by
      have hI4:=hI3.out.upH K b
      have:=own_same hI4.own (w':=w') (fun q hq=>c.block q (own_lt hI4.own q hq) (hI4.of q hq).1) c.size
      rw [hil] at this;exact this⟩))
     have hst4:=Lib.hid (fun (W:World) (b:Below (wr.alloc (.cells #[.int .i64 x.cls,.slice fa x.flds.length fc] 66)).heap.size (wr.alloc (.cells #[.int .i64 x.cls,.slice fa x.flds.length fc] 66)) W) (w5:World) (F2:Nat→Prop) (hP5:P w5 (stF M (stO M T0 ids U.objects j) ids ids[j] x.flds x.flds.length) F2) (hc5:Cg F W w5) (hn5:∀ q,F2 q→F q∨W.heap.size≤q)=>(hI3.out.upH K b).stH K hP5 hc5 hn5 hlw.out)
     have hso:=stO_succ M (S:=T0) (ids:=ids) hx hidx
     rw [← hso] at hst4 PF
     have hqF:=Lib.hid (show ¬ F wr.heap.size from fun e=>by have:=K.lt hI.out.st _ e;omega)
     have z1:(wr.alloc (.cells #[.int .i64 x.cls,.slice fa x.flds.length fc] 66)).cell? ⟨wr.heap.size,1,none⟩=some (.slice fa x.flds.length fc):=World.cell?_alloc_new _ _ _ 1
     have hown3:=hI3.out.own
     obtain⟨gi,rfl,hci⟩:∃ gi,ai=some ⟨gi,0,none⟩∧Hid (∀ (W:World),W.ownsRow 0 3 1 (.slice (some ⟨gi,0,none⟩) k ci) ids.length (ints ids)→W.cell? ⟨gi,j,none⟩=some (.int .i64 ids[j])):=by
      rcases hown3.2 with ⟨_,e2⟩ | ⟨gi,cap',cur,e,_⟩
      ·omega
      ·cases e
       exact⟨gi,rfl,Lib.hid (fun W h=>own_cell h (by simp [ints]))⟩
     have hrg:=Lib.hid (fun (W:World) (iv:Value) (T:σ) (F2:Nat→Prop) (h:LdI P w F0 (some ⟨g,off,none⟩) k oc W (.slice (some ⟨gi,0,none⟩) k ci) T F2 ids)=>(⟨h.c4,hci.out W h.own⟩:_∧_))
     clear hx pf i1 h62 hI hob ho hP hb hs hF0 hxm hso hidx h64 hown3 hid
     have hjk:(j:Int) < (k:Int):=p1
     generalize ids[j]=id at *
     go_upto_region 15 with fail
     generalize hW3:wr.alloc (.cells #[.int .i64 x.cls,.slice fa x.flds.length fc] 66)=W3 at *
     have hq3:Hid (wr.heap.size < W3.heap.size):=Lib.hid (by rw [← hW3];simp)
     clear hW3
     generalize wr.heap.size=q3 at *
     clear d0 d1
     have cA:=(hrg.out _ .nilIface _ _ hI3.out).1
     have cB:=(hrg.out _ .nilIface _ _ hI3.out).2
     refine wp_noP ?_
     refine wp_region_held_drew (S:=(fun wr'=>wr'.cell? ⟨w.heap.size+1,0,none⟩=some (.slice (some ⟨gi,0,none⟩) k ci)∧wr'.cell? ⟨gi,j,none⟩=some (.int .i64 id)∧wr'.cell? ⟨q3,1,none⟩=some (.slice fa x.flds.length fc))) (by kernel_rfl) ?_ (fun hHeld=>?_)
     ·(try dsimp only);exact⟨cA,cB,z1⟩
     try simp only [Act.put,nA]
     refine tk (i:=0) (oi:=⟨some 48,.move (.tmp 0),95,"load.go:29",#[],none⟩) (hy:=by intro w hSw;(try dsimp only at hSw);obtain⟨q0,q1,q2⟩:=hSw;go_simp <;> with_reducible rfl) ?_
     try simp only [Act.put,nA]
     refine tk (i:=1) (oi:=⟨some 49,.load 34 (.tmp 4),34,"load.go:29",#[],none⟩) (hy:=by intro w hSw;(try dsimp only at hSw);obtain⟨q0,q1,q2⟩:=hSw;go_simp <;> with_reducible rfl) ?_
     try simp only [Act.put,nA]
     refine tk (i:=2) (oi:=⟨some 50,.move (.tmp 9),3,"load.go:29",#[],none⟩) (hy:=by intro w hSw;(try dsimp only at hSw);obtain⟨q0,q1,q2⟩:=hSw;go_simp <;> with_reducible rfl) ?_
     try simp only [Act.put,nA]
     refine tk (i:=3) (oi:=⟨some 51,.indexAddr 34 (.tmp 49) (.tmp 50),0,"load.go:29",#[⟨1,.data⟩,⟨2,.data⟩],none⟩) (hy:=by intro w hSw;(try dsimp only at hSw);obtain⟨q0,q1,q2⟩:=hSw;go_simp <;> with_reducible rfl) ?_
     try simp only [Act.put,nA]
     refine tk (i:=4) (oi:=⟨some 52,.load 3 (.tmp 51),3,"load.go:29",#[⟨3,.data⟩],none⟩) (hy:=by intro w hSw;(try dsimp only at hSw);obtain⟨q0,q1,q2⟩:=hSw;go_simp <;> with_reducible rfl) ?_
     try simp only [Act.put,nA]
     refine tk (i:=5) (oi:=⟨some 53,.fieldAddr 66 (.tmp 10) 1,0,"load.go:29",#[],none⟩) (hy:=by intro w hSw;(try dsimp only at hSw);obtain⟨q0,q1,q2⟩:=hSw;go_simp <;> with_reducible rfl) ?_
     try simp only [Act.put,nA]
     refine tk (i:=6) (oi:=⟨some 54,.load 64 (.tmp 53),64,"load.go:29",#[⟨5,.data⟩],none⟩) (hy:=by intro w hSw;(try dsimp only at hSw);obtain⟨q0,q1,q2⟩:=hSw;go_simp <;> with_reducible rfl) ?_
     try simp only [Act.put,nA]
     refine tk (i:=7) (oi:=⟨some 55,.load 34 (.tmp 4),34,"load.go:29",#[],none⟩) (hy:=by intro w hSw;(try dsimp only at hSw);obtain⟨q0,q1,q2⟩:=hSw;go_simp <;> with_reducible rfl) ?_
     try simp only [Act.put,nA]
     refine wpAnyH_ready (rs:=[8]) (by kernel_rfl) (by simp) ?_
     refine AllReadyH.cons (o:=⟨some 56,.call { callee:=.value (.func 46),args:=#[.tmp 48,.tmp 52,.tmp 54,.tmp 55],argTypes:=#[95,3,64,34] },0,"load.go:29",#[⟨0,.data⟩,⟨4,.data⟩,⟨6,.data⟩,⟨7,.data⟩],none⟩) rfl (fun K9 hK=>?_) AllReadyH.nil
     go_simp
     refine (PF.out _ (Below.refl _ _).drew).mono ?_
     rintro e w5 ⟨rfl,F2,hP5,hc5,hn5⟩
     have hI5:=Lib.hid (hst4.out _ (Below.refl _ _).drew w5 F2 hP5 hc5 hn5)
     have y0:=(hrg.out _ .nilIface _ _ hI5.out).1
     have y1:=(hrg.out _ .nilIface _ _ hI5.out).2
     have y2:=(World.cell?_of_block (a:=⟨q3,1,none⟩) (hc5.block q3 hq3.out hqF.out)).trans z1
     clear hP5 hc5 hn5
     go_wp2_with fail
     refine hK.out _ _ ?_ ?_
     ·(try dsimp only);exact⟨y0,y1,y2⟩
     clear hK K9 hHeld;intro hHeld
     try simp only [Act.put,nA]
     refine wpAnyH_done (by kernel_rfl) ?_ _
     refine noP_normal ?_
     go_wp2
     go_roundw
     case rel=>exact⟨j+1,F2,by omega,by go_num,hI5⟩
     case measure=>simp [intOf];omega
    ·have e:j=k:=by omega
     subst e
     have hd:decide ((j:Int) < (j:Int))=false:=by simp
     have c4:=hI.out.c4
     have z4:=hI.out.z4
     have c5:=hI.out.c5
     have z5:=hI.out.z5
     go_wp2
     refine leaves_cons (f:=44) (args:=#[.pointer (some ⟨w.heap.size+1,0,none⟩),.pointer (some ⟨w.heap.size+1+1,0,none⟩)]) (by simp) (by simp [go_sem]) ?_
     refine (catch_c _ _ _).mono ?_
     rintro e u' w'' ⟨rfl,rfl,rfl⟩
     obtain⟨k4,k5,kb⟩:=two_set (x:=.slice ai j ci) (y:=.bool true) c4 c5
     have hsz9:((wr.setCell ⟨w.heap.size+1,0,none⟩ (.slice ai j ci)).setCell ⟨w.heap.size+1+1,0,none⟩ (.bool true)).heap.size=wr.heap.size:=by simp [World.setCell]
     have hz3:=hI.out.sz
     have ke:∀ q,q≠w.heap.size+1→q≠w.heap.size+1+1→((wr.setCell ⟨w.heap.size+1,0,none⟩ (.slice ai j ci)).setCell ⟨w.heap.size+1+1,0,none⟩ (.bool true)).heap[q]?=wr.heap[q]?:=fun q h1 h2=>(Below.heap_setCell _ _ _ _ h2).trans (Below.heap_setCell _ _ _ _ h1)
     clear c4 c5 z4 z5
     generalize ((wr.setCell ⟨w.heap.size+1,0,none⟩ (.slice ai j ci)).setCell ⟨w.heap.size+1+1,0,none⟩ (.bool true))=W9 at *
     have fin:P W9 (stO M (stA M S U.objects j).1 (stA M S U.objects j).2 U.objects j) F∧W9.ownsRow 0 3 1 (.slice ai j ci) j (ints (stA M S U.objects j).2)∧Cg F0 w W9∧(∀ k,F k→F0 k∨w.heap.size≤k)∧∀ k,(Value.slice ai j ci).ownBlock=some k→¬ F k∧w.heap.size≤k:=by
      rw [hids.out,hT0.out]
      refine⟨K.same hI.out.st (by omega) (fun q hq=>ke q (fun e=>?_) (fun e=>?_)),?_,hI.out.cg.belowB (kb _ (by omega)),fun q hq=>(hI.out.nF q hq).elim (fun e=>Or.inl e.1) (fun e=>Or.inr (by omega)),fun q hq=>⟨(hI.out.of q hq).1,by have:=(hI.out.of q hq).2;omega⟩⟩
      ·rcases hI.out.nF q hq with h1 | h1 <;> omega
      ·rcases hI.out.nF q hq with h1 | h1 <;> omega
      ·have:=own_same hI.out.own (w':=W9) (fun q hq=>by have:=(hI.out.of q hq).2;exact ke q (by omega) (by omega)) (by omega)
       rw [hil] at this;exact this
     simp [Leaves,settle,results,Tryz.results20,go_sem,k4,k5]
     exact⟨F,fin⟩
end
end Wd
end Go.Proofs.YteiejjmhmmkdhaaGreat

/- A memory that keeps a program's objects, plainly. -/
namespace Go.Proofs.YteiejjmhmmkdhaaGreat
open Go.RowKit Go.Maps
set_option linter.unusedVariables false
set_option maxRecDepth 20000
namespace Wd
structure HL (n:Nat→Nat) (H:Hst) (L:List Ob8):Prop where
 inv:HInv n H
 at':∀ k x,L[k]?=some x→∃ P,H.T (4+k)=some P∧H.C P=x
 no:∀ k,4+L.length≤k→H.T k=none
 u:∀ s,s < 5→n s≤(H.M s 0).length+L.length
def memM:Sto Hst:=⟨alcH,alcI,putH⟩
theorem shI_M0 (H:Hst) (i:Int) (s:Nat):(shI H i).M s 0=H.M s 0:=by
 unfold shI
 split
 ·show upM H.M _ _ s 0=_
  unfold upM
  split
  ·rename_i e
   rw [e]
   exact shade_0 _ _
  ·rfl
 ·rfl
theorem shW_M0 (H:Hst) (x:Int) (s:Nat):(shW H x).M s 0=H.M s 0:=by
 unfold shW
 split
 ·exact shI_M0 _ _ _
 ·rfl
theorem putH_T (H:Hst) (i j x:Int):(putH H i j x).T=H.T:=by
 unfold putH
 split
 ·split
  ·rw [shW_T];rfl
  ·rfl
 ·rfl
theorem putH_M0 (H:Hst) (i j x:Int) (s:Nat):(putH H i j x).M s 0=H.M s 0:=by
 unfold putH
 split
 ·split
  ·rw [shW_M0];rfl
  ·rfl
 ·rfl
theorem putH_C {H:Hst} {i j x:Int} (h:putB9 H i j x=true):(putH H i j x).C=(putC H i j x).C:=by
 unfold putH
 rw [if_pos h]
 split
 ·rw [shW_C]
 ·rfl
section
variable {n:Nat→Nat} {H:Hst} {L:List Ob8}
theorem HL.new (h1:∀ s,s < 5→n s≤512) (h2:n 0+(n 1+(n 2+(n 3+n 4)))≤1020):HL n (newH n) [] :=
 ⟨HInv.new n h1 h2,fun k x h=>by simp at h,fun k _=>rfl,fun s _=>by show n s≤(startA (n s) 0).length+0;unfold startA;simp [upA,rng]⟩
theorem HL.freeK (h:HL n H L) (hl:L.length≤1000):freeR H.T=some (4+L.length):=by
 cases hf:freeR H.T with
 | none =>
  have:=firstIn_no hf (4+L.length) (by omega) (by omega)
  rw [h.no _ (Nat.le_refl _)] at this
  cases this
 | some k =>
  obtain⟨h1,h2,h3,h4⟩:=firstIn_some hf
  congr 1
  rcases Nat.lt_or_ge k (4+L.length) with hlt | hge
  ·exfalso
   obtain⟨P,hP,_⟩:=h.at' (k - 4) (L[k - 4]'(by omega)) (by simp)
   rw [show 4+(k - 4)=k by omega] at hP
   rw [hP] at h3
   cases h3
  ·rcases Nat.eq_or_lt_of_le hge with e | e
   ·exact e.symm
   ·exfalso
    have:=h4 (4+L.length) (by omega) e
    rw [h.no _ (Nat.le_refl _)] at this
    cases this
theorem HL.alloc (h:HL n H L) {c f:Int} (hok:okA c f=true) (hr:∀ s,s < 5→L.length < n s) (hl:L.length≤1000):alcI H c f=alI L c f∧HL n (alcH H c f) (alL L c f):=by
 have a1:alI L c f=4+(L.length:Int):=by unfold alI;rw [if_pos hok]
 have a2:alL L c f=L++[newO c f]:=by unfold alL;rw [if_pos hok]
 unfold okA at hok
 rw [Bool.and_eq_true,decide_eq_true_eq,decide_eq_true_eq] at hok
 obtain⟨⟨c0,c1⟩,f0,f1⟩:=hok
 obtain⟨s,hs,hf⟩:∃ s:Nat,s < 5∧fo f=s:=by
  rcases fo_cases f with ⟨g,_⟩ | ⟨_,_,e⟩ | ⟨_,_,e⟩ | ⟨_,_,e⟩ | ⟨_,_,e⟩ | ⟨_,_,e⟩
  ·omega
  ·exact⟨0,by omega,by omega⟩
  ·exact⟨1,by omega,by omega⟩
  ·exact⟨2,by omega,by omega⟩
  ·exact⟨3,by omega,by omega⟩
  ·exact⟨4,by omega,by omega⟩
 obtain⟨i,R,hM⟩:∃ i R,H.M s 0=i :: R:=by
  cases e:H.M s 0 with
  | nil=>have a:=h.u s hs;have b:=hr s hs;rw [e] at a;simp at a;omega
  | cons i R=>exact⟨i,R,rfl⟩
 obtain⟨e1,e2⟩:=h.inv.alc_at c0 c1 hf hM (h.freeK hl) hs
 have hm:=h.inv.miss (s:=s) (i:=i) hs (by rw [hM];simp)
 refine⟨by rw [e1,a1];omega,?_⟩
 have hinv:=h.inv.alc c f
 rw [e2] at hinv ⊢
 rw [a2]
 refine⟨hinv,fun k x hx=>?_,fun k hk=>?_,fun t ht=>?_⟩
 ·by_cases hk:k < L.length
  ·rw [List.getElem?_append_left hk] at hx
   obtain⟨P,hP,hC⟩:=h.at' k x hx
   have hne:P≠((s:Int),i):=fun e=>ofR_none h.inv.inv hm _ (by rw [← e];exact hP)
   refine⟨P,?_,?_⟩
   ·show updT H.T _ _ (4+k)=_
    unfold updT
    rw [if_neg (by omega)]
    exact hP
   ·show upC H.C _ _ P=_
    rw [upC_ne hne]
    exact hC
  ·rw [List.getElem?_append_right (by omega)] at hx
   have hk0:k - L.length=0:=by
    have:=(List.getElem?_eq_some_iff.1 hx).1
    simp at this
    omega
   rw [hk0] at hx
   simp at hx
   subst hx
   have:k=L.length:=by omega
   subst this
   refine⟨((s:Int),i),updT_self _,?_⟩
   show upC H.C _ _ _=_
   rw [upC_same]
   rfl
 ·rw [List.length_append,List.length_singleton] at hk
  show updT H.T _ _ k=none
  unfold updT
  rw [if_neg (by omega)]
  exact h.no k (by omega)
 ·have hu:=h.u t ht
  show n t≤(upM H.M s _ t 0).length+_
  rw [List.length_append,List.length_singleton]
  unfold upM
  split
  ·rename_i e
   subst e
   have:firstA (H.M t) 0 1 0=R:=by unfold firstA;rw [hM];simp [upA]
   rw [this]
   rw [hM] at hu
   simp at hu
   omega
  ·omega
theorem HL.has (h:HL n H L) {id:Int} (hh:hasL L id=true):∃ k P,id=((4+k:Nat):Int)∧k < L.length∧H.T (4+k)=some P∧H.C P=obL L id∧L[k]?=some (obL L id)∧(id - 4).toNat=k:=by
 obtain⟨k,x,e,hk,hx,ho⟩:=hasL_y hh
 obtain⟨P,hP,hC⟩:=h.at' k x hx
 exact⟨k,P,by omega,hk,hP,by rw [hC,ho],by rw [ho];exact hx,by omega⟩
theorem HL.out (h:HL n H L) {id:Int} (hh:hasL L id=false):hasT H.T id=false:=by
 cases e:hasT H.T id with
 | false=>rfl
 | true =>
  obtain⟨k,rfl,hk,_,P,hP⟩:=hasT_some e
  have hb:=h.inv.inv.bd k P hP
  unfold hasL at hh
  rw [decide_eq_false_iff_not] at hh
  rw [h.no k (by omega)] at hP
  cases hP
theorem HL.ofT (h:HL n H L) (hl:L.length≤1000) (id:Int):clsI H id=clsL L id∧fldI H id=fldL L id∧fsI H id=(if hasL L id then (obL L id).2 else []):=by
 cases hh:hasL L id with
 | false =>
  have e:=h.out hh
  unfold clsI clsL fldI fldL fsI
  rw [e,hh]
  exact⟨rfl,rfl,rfl⟩
 | true =>
  obtain⟨k,P,e,hk,hP,hC,_⟩:=h.has hh
  obtain⟨_,_,e3,e4,e5⟩:=at_id (H:=H) (by omega) hP
  rw [← e,hC] at e3 e4 e5
  refine⟨?_,?_,?_⟩
  ·rw [e3];unfold clsL;rw [if_pos hh]
  ·rw [e4];unfold fldL;rw [if_pos hh]
  ·rw [e5];rfl
theorem HL.inO (h:HL n H L) (hl:L.length≤1000) (id j:Int):decide (0≤j∧j < ((fsI H id).length:Int))=Wd.inO L id j:=by
 rw [(h.ofT hl id).2.2]
 unfold Wd.inO
 cases hh:hasL L id with
 | true=>rfl
 | false=>rw [if_neg (by simp)];simp
theorem HL.get (h:HL n H L) (hl:L.length≤1000) (id j:Int):getV H id j=gvL L id j∧getB H id j=Wd.inO L id j:=by
 have e:=h.inO hl id j
 refine⟨?_,e⟩
 unfold getV gvL
 rw [← e]
 have e5:=(h.ofT hl id).2.2
 by_cases c:0≤j∧j < ((fsI H id).length:Int)
 ·rw [if_pos c,if_pos (by simpa using c)]
  cases hh:hasL L id with
  | true=>rw [e5,if_pos hh]
  | false=>rw [e5,if_neg (by rw [hh];simp)] at c;simp at c;omega
 ·rw [if_neg c,if_neg (by simpa using c)]
theorem HL.putB (h:HL n H L) (hl:L.length≤1000) (id j x:Int):putB9 H id j x=puB L id j x:=by
 unfold putB9 puB
 rw [h.inO hl id j]
theorem HL.put (h:HL n H L) (hl:L.length≤1000) (id j x:Int) (hx:0≤x∧x≤4294967295):HL n (putH H id j x) (puL L id j x):=by
 have eb:=h.putB hl id j x
 cases hb:puB L id j x with
 | false =>
  rw [hb] at eb
  unfold putH puL
  rw [eb,hb]
  exact h
 | true =>
  rw [hb] at eb
  have hh:hasL L id=true:=by
   unfold puB Wd.inO at hb
   rw [Bool.and_eq_true,Bool.and_eq_true] at hb
   exact hb.1.1
  obtain⟨k,P,e,hk,hP,hC,hx0,ek⟩:=h.has hh
  obtain⟨_,e2,_,_,e5⟩:=at_id (H:=H) (by omega) hP
  rw [← e] at e2 e5
  have eL:puL L id j x=L.set k (puO (obL L id) j x):=by unfold puL;rw [if_pos hb,ek]
  have eC:(putH H id j x).C=upC H.C P (puO (obL L id) j x):=by
   rw [putH_C eb]
   show upC H.C (atP H.T id) _=_
   rw [e2,e5,hC]
   rfl
  rw [eL]
  refine⟨h.inv.put id j x hx,fun k' y hy=>?_,fun k' hk'=>?_,fun s hs=>?_⟩
  ·rw [putH_T,eC]
   by_cases ekk:k'=k
   ·subst ekk
    rw [List.getElem?_set_self hk] at hy
    exact⟨P,hP,by rw [upC_same];exact Option.some.inj hy⟩
   ·rw [List.getElem?_set_ne (fun e=>ekk e.symm)] at hy
    obtain⟨P',hP',hC'⟩:=h.at' k' y hy
    refine⟨P',hP',?_⟩
    rw [upC_ne (fun e=>by subst e;have:=h.inv.inv.inj _ _ _ hP' hP;omega)]
    exact hC'
  ·rw [putH_T]
   rw [List.length_set] at hk'
   exact h.no k' hk'
  ·rw [putH_M0,List.length_set]
   exact h.u s hs
theorem HL.stA (h:HL n H L) {O:List ObjA} (ho:∀ o∈O,okA o.cls (o.flds.length:Int)=true) (hr:∀ s,s < 5→L.length+O.length≤n s) (hl:L.length+O.length≤1000):∀ k,k≤O.length→(Wd.stA memM H O k).2=(Wd.stA idealM L O k).2∧HL n (Wd.stA memM H O k).1 (Wd.stA idealM L O k).1∧(Wd.stA idealM L O k).1.length=L.length+k
 | 0,_=>⟨rfl,h,rfl⟩
 | k+1,hk=>by
  obtain⟨i1,i2,i3⟩:=HL.stA h ho hr hl k (by omega)
  obtain⟨o,hx⟩:∃ o,O[k]?=some o:=⟨O[k]'(by omega),by simp⟩
  have hok:=ho o (List.mem_of_getElem? hx)
  obtain⟨j1,j2⟩:=i2.alloc hok (fun s hs=>by have:=hr s hs;omega) (by omega)
  rw [stA_succ memM hx,stA_succ idealM hx]
  refine⟨?_,j2,?_⟩
  ·show _++[alcI _ _ _]=_++[alI _ _ _]
   rw [i1,j1]
  ·show (alL _ _ _).length=_
   unfold alL
   rw [if_pos hok,List.length_append,List.length_singleton,i3]
   omega
theorem HL.stF (ids:List Int) (id:Int) (V:List (Int × Int)) (h:HL n H L) (hl:L.length≤1000):∀ j,HL n (Wd.stF memM H ids id V j) (Wd.stF idealM L ids id V j)∧(Wd.stF idealM L ids id V j).length=L.length
 | 0=>⟨h,rfl⟩
 | j+1=>by
  obtain⟨i1,i2⟩:=HL.stF ids id V h hl j
  refine⟨i1.put (by omega) id (j:Int) _ (valW_bd _ _),?_⟩
  show (puL _ _ _ _).length=_
  rw [puL_len,i2]
theorem HL.stO (ids:List Int) (O:List ObjA) (h:HL n H L) (hl:L.length≤1000):∀ k,HL n (Wd.stO memM H ids O k) (Wd.stO idealM L ids O k)∧(Wd.stO idealM L ids O k).length=L.length
 | 0=>⟨h,rfl⟩
 | k+1=>by
  obtain⟨i1,i2⟩:=HL.stO ids O h hl k
  obtain⟨j1,j2⟩:=i1.stF ids (ids.getD k 0) (O.getD k ⟨0,[]⟩).flds (by omega) (O.getD k ⟨0,[]⟩).flds.length
  exact⟨j1,by rw [← i2];exact j2⟩
theorem HL.ld (h:HL n H L) {O:List ObjA} (ho:∀ o∈O,okA o.cls (o.flds.length:Int)=true) (hr:∀ s,s < 5→L.length+O.length≤n s) (hl:L.length+O.length≤1000):ldI memM H O=ldI idealM L O∧HL n (ldS memM H O) (ldS idealM L O)∧(ldS idealM L O).length=L.length+O.length:=by
 obtain⟨i1,i2,i3⟩:=h.stA ho hr hl O.length (Nat.le_refl _)
 refine⟨i1,?_,?_⟩
 ·unfold ldS
  rw [show ldI memM H O=ldI idealM L O from i1]
  exact (i2.stO _ O (by omega) O.length).1
 ·unfold ldS
  rw [(i2.stO _ O (by omega) O.length).2,i3]
theorem HL.aiok (h:HL n H L) {O:List ObjA} (ho:∀ o∈O,okA o.cls (o.flds.length:Int)=true) (hr:∀ s,s < 5→L.length+O.length≤n s) (hl:L.length+O.length≤1000) (k:Nat) (o:ObjA) (hx:O[k]?=some o):memM.ai (Wd.stA memM H O k).1 o.cls (o.flds.length:Int)≠-1:=by
 have hk:=(List.getElem?_eq_some_iff.1 hx).1
 obtain⟨i1,i2,i3⟩:=h.stA ho hr hl k (by omega)
 have hok:=ho o (List.mem_of_getElem? hx)
 obtain⟨j1,_⟩:=i2.alloc hok (fun s hs=>by have:=hr s hs;omega) (by omega)
 show alcI _ _ _≠-1
 rw [j1]
 unfold alI
 rw [if_pos hok]
 omega
end
end Wd
end Go.Proofs.YteiejjmhmmkdhaaGreat

/- The landed memory keeps objects as Load asks. -/
namespace Go.Proofs.YteiejjmhmmkdhaaGreat
open Go.RowKit Go.Maps
set_option linter.unusedVariables false
set_option maxRecDepth 20000
namespace Wd
theorem takeI_64 (T:Tst) (p:Pl):b64 (takeI T p):=by
 unfold takeI b64
 split
 ·omega
 ·cases hf:freeR T with
  | none=>show -9223372036854775808≤(-1:Int)∧(-1:Int)≤_;omega
  | some k =>
   obtain⟨h1,h2,_⟩:=freeR_at hf
   show -9223372036854775808≤(k:Int)∧(k:Int)≤_
   omega
theorem alcI_64 (H:Hst) (c f:Int):b64 (alcI H c f):=by
 unfold alcI
 split
 ·exact takeI_64 _ _
 ·exact⟨by omega,by omega⟩
theorem Ch9.cg {F:Nat→Prop} {w w':World} (h:Ch9 F w w'):Cg F w w':=⟨h.os,h.tape,h.output,h.size,h.block⟩
theorem heapK8 (p:Nat) (n:Nat→Nat):StoH memM (fun w H F=>HA w p n H F) p (fun _=>0) where
 lt:=fun h=>KK.lt h
 same:=fun h hs e=>KK.keep h hs e
 szA:=fun _ _ _=>by omega
 szP:=fun _ _ _ _=>Nat.le_refl _
 ids:=fun S c n _=>alcI_64 S c n
 alloc:=fun c n h _ hc hn=>(KK.alloc c n h hc hn).mono (by rintro e w' ⟨F',rfl,l1,l2,l3⟩;exact⟨rfl,F',l1,l2.cg,l3⟩)
 put:=fun id i x h _ hi hj hx=>(KK.put id i x h hi hj hx.1 hx.2).mono (by rintro e w' ⟨F',rfl,l1,l2,l3⟩;exact⟨_,F',rfl,l1,l2.cg,l3⟩)
def LH (wE:World) (F:Nat→Prop) (p:Nat) (n:Nat→Nat) (H:Hst) (wr:World):Prop:=∃ Fr,HA wr p n H Fr∧Cg F wE wr∧∀ k,Fr k→F k∨wE.heap.size≤k
section
variable {wE wr w':World} {F:Nat→Prop} {p:Nat} {n:Nat→Nat} {H:Hst}
theorem LH.start (h:HA wE p n H F):LH wE F p n H wE:=⟨F,h,Cg.refl _ _,fun k hk=>Or.inl hk⟩
theorem LH.cg (h:LH wE F p n H wr):Cg F wE wr:=h.choose_spec.2.1
theorem LH.up (h:LH wE F p n H wr) (b:Below wr.heap.size wr w'):LH wE F p n H w':=by
 obtain⟨Fr,h1,h2,h3⟩:=h
 exact⟨Fr,KK.keep h1 b.size (fun k hk=>b.block k (KK.lt h1 k hk)),h2.trans (Cg.below _ b),h3⟩
theorem LH.left {Fr F':Nat→Prop} (h1:HA wr p n H Fr) (h2:Cg F wE wr) (h3:∀ k,Fr k→F k∨wE.heap.size≤k) (l:Left HA wr w' p n H Fr F'):LH wE F p n H w' :=
 ⟨F',l.1,h2.trans' l.2.1.cg h3,fun k hk=>(l.2.2 k hk).elim (h3 k) (fun e=>Or.inr (Nat.le_trans h2.size e))⟩
theorem lh_cls (h:LH wE F p n H wr) (i:Int) (hi:b64 i):Calls Tryz.prog 25 #[pV p,.int .i64 i] wr fun e w'=>e=.returned (.int .i64 (clsI H i))∧LH wE F p n H w':=by
 obtain⟨Fr,h1,h2,h3⟩:=h
 refine (KK.cls i h1 hi).mono ?_
 rintro e w' ⟨F',rfl,l⟩
 exact⟨rfl,LH.left h1 h2 h3 l⟩
theorem lh_fld (h:LH wE F p n H wr) (i:Int) (hi:b64 i):Calls Tryz.prog 26 #[pV p,.int .i64 i] wr fun e w'=>e=.returned (.int .i64 (fldI H i))∧LH wE F p n H w':=by
 obtain⟨Fr,h1,h2,h3⟩:=h
 refine (KK.fld i h1 hi).mono ?_
 rintro e w' ⟨F',rfl,l⟩
 exact⟨rfl,LH.left h1 h2 h3 l⟩
theorem lh_get (h:LH wE F p n H wr) (i j:Int) (hi:b64 i) (hj:b64 j):Calls Tryz.prog 27 #[pV p,.int .i64 i,.int .i64 j] wr fun e w'=>e=.returned (.tuple #[.int .u32 (getV H i j),.bool (getB H i j)])∧LH wE F p n H w':=by
 obtain⟨Fr,h1,h2,h3⟩:=h
 refine (KK.get i j h1 hi hj).mono ?_
 rintro e w' ⟨F',rfl,l⟩
 exact⟨rfl,LH.left h1 h2 h3 l⟩
end
end Wd
end Go.Proofs.YteiejjmhmmkdhaaGreat

/- What a tape's objects become in an Ideal, plainly. -/
namespace Go.Proofs.YteiejjmhmmkdhaaGreat
open Go.RowKit
set_option linter.unusedVariables false
set_option maxRecDepth 20000
namespace Wd
theorem tape_obs {U:UnitA} (h:TapeU U):ObsOk U.objects∧∀ o∈U.objects,∀ v∈o.flds,valOk U.objects.length v:=by
 have h1:=h.ob1
 have hc1:=h.cl1
 refine⟨⟨by omega,fun o ho=>?_,fun o ho f hf e=>?_⟩,fun o ho v hv=>?_⟩
 ·obtain⟨k,hk⟩:=List.getElem?_of_mem ho
  have hb:=h.obs k o hk
  have key:0≤o.cls∧o.cls≤4095∧o.flds.length≤62:=by
   rcases hb.cls with ⟨g,d,hd,e⟩ | ⟨_,g,e⟩
   ·have hl:=(List.getElem?_eq_some_iff.1 hd).1
    have:=(h.cls _ d hd).1.fld (by omega)
    omega
   ·omega
  unfold okA
  rw [Bool.and_eq_true,decide_eq_true_eq,decide_eq_true_eq]
  omega
 ·obtain⟨k,hk⟩:=List.getElem?_of_mem ho
  have hv:=(h.obs k o hk).flds f hf
  rcases hv with rfl | rfl | rfl | ⟨g,_⟩ | ⟨_,g1,g2⟩
  ·simp at e
  ·simp at e
  ·simp at e
  ·omega
  ·exact⟨g1,g2⟩
 ·obtain⟨k,hk⟩:=List.getElem?_of_mem ho
  exact (h.obs k o hk).flds v hv
def idsN (n:Nat):List Int:=(List.range n).map (fun i:Nat=>4+(i:Int))
theorem take_nxt8 {α:Type} {O:List α} {k:Nat} {x:α} (hx:O[k]?=some x):O.take (k+1)=O.take k++[x]:=by rw [List.take_add_one,hx];rfl
theorem idsN_len (n:Nat):(idsN n).length=n:=by simp [idsN]
theorem idsN_at {n k:Nat} (h:k < n):(idsN n)[k]?=some (4+(k:Int)):=by simp [idsN,h]
theorem idsN_getD {n k:Nat} (h:k < n):(idsN n).getD k 0=4+(k:Int):=by rw [List.getD_eq_getElem?_getD,idsN_at h];rfl
def newA (o:ObjA):Ob8:=newO o.cls (o.flds.length:Int)
def fulA (ids:List Int) (o:ObjA):Ob8:=(o.cls,o.flds.map (fun v=>valW v ids))
theorem valW_nz {n:Nat} (hn:n≤1000) {v:Int × Int} (h:valOk n v):valW v (idsN n)≠0:=by
 rcases h with rfl | rfl | rfl | ⟨g,g1,g2⟩ | ⟨g,g1,g2⟩
 ·simp [valW]
 ·simp [valW]
 ·simp [valW]
 ·have:valW v (idsN n)=Ww.iv v.2:=by unfold valW;rw [g];rfl
  rw [this,Ww.iv_yes (Ww.fits_yes (by omega) (by omega))]
  unfold Ww.wd;omega
 ·have:valW v (idsN n)=Ww.ov ((idsN n).getD v.2.toNat 0):=by unfold valW;rw [g];rfl
  rw [this,idsN_getD (by omega),(Ww.ov_yes (by omega) (by omega)).1]
  omega
theorem stA_ideal {O:List ObjA} (h:ObsOk O):∀ k,k≤O.length→stA idealM [] O k=((O.take k).map newA,idsN k)
 | 0,_=>by simp [stA,idsN]
 | k+1,hk=>by
  have hx:O[k]?=some O[k]:=by simp
  have hok:=h.ok O[k] (by simp)
  rw [stA_succ idealM hx,stA_ideal h k (by omega)]
  have hl:((O.take k).map newA).length=k:=by simp;omega
  show (alL _ _ _,_++[alI _ _ _])=_
  unfold alL alI
  rw [hok,if_pos rfl,if_pos rfl,hl]
  refine Prod.ext ?_ ?_
  ·show (O.take k).map newA++[newA O[k]]=_
   rw [take_nxt8 hx,List.map_append];rfl
  ·show idsN k++[4+(k:Int)]=_
   simp [idsN,List.range_succ]
theorem rep_set {A:List Int} {m:Nat} {y:Int}:(A++List.replicate (m+1) 2).set A.length y=A++y :: List.replicate m 2:=by
 rw [List.set_append_right _ _ (Nat.le_refl _),Nat.sub_self,List.replicate_succ]
 rfl
theorem stF_ideal {L:List Ob8} {ids:List Int} {k n:Nat} {c:Int} {V:List (Int × Int)} (hk:L[k]?=some (c,List.replicate V.length 2)) (hv:∀ v∈V,valW v ids≠0) :
  ∀ j,j≤V.length→stF idealM L ids (4+(k:Int)) V j=L.set k (c,(V.take j).map (fun v=>valW v ids)++List.replicate (V.length - j) 2)
 | 0,_=>by
  have hkl:=(List.getElem?_eq_some_iff.1 hk)
  show L=_
  obtain⟨h1,h2⟩:=hkl
  simp only [List.take_zero,List.map_nil,List.nil_append,Nat.sub_zero]
  rw [← h2];simp
 | j+1,hj=>by
  have hkl:=(List.getElem?_eq_some_iff.1 hk).1
  have hx:V[j]?=some V[j]:=by simp
  rw [stF_succ idealM hx,stF_ideal (n:=n) hk hv j (by omega)]
  show puL _ _ _ _=_
  have hat:(L.set k (c,(V.take j).map (fun v=>valW v ids)++List.replicate (V.length - j) 2))[k]?=some (c,(V.take j).map (fun v=>valW v ids)++List.replicate (V.length - j) 2):=by
   rw [List.getElem?_set_self hkl]
  obtain⟨e1,e2⟩:=hasL_at hat
  have hlen:((V.take j).map (fun v=>valW v ids)).length=j:=by simp;omega
  have hb:puB (L.set k (c,(V.take j).map (fun v=>valW v ids)++List.replicate (V.length - j) 2)) (4+(k:Int)) (j:Int) (valW V[j] ids)=true:=by
   unfold puB inO
   rw [e1,e2,Bool.true_and,Bool.and_eq_true,decide_eq_true_eq,decide_eq_true_eq]
   refine⟨?_,hv _ (by simp)⟩
   simp only [List.length_append,hlen,List.length_replicate]
   omega
  unfold puL
  rw [hb,if_pos rfl,e2,show (4+(k:Int) - 4).toNat=k by omega,List.set_set]
  congr 1
  unfold puO
  refine Prod.ext rfl ?_
  simp only [Int.toNat_natCast]
  obtain⟨m,hm⟩:∃ m,V.length - j=m+1:=⟨V.length - j - 1,by omega⟩
  have hs:=rep_set (A:=(V.take j).map (fun v=>valW v ids)) (m:=m) (y:=valW V[j] ids)
  rw [hlen] at hs
  rw [hm,hs,show V.length - (j+1)=m by omega,take_nxt8 hx,List.map_append,List.append_assoc]
  rfl
theorem stF_all {L:List Ob8} {ids:List Int} {k:Nat} {c:Int} {V:List (Int × Int)} (hk:L[k]?=some (c,List.replicate V.length 2)) (hv:∀ v∈V,valW v ids≠0) :
  stF idealM L ids (4+(k:Int)) V V.length=L.set k (c,V.map (fun v=>valW v ids)):=by
 rw [stF_ideal (n:=0) hk hv V.length (Nat.le_refl _)]
 simp
theorem stO_ideal {O:List ObjA} (h:ObsOk O) (hv:∀ o∈O,∀ v∈o.flds,valOk O.length v):∀ k,k≤O.length→stO idealM (O.map newA) (idsN O.length) O k=(O.take k).map (fulA (idsN O.length))++(O.drop k).map newA
 | 0,_=>by simp [stO]
 | k+1,hk=>by
  have hx:O[k]?=some O[k]:=by simp
  have hl:=h.len
  rw [stO_succ idealM hx (idsN_at (by omega)),stO_ideal h hv k (by omega)]
  have hlen:((O.take k).map (fulA (idsN O.length))).length=k:=by simp;omega
  have hd:(O.drop k).map newA=newA O[k] :: (O.drop (k+1)).map newA:=by
   rw [List.drop_eq_getElem_cons (by omega)];rfl
  have hat:((O.take k).map (fulA (idsN O.length))++(O.drop k).map newA)[k]?=some (O[k].cls,List.replicate O[k].flds.length 2):=by
   rw [List.getElem?_append_right (by omega),hlen,Nat.sub_self,hd]
   simp [newA,newO]
  rw [stF_all hat (fun v hv2=>valW_nz hl (hv O[k] (by simp) v hv2))]
  rw [List.set_append_right _ _ (by omega),hlen,Nat.sub_self,hd,take_nxt8 hx,List.map_append,List.append_assoc]
  rfl
theorem ldI_ideal {O:List ObjA} (h:ObsOk O):ldI idealM [] O=idsN O.length:=by
 unfold ldI;rw [stA_ideal h O.length (Nat.le_refl _)]
theorem ldS_ideal {O:List ObjA} (h:ObsOk O) (hv:∀ o∈O,∀ v∈o.flds,valOk O.length v):ldS idealM [] O=O.map (fulA (idsN O.length)):=by
 unfold ldS
 rw [ldI_ideal h,stA_ideal h O.length (Nat.le_refl _)]
 simp only [List.take_length]
 rw [stO_ideal h hv O.length (Nat.le_refl _)]
 simp
theorem ai_ok {O:List ObjA} (h:ObsOk O):∀ k o,O[k]?=some o→idealM.ai (stA idealM [] O k).1 o.cls (o.flds.length:Int)≠-1:=fun k o hk=>by
 have hok:=h.ok o (List.mem_of_getElem? hk)
 show alI _ _ _≠-1
 unfold alI
 rw [hok,if_pos rfl]
 omega
end Wd
end Go.Proofs.YteiejjmhmmkdhaaGreat

/- A program's objects, kept thrice: for ever, as the document does, in a memory. -/
namespace Go.Proofs.YteiejjmhmmkdhaaGreat
open Go.RowKit
set_option linter.unusedVariables false
set_option maxRecDepth 20000
namespace Wd
theorem own_keep8 {w w':World} {F:Nat→Prop} {iv:Value} {ids:List Int} (h:w.ownsRow 0 3 1 iv ids.length (ints ids)) (hf:∀ k,iv.ownBlock=some k→¬ F k) (c:Cg F w w'):w'.ownsRow 0 3 1 iv ids.length (ints ids) :=
 own_same h (fun k hk=>c.block k (own_lt h k hk) (hf k hk)) c.size
theorem own_up8 {w w':World} {iv:Value} {ids:List Int} (h:w.ownsRow 0 3 1 iv ids.length (ints ids)) (c:Below w.heap.size w w'):w'.ownsRow 0 3 1 iv ids.length (ints ids) :=
 own_same h (fun k hk=>c.block k (own_lt h k hk)) c.size
theorem ldI_len {σ:Type} (M:Sto σ) (S:σ) (O:List ObjA):(ldI M S O).length=O.length:=stA_len M S O O.length
structure PI8 (w0 w:World) (p b:Nat) (L M:List Ob8) (iv:Value) (ids:List Int):Prop where
 ex:∃ F D,IA p w L F∧RB8 b w M D∧(∀ k,F k→¬ D k)∧Below w0.heap.size w0 w∧(∀ k,F k→w0.heap.size≤k)∧(∀ k,D k→w0.heap.size≤k)∧w.ownsRow 0 3 1 iv ids.length (ints ids)∧∀ k,iv.ownBlock=some k→¬ F k∧¬ D k∧w0.heap.size≤k
structure PJ8 (w0 w:World) (p b:Nat) (L M:List Ob8) (iv iv2:Value) (ids ids2:List Int):Prop where
 ex:∃ F D,IA p w L F∧RB8 b w M D∧(∀ k,F k→¬ D k)∧Below w0.heap.size w0 w∧(∀ k,F k→w0.heap.size≤k)∧(∀ k,D k→w0.heap.size≤k)∧w.ownsRow 0 3 1 iv ids.length (ints ids)∧w.ownsRow 0 3 1 iv2 ids2.length (ints ids2)
structure PK8 (w0 w:World) (q b:Nat) (n:Nat→Nat) (H:Hst) (M:List Ob8) (iv2:Value) (ids2:List Int):Prop where
 ex:∃ F D,HA w q n H F∧RB8 b w M D∧(∀ k,F k→¬ D k)∧Below w0.heap.size w0 w∧(∀ k,F k→w0.heap.size≤k)∧w.ownsRow 0 3 1 iv2 ids2.length (ints ids2)∧∀ k,iv2.ownBlock=some k→¬ F k
structure PZ8 (w0 wE:World) (q b:Nat) (n:Nat→Nat) (H:Hst) (F:Nat→Prop) (M:List Ob8) (iv2 iv3:Value) (ids2 ids3:List Int):Prop where
 ha:HA wE q n H F
 bel:Below w0.heap.size w0 wE
 fF:∀ k,F k→w0.heap.size≤k
 rb:∃ D,RB8 b wE M D∧∀ k,D k→¬ F k
 o2:wE.ownsRow 0 3 1 iv2 ids2.length (ints ids2)
 f2:∀ k,iv2.ownBlock=some k→¬ F k
 o3:wE.ownsRow 0 3 1 iv3 ids3.length (ints ids3)
 f3:∀ k,iv3.ownBlock=some k→¬ F k
section
variable {w0 w w' wE wr:World} {p b q:Nat} {L M:List Ob8} {iv iv2 iv3:Value} {ids ids2 ids3:List Int} {u:Value} {U:UnitA} {n:Nat→Nat} {H:Hst} {F:Nat→Prop}
theorem pq_load (hu:UnK w0 u U) (hr:unitR U=0) (ho:ObsOk U.objects) (h:PQ8 w0 w p b [] M):Calls Tryz.prog 20 #[.iface 42 (pV p),u] w fun e w'=>∃ iv,e=.returned (.tuple #[iv,.bool true])∧PI8 w0 w' p b (ldS idealM [] U.objects) M iv (ldI idealM [] U.objects):=by
 obtain⟨F,D,h1,h2,h3,h4,h5,h6⟩:=h.ex
 refine (loadI_c (idealK p) hu h4 hr ho h1 h5 (by decide) (ai_ok ho)).mono ?_
 rintro e w' ⟨iv,F',rfl,g1,g2,g3,g4,g5⟩
 refine⟨iv,rfl,F',D,g1,h2.same g3.size (fun k hk=>g3.block k (h2.lt k hk) (fun e=>h3 k e hk)),fun k hk hD=>?_,h4.trans (g3.toB h4.size h5),fun k hk=>(g4 k hk).elim (h5 k) (fun e=>Nat.le_trans h4.size e),h6,by rw [ldI_len];exact g2,fun k hk=>⟨(g5 k hk).1,fun hD=>?_,Nat.le_trans h4.size (g5 k hk).2⟩⟩
 ·rcases g4 k hk with e | e
  ·exact h3 k e hD
  ·have:=h2.lt k hD;omega
 ·have:=h2.lt k hD;have:=(g5 k hk).2;omega
theorem PI8.bel (h:PI8 w0 w p b L M iv ids):Below w0.heap.size w0 w:=by
 obtain⟨F,D,_,_,_,h,_⟩:=h.ex
 exact h
theorem pi_load (hu:UnK w0 u U) (ho:ObsOk U.objects) (h:PI8 w0 w p b L [] iv ids):Calls Tryz.prog 21 #[pV b,u] w fun e w'=>∃ iv2,e=.returned iv2∧PJ8 w0 w' p b L (ldS idealM [] U.objects) iv iv2 ids (ldI idealM [] U.objects):=by
 obtain⟨F,D,h1,h2,h3,h4,h5,h6,h7,h8⟩:=h.ex
 have hP:PD b w [] D:=by
  obtain⟨v,xs,us,hR,e⟩:=h2
  exact⟨v,xs,us,e,hR⟩
 refine (rload_c hu h4 ho hP h6 (by decide)).mono ?_
 rintro e w' ⟨iv2,D',rfl,g1,g2,g3,g4,g5⟩
 obtain⟨v,xs,us,e,hR⟩:=g1
 refine⟨iv2,rfl,F,D',h1.same g3.size (fun k hk=>g3.block k (h1.lt k hk) (fun e=>h3 k hk e)),⟨v,xs,us,hR,e⟩,fun k hk hD=>?_,h4.trans (g3.toB h4.size h6),h5,fun k hk=>(g4 k hk).elim (h6 k) (fun e=>Nat.le_trans h4.size e),own_keep8 h7 (fun k hk=>(h8 k hk).2.1) g3,by rw [ldI_len];exact g2⟩
 rcases g4 k hD with e | e
 ·exact h3 k hk e
 ·have:=h1.lt k hk;omega
theorem PJ8.bel (h:PJ8 w0 w p b L M iv iv2 ids ids2):Below w0.heap.size w0 w:=by
 obtain⟨F,D,_,_,_,h,_⟩:=h.ex
 exact h
theorem PJ8.pq (h:PJ8 w0 w p b L M iv iv2 ids ids2):PQ8 w0 w p b L M:=by
 obtain⟨F,D,h1,h2,h3,h4,h5,h6,_⟩:=h.ex
 exact⟨F,D,h1,h2,h3,h4,h5,h6⟩
theorem PJ8.rows (h:PJ8 w0 w p b L M iv iv2 ids ids2):w.ownsRow 0 3 1 iv ids.length (ints ids)∧w.ownsRow 0 3 1 iv2 ids2.length (ints ids2):=by
 obtain⟨F,D,h1,h2,h3,h4,h5,h6,h7,h8⟩:=h.ex
 exact⟨h7,h8⟩
theorem PJ8.up (h:PJ8 w0 w p b L M iv iv2 ids ids2) (g:Below w.heap.size w w'):PJ8 w0 w' p b L M iv iv2 ids ids2:=by
 obtain⟨F,D,h1,h2,h3,h4,h5,h6,h7,h8⟩:=h.ex
 exact⟨F,D,h1.same g.size (fun k hk=>g.block k (h1.lt k hk)),h2.same g.size (fun k hk=>g.block k (h2.lt k hk)),h3,h4.trans (g.mono h4.size),h5,h6,own_up8 h7 g,own_up8 h8 g⟩
def nL:Nat→Nat:=fun s=>if s=0 then 400 else if s=1 then 240 else if s=2 then 180 else if s=3 then 120 else if s=4 then 60 else 0
theorem nL_few:∀ s,s < 5→nL s≤512:=by decide
theorem nL_low:∀ s,s < 5→60≤nL s:=by decide
theorem pj_new (h:PJ8 w0 w p b L M iv iv2 ids ids2):Calls Tryz.prog 23 #[cfgV nL 2] w fun e w'=>∃ q,e=.returned (pV q)∧PK8 w0 w' q b nL (newH nL) M iv2 ids2:=by
 obtain⟨F,D,h1,h2,h3,h4,h5,h6,h7,h8⟩:=h.ex
 refine (vnew_c nL 2 nL_few (by decide) (by decide) (by decide) (by decide)).mono ?_
 rintro e w' ⟨q,F',rfl,g1,g2,g3⟩
 exact⟨q,rfl,F',D,g1,h2.same g3.size (fun k hk=>g3.block k (h2.lt k hk)),fun k hk hD=>(by have:=h2.lt k hD;have:=g2 k hk;omega),h4.trans (g3.mono h4.size),fun k hk=>Nat.le_trans h4.size (g2 k hk),own_up8 h8 g3,fun k hk hF=>(by have:=own_lt h8 k hk;have:=g2 k hF;omega)⟩
theorem PK8.bel (h:PK8 w0 w q b n H M iv2 ids2):Below w0.heap.size w0 w:=by
 obtain⟨F,D,_,_,_,h,_⟩:=h.ex
 exact h
theorem pk_load (hu:UnK w0 u U) (hr:unitR U=0) (ho:ObsOk U.objects) (h50:U.objects.length≤50) (h:PK8 w0 w q b nL (newH nL) M iv2 ids2):Calls Tryz.prog 20 #[.iface 57 (pV q),u] w fun e w'=>∃ iv3 F,e=.returned (.tuple #[iv3,.bool true])∧PZ8 w0 w' q b nL (ldS memM (newH nL) U.objects) F M iv2 iv3 ids2 (ldI idealM [] U.objects):=by
 obtain⟨F,D,h1,h2,h3,h4,h5,h6,h7⟩:=h.ex
 have hN:HL nL (newH nL) []:=HL.new nL_few (by decide)
 have hroom:∀ s,s < 5→([]:List Ob8).length+U.objects.length≤nL s:=fun s hs=>by have:=nL_low s hs;simp;omega
 have hlen:([]:List Ob8).length+U.objects.length≤1000:=by simp;omega
 refine (loadH_c (heapK8 q nL) hu h4 hr ho h1 h5 (by decide) (hN.aiok ho.ok hroom hlen)).mono ?_
 rintro e w' ⟨iv3,F',rfl,g1,g2,g3,g4,g5⟩
 have hld:=hN.ld ho.ok hroom hlen
 refine⟨iv3,F',rfl,g1,h4.trans (g3.toB h4.size h5),fun k hk=>(g4 k hk).elim (h5 k) (fun e=>Nat.le_trans h4.size e),⟨D,h2.same g3.size (fun k hk=>g3.block k (h2.lt k hk) (fun e=>h3 k e hk)),fun k hD hk=>?_⟩,own_keep8 h6 h7 g3,fun k hk hF=>?_,by rw [ldI_len,← hld.1];exact g2,fun k hk=>(g5 k hk).1⟩
 ·rcases g4 k hk with e | e
  ·exact h3 k e hD
  ·have:=h2.lt k hD;omega
 ·rcases g4 k hF with e | e
  ·exact h7 k hk e
  ·have:=own_lt h6 k hk;omega
theorem ld_hl {O:List ObjA} (ho:ObsOk O) (h50:O.length≤50):HL nL (ldS memM (newH nL) O) (ldS idealM [] O)∧(ldS idealM [] O).length=O.length:=by
 have hN:HL nL (newH nL) []:=HL.new nL_few (by decide)
 have hld:=hN.ld ho.ok (fun s hs=>by have:=nL_low s hs;simp;omega) (by simp;omega)
 exact⟨hld.2.1,by rw [hld.2.2];simp⟩
theorem PZ8.start (z:PZ8 w0 wE q b n H F M iv2 iv3 ids2 ids3):LH wE F q n H wE:=LH.start z.ha
theorem PZ8.bw (z:PZ8 w0 wE q b n H F M iv2 iv3 ids2 ids3) (l:LH wE F q n H wr):Below w0.heap.size w0 wr:=z.bel.trans (l.cg.toB z.bel.size z.fF)
theorem PZ8.r2 (z:PZ8 w0 wE q b n H F M iv2 iv3 ids2 ids3) (l:LH wE F q n H wr):wr.ownsRow 0 3 1 iv2 ids2.length (ints ids2):=own_keep8 z.o2 z.f2 l.cg
theorem PZ8.r3 (z:PZ8 w0 wE q b n H F M iv2 iv3 ids2 ids3) (l:LH wE F q n H wr):wr.ownsRow 0 3 1 iv3 ids3.length (ints ids3):=own_keep8 z.o3 z.f3 l.cg
theorem pz_rget (z:PZ8 w0 wE q b n H F M iv2 iv3 ids2 ids3) (l:LH wE F q n H wr) (id i:Int) (hl:M.length≤10000) (hi:b64 id) (hj:b64 i):Calls Tryz.prog 28 #[pV b,.int .i64 id,.int .i64 i] wr fun e w'=>e=.returned (.tuple #[.int .u32 (gvL M id i),.bool (inO M id i)])∧w'=wr:=by
 obtain⟨D,⟨v,xs,us,hR,rfl⟩,hf⟩:=z.rb
 exact rget_c (hR.same l.cg.size (fun k hk=>l.cg.block k (hR.lt k hk) (hf k hk))) id i hi hj (by omega)
end
theorem cfg_large:cfgV nL 2=.agg #[.int .i64 400,.int .i64 240,.int .i64 180,.int .i64 120,.int .i64 60,.int .i64 2]:=by rfl
set_option maxHeartbeats 4000000 in
theorem large8_c (w:World):Calls Tryz.prog 24 #[.int .i64 1] w fun e w'=>e=.returned (cfgV nL 2)∧Below w.heap.size w w':=by
 rw [cfg_large]
 have PW:=Lib.hid (fun (W:World)=>within_c 1 0 15 (by omega) (by omega) (by omega) (by omega) (by omega) W)
 rw [show within 1 0 15=1 by decide] at PW
 go_enter Tryz.func24,Tryz.ntmps24
 go_wp2_with (first | (go_at_call 11;(refine (PW.out _).mono ?_);rintro e w2 ⟨rfl,hw2⟩;subst w2))
 refine bodyPost_ret (v:=.agg #[.int .i64 400,.int .i64 240,.int .i64 180,.int .i64 120,.int .i64 60,.int .i64 2]) ?_ rfl ⟨rfl,?_⟩
 ·simp [results,Tryz.results24,go_sem]
 ·exact (Below.refl _ _).alloc (Nat.le_refl _) _
end Wd
end Go.Proofs.YteiejjmhmmkdhaaGreat

/- The walk: a program's objects, kept for ever, as the document does, in a memory. -/
namespace Go.Proofs.YteiejjmhmmkdhaaGreat
open Go.RowKit
set_option linter.unusedVariables false
set_option maxRecDepth 20000
namespace Wd
theorem ful_cls {O:List ObjA} {ids:List Int} {k:Nat} {o:ObjA} (hk:O[k]?=some o):clsL (O.map (fulA ids)) (4+(k:Int))=o.cls∧fldL (O.map (fulA ids)) (4+(k:Int))=(o.flds.length:Int):=by
 have hat:(O.map (fulA ids))[k]?=some (fulA ids o):=by simp [hk]
 obtain⟨e1,e2⟩:=hasL_at hat
 unfold clsL fldL
 rw [e1,e2,if_pos rfl,if_pos rfl]
 exact⟨rfl,by simp [fulA]⟩
set_option maxHeartbeats 64000000 in
theorem loads_c {w:World} {u:Value} {U:UnitA} (hu0:UnK w u U) (hr:unitR U=0) (ho:ObsOk U.objects) (hv:∀ o∈U.objects,∀ v∈o.flds,valOk U.objects.length v) (h50:U.objects.length≤50) :
  Calls Tryz.prog 7 #[u] w fun e w'=>e=.returned (.bool true)∧Below w.heap.size w w':=by
 have hb:=builtR8
 obtain⟨na,nc,ca,cc,ma,mc,oa,oc,rfl,hS⟩:=hu0.ex
 have hob:=Lib.hid (fun (k:Nat) (x:ObjA) (hx:U.objects[k]?=some x)=>hS.o.at hx)
 have hWb:=(Below.refl w.heap.size w).alloc (Nat.le_refl _) (.cells #[.slice na U.names.length nc,.slice ca U.classes.length cc,.slice ma U.methods.length mc,.slice oa U.objects.length oc,.int .i64 U.main] 32)
 have hfin:Hid (∀ W,Below (w.alloc (.cells #[.slice na U.names.length nc,.slice ca U.classes.length cc,.slice ma U.methods.length mc,.slice oa U.objects.length oc,.int .i64 U.main] 32)).heap.size (w.alloc (.cells #[.slice na U.names.length nc,.slice ca U.classes.length cc,.slice ma U.methods.length mc,.slice oa U.objects.length oc,.int .i64 U.main] 32)) W→Below w.heap.size w W):=Lib.hid (fun W g=>hWb.trans (g.mono hWb.size))
 have hx0:=heap_alloc_new w (.cells #[.slice na U.names.length nc,.slice ca U.classes.length cc,.slice ma U.methods.length mc,.slice oa U.objects.length oc,.int .i64 U.main] 32)
 have hlt0:w.heap.size < (w.alloc (.cells #[.slice na U.names.length nc,.slice ca U.classes.length cc,.slice ma U.methods.length mc,.slice oa U.objects.length oc,.int .i64 U.main] 32)).heap.size:=by simp
 have hbx:Hid (∀ W,Below (w.alloc (.cells #[.slice na U.names.length nc,.slice ca U.classes.length cc,.slice ma U.methods.length mc,.slice oa U.objects.length oc,.int .i64 U.main] 32)).heap.size (w.alloc (.cells #[.slice na U.names.length nc,.slice ca U.classes.length cc,.slice ma U.methods.length mc,.slice oa U.objects.length oc,.int .i64 U.main] 32)) W→W.cell? ⟨w.heap.size,0,none⟩=some (.slice na U.names.length nc)∧W.cell? ⟨w.heap.size,1,none⟩=some (.slice ca U.classes.length cc)∧W.cell? ⟨w.heap.size,2,none⟩=some (.slice ma U.methods.length mc)∧W.cell? ⟨w.heap.size,3,none⟩=some (.slice oa U.objects.length oc)∧W.cell? ⟨w.heap.size,4,none⟩=some (.int .i64 U.main)):=Lib.hid (fun W g=>by
  have e:=(g.block w.heap.size hlt0).trans hx0
  refine⟨?_,?_,?_,?_,?_⟩ <;> (rw [Lib.cell_of_heap e];rfl))
 have hu:=hu0.up hWb
 have hHL:=ld_hl ho h50
 have hii:=ldI_ideal ho
 have hMM:=ldS_ideal ho hv
 have hcf:Hid (∀ (k:Nat) (x:ObjA),U.objects[k]?=some x→clsL (ldS idealM [] U.objects) (4+(k:Int))=x.cls∧fldL (ldS idealM [] U.objects) (4+(k:Int))=(x.flds.length:Int)):=Lib.hid (fun k x hx=>by rw [hMM];exact ful_cls hx)
 have hf62:Hid (∀ (k:Nat) (x:ObjA),U.objects[k]?=some x→x.flds.length≤62):=Lib.hid (fun k x hx=>by
  have:=ho.ok x (List.mem_of_getElem? hx)
  unfold okA at this
  rw [Bool.and_eq_true,decide_eq_true_eq,decide_eq_true_eq] at this
  omega)
 have PA:=Lib.hid (fun (W:World) (p b:Nat) (h:PQ8 (w.alloc (.cells #[.slice na U.names.length nc,.slice ca U.classes.length cc,.slice ma U.methods.length mc,.slice oa U.objects.length oc,.int .i64 U.main] 32)) W p b [] [])=>pq_load hu hr ho h)
 have PB:=Lib.hid (fun (W:World) (p b:Nat) (iv:Value) (h:PI8 (w.alloc (.cells #[.slice na U.names.length nc,.slice ca U.classes.length cc,.slice ma U.methods.length mc,.slice oa U.objects.length oc,.int .i64 U.main] 32)) W p b (ldS idealM [] U.objects) [] iv (ldI idealM [] U.objects))=>pi_load hu ho h)
 have PC:=Lib.hid (fun (W:World) (q b:Nat) (iv2:Value) (h:PK8 (w.alloc (.cells #[.slice na U.names.length nc,.slice ca U.classes.length cc,.slice ma U.methods.length mc,.slice oa U.objects.length oc,.int .i64 U.main] 32)) W q b nL (newH nL) (ldS idealM [] U.objects) iv2 (ldI idealM [] U.objects))=>pk_load hu hr ho h50 h)
 have hil:Hid ((ldI idealM [] U.objects).length=U.objects.length∧∀ k,k < U.objects.length→(ldI idealM [] U.objects)[k]?=some (4+(k:Int))):=Lib.hid ⟨by rw [hii,idsN_len],fun k hk=>by rw [hii,idsN_at hk]⟩
 have hH1:=Lib.hid hHL.1
 have hM1:=Lib.hid hHL.2
 clear hu0 hS hr ho hv hu hHL hii hMM hx0 hlt0 hWb
 generalize ldS idealM [] U.objects=M at *
 generalize ldI idealM [] U.objects=ids at *
 generalize ldS memM (newH nL) U.objects=H at *
 generalize U.names.length=l1 at *
 generalize U.classes.length=l2 at *
 generalize U.methods.length=l3 at *
 generalize U.main=mm at *
 generalize hl4:U.objects.length=l4 at *
 go_enter Tryz.func7,Tryz.ntmps7
 go_upto_region 1 with fail
 generalize w.alloc (.cells #[.slice na l1 nc,.slice ca l2 cc,.slice ma l3 mc,.slice oa l4 oc,.int .i64 mm] 32)=W0 at *
 go_upto_region 2 with (go_at_call 12;refine (is_new (Below.refl _ _)).mono ?_;rintro e w1 ⟨p,rfl,h1,_⟩;have hS0:=Lib.hid (PQ8.begin h1);clear h1)
 generalize w1.alloc (.cells #[.slice none 0 0] 47)=w2 at *
 generalize w1.heap.size=b at *
 clear hb
 obtain⟨b0,b1,b2,b3,b4⟩:=hbx.out _ hS0.out.bel
 go_upto_region 5 with (go_at_call 20;refine (PA.out _ _ _ hS0.out).mono ?_;rintro e w3 ⟨iv,rfl,h3⟩;have hS3:=Lib.hid h3;clear h3)
 clear b0 b1 b2 b3 b4 hS0 PA
 obtain⟨b0,b1,b2,b3,b4⟩:=hbx.out _ hS3.out.bel
 go_upto_region 6 with (go_at_call 21;refine (PB.out _ _ _ _ hS3.out).mono ?_;rintro e w4 ⟨iv2,rfl,h4⟩;have hS4:=Lib.hid h4;clear h4)
 clear b0 b1 b2 b3 b4 hS3 PB
 have PS:=Lib.hid (same_ints ids ids iv iv2 w4 hS4.out.rows.1 hS4.out.rows.2 (by have:=hil.out.1;omega) (by have:=hil.out.1;omega))
 rw [decide_eq_true (rfl:ids=ids)] at PS
 have PY:=Lib.hid (fun (W:World) (g:Below w4.heap.size w4 W)=>same_y (hS4.out.up g).pq (by have:=hM1.out;omega))
 go_upto_region 8 with (first | (go_at_call 22;refine PS.out.mono ?_;rintro e w5 ⟨rfl,q5,hw5⟩;subst hw5;have g5:=Lib.hid (drewK w4 q5)) | (go_at_call 19;refine (PY.out _ g5.out).mono ?_;rintro e w6 ⟨rfl,h6⟩;have hS6:=Lib.hid ((hS4.out.up g5.out).up h6);clear h6))
 clear PS PY g5 hS4
 go_upto_region 9 with (first | (go_at_call 24;refine (large8_c _).mono ?_;rintro e w7 ⟨rfl,h7⟩;have hS7:=Lib.hid (hS6.out.up h7);clear h7) | (go_at_call 23;refine (pj_new hS7.out).mono ?_;rintro e w8 ⟨q,rfl,h8⟩;have hS8:=Lib.hid h8;clear h8))
 clear hS6 hS7
 obtain⟨b0,b1,b2,b3,b4⟩:=hbx.out _ hS8.out.bel
 go_upto_region 12 with (go_at_call 20;refine (PC.out _ _ _ _ hS8.out).mono ?_;rintro e w9 ⟨iv3,F,rfl,h9⟩;have hZ:=Lib.hid h9;clear h9)
 clear b0 b1 b2 b3 b4 hS8 PC
 obtain⟨a3,c3,e3,_⟩:=own_form hZ.out.o3
 obtain⟨a2,c2,e2,_⟩:=own_form hZ.out.o2
 rw [hil.out.1] at e2 e3
 subst e2
 subst e3
 have PS:=Lib.hid (same_ints ids ids _ _ w9 hZ.out.o3 hZ.out.o2 (by have:=hil.out.1;omega) (by have:=hil.out.1;omega))
 rw [decide_eq_true (rfl:ids=ids)] at PS
 go_upto_region 14 with (go_at_call 22;refine PS.out.mono ?_;rintro e w10 ⟨rfl,q10,hw10⟩;subst hw10;have hL0:=Lib.hid (hZ.out.start.up (drewK w9 q10)))
 clear PS
 generalize w9.drewN q10=w10 at *
 have h64:Hid (∀ k:Nat,k < l4→b64 (4+(k:Int))):=Lib.hid (fun k hk=>⟨by omega,by omega⟩)
 have hMl:Hid (M.length≤1000):=Lib.hid (by have:=hM1.out;omega)
 go_wp2
 go_loopw [68] (fun i wr=>∃ k:Nat,k≤l4∧i=.int .i64 k∧Hid (LH w9 F q nL H wr)) (fun i _=>l4 - (intOf i).toNat)
 case atStart=>exact⟨0,by omega,rfl,hL0⟩
 case round =>
  clear hL0
  obtain⟨k,hk,rfl,hL⟩:=hrel
  by_cases hlt:k < l4
  ·as_aux_lemma =>
   have hlt':decide ((k:Int) < (l4:Int))=true:=by simp;omega
   have p0:(0:Int)≤(k:Int):=by omega
   have p1:(k:Int) < (l4:Int):=by omega
   obtain⟨x,hx⟩:∃ x,U.objects[k]?=some x:=⟨U.objects[k]'(by omega),by simp⟩
   obtain⟨i1,g,off,fv,rfl,d0,d1,pf⟩:=hob.out k x hx
   obtain⟨fa,fc,rfl,_,_⟩:=pf.form
   have hcc:Hid (∀ W,LH w9 F q nL H W→W.cell? ⟨w.heap.size,3,none⟩=some (.slice (some ⟨g,off,none⟩) l4 oc)∧W.cell? ⟨g,off+k*2,none⟩=some (.int .i64 x.cls)∧W.cell? ⟨g,off+k*2+1,none⟩=some (.slice fa x.flds.length fc)):=Lib.hid (fun W l=>⟨(hbx.out W (hZ.out.bw l)).2.2.2.1,cell_up (hfin.out W (hZ.out.bw l)) d0,cell_up (hfin.out W (hZ.out.bw l)) d1⟩)
   have hidk:=hil.out.2 k hlt
   obtain⟨g3,rfl,hc3⟩:∃ g3,a3=some ⟨g3,0,none⟩∧Hid (∀ W,LH w9 F q nL H W→W.cell? ⟨g3,k,none⟩=some (.int .i64 (4+(k:Int)))):=by
    have h3:=hZ.out.o3
    rw [hil.out.1] at h3
    rcases h3.2 with ⟨_,e2⟩ | ⟨g3,cap',cur,e,_⟩
    ·omega
    ·cases e
     exact⟨g3,rfl,Lib.hid (fun W l=>by have:=hZ.out.r3 l;rw [hil.out.1] at this;exact own_cell this (by simp [ints,hidk]))⟩
   obtain⟨g2,rfl,hc2⟩:∃ g2,a2=some ⟨g2,0,none⟩∧Hid (∀ W,LH w9 F q nL H W→W.cell? ⟨g2,k,none⟩=some (.int .i64 (4+(k:Int)))):=by
    have h3:=hZ.out.o2
    rw [hil.out.1] at h3
    rcases h3.2 with ⟨_,e2⟩ | ⟨g3,cap',cur,e,_⟩
    ·omega
    ·cases e
     exact⟨g3,rfl,Lib.hid (fun W l=>by have:=hZ.out.r2 l;rw [hil.out.1] at this;exact own_cell this (by simp [ints,hidk]))⟩
   obtain⟨f1,f2⟩:=hcf.out k x hx
   have hx62:=hf62.out k x hx
   have hof:=hH1.out.ofT hMl.out (4+(k:Int))
   have P1:=Lib.hid (fun (W:World) (l:LH w9 F q nL H W)=>lh_cls l (4+(k:Int)) (h64.out k hlt))
   have P2:=Lib.hid (fun (W:World) (l:LH w9 F q nL H W)=>lh_fld l (4+(k:Int)) (h64.out k hlt))
   rw [hof.1,f1] at P1
   rw [hof.2.1,f2] at P2
   have P3:=Lib.hid (fun (W:World) (l:LH w9 F q nL H W) (j:Nat) (hj:j≤62)=>lh_get l (4+(k:Int)) (j:Int) (h64.out k hlt) ⟨by omega,by omega⟩)
   have P4:=Lib.hid (fun (W:World) (l:LH w9 F q nL H W) (j:Nat) (hj:j≤62)=>pz_rget hZ.out l (4+(k:Int)) (j:Int) (by have:=hMl.out;omega) (h64.out k hlt) ⟨by omega,by omega⟩)
   have hget:Hid (∀ j:Int,getV H (4+(k:Int)) j=gvL M (4+(k:Int)) j):=Lib.hid (fun j=>(hH1.out.get hMl.out (4+(k:Int)) j).1)
   have dc:(x.cls != x.cls)=false:=by simp
   have df:((x.flds.length:Int) != (x.flds.length:Int))=false:=by simp
   have z3:=hc3.out _ hL.out
   clear hx pf hob hof f1 f2 hcf hf62 hidk hil hbx hfin d0 d1 hH1 hM1
   generalize x.cls=xc at *
   generalize x.flds.length=fl at *
   go_upto_region 17 with fail
   clear z3
   obtain⟨c0,c1,c2⟩:=hcc.out _ hL.out
   have hLd:=Lib.hid (hL.out.up ((Below.refl _ _).drew))
   refine wp_region_held_drew (S:=(fun wr'=>wr'.cell? ⟨w.heap.size,3,none⟩=some (.slice (some ⟨g,off,none⟩) l4 oc)∧wr'.cell? ⟨g,off+k*2,none⟩=some (.int .i64 xc)∧wr'.cell? ⟨g,off+k*2+1,none⟩=some (.slice fa fl fc))) (by kernel_rfl) ?_ (fun hHeld=>?_)
   ·(try dsimp only);exact⟨c0,c1,c2⟩
   try simp only [Act.put,nA]
   refine tk (i:=0) (oi:=⟨some 73,.move (.tmp 8),57,"law.go:107",#[],none⟩) (hy:=by intro W9 hSw;(try dsimp only at hSw);obtain⟨q0,q1,q2⟩:=hSw;generalize hf:Act.eval _=f;have r0:f (.tmp 8)=(pV q:Value):=(by subst hf;rfl);clear hf;go_simp <;> with_reducible rfl) ?_
   try simp only [Act.put,nA]
   refine tk (i:=1) (oi:=⟨some 74,.move (.tmp 12),3,"law.go:107",#[],none⟩) (hy:=by intro W9 hSw;(try dsimp only at hSw);obtain⟨q0,q1,q2⟩:=hSw;generalize hf:Act.eval _=f;have r0:f (.tmp 12)=(.int .i64 (4+(k:Int)):Value):=(by subst hf;rfl);clear hf;go_simp <;> with_reducible rfl) ?_
   try simp only [Act.put,nA]
   refine tk (i:=3) (oi:=⟨some 76,.fieldAddr 32 (.tmp 1) 3,0,"law.go:107",#[],none⟩) (hy:=by intro W9 hSw;(try dsimp only at hSw);obtain⟨q0,q1,q2⟩:=hSw;generalize hf:Act.eval _=f;have r0:f (.tmp 1)=(.pointer (some ⟨w.heap.size,0,none⟩):Value):=(by subst hf;rfl);clear hf;go_simp <;> with_reducible rfl) ?_
   try simp only [Act.put,nA]
   refine tk (i:=4) (oi:=⟨some 77,.load 30 (.tmp 76),30,"law.go:107",#[⟨3,.data⟩],none⟩) (hy:=by intro W9 hSw;(try dsimp only at hSw);obtain⟨q0,q1,q2⟩:=hSw;generalize hf:Act.eval _=f;have r0:f (.tmp 76)=(.pointer (some ⟨w.heap.size,3,none⟩):Value):=(by subst hf;rfl);clear hf;go_simp <;> with_reducible rfl) ?_
   try simp only [Act.put,nA]
   refine tk (i:=5) (oi:=⟨some 78,.move (.tmp 11),3,"law.go:107",#[],none⟩) (hy:=by intro W9 hSw;(try dsimp only at hSw);obtain⟨q0,q1,q2⟩:=hSw;generalize hf:Act.eval _=f;have r0:f (.tmp 11)=(.int .i64 (k:Int):Value):=(by subst hf;rfl);clear hf;go_simp <;> with_reducible rfl) ?_
   try simp only [Act.put,nA]
   refine tk (i:=6) (oi:=⟨some 79,.indexAddr 30 (.tmp 77) (.tmp 78),0,"law.go:107",#[⟨4,.data⟩,⟨5,.data⟩],none⟩) (hy:=by intro W9 hSw;(try dsimp only at hSw);obtain⟨q0,q1,q2⟩:=hSw;generalize hf:Act.eval _=f;have r0:f (.tmp 77)=(.slice (some ⟨g,off,none⟩) l4 oc:Value):=(by subst hf;rfl);have r1:f (.tmp 78)=(.int .i64 (k:Int):Value):=(by subst hf;rfl);clear hf;go_simp <;> with_reducible rfl) ?_
   try simp only [Act.put,nA]
   refine tk (i:=7) (oi:=⟨some 80,.fieldAddr 66 (.tmp 79) 0,0,"law.go:107",#[⟨6,.data⟩],none⟩) (hy:=by intro W9 hSw;(try dsimp only at hSw);obtain⟨q0,q1,q2⟩:=hSw;generalize hf:Act.eval _=f;have r0:f (.tmp 79)=(.pointer (some ⟨g,off+k*2,none⟩):Value):=(by subst hf;rfl);clear hf;go_simp <;> with_reducible rfl) ?_
   try simp only [Act.put,nA]
   refine tk (i:=8) (oi:=⟨some 81,.load 3 (.tmp 80),3,"law.go:107",#[⟨7,.data⟩],none⟩) (hy:=by intro W9 hSw;(try dsimp only at hSw);obtain⟨q0,q1,q2⟩:=hSw;generalize hf:Act.eval _=f;have r0:f (.tmp 80)=(.pointer (some ⟨g,off+k*2,none⟩):Value):=(by subst hf;rfl);clear hf;go_simp <;> with_reducible rfl) ?_
   try simp only [Act.put,nA]
   refine wpAnyH_ready (rs:=[2]) (by kernel_rfl) (by simp) ?_
   refine AllReadyH.cons (o:=⟨some 75,.call { callee:=.value (.func 25),args:=#[.tmp 73,.tmp 74],argTypes:=#[57,3] },3,"law.go:107",#[⟨0,.data⟩,⟨1,.data⟩],none⟩) rfl (fun K9 hK=>?_) AllReadyH.nil
   simp (config := { maxSteps := 1000000 }) [go_sem]
   refine (P1.out _ hLd.out).mono ?_
   rintro e w16 ⟨rfl,h16⟩
   have hL6:=Lib.hid h16
   clear h16
   obtain⟨u0,u1,u2⟩:=hcc.out _ hL6.out
   go_wp2_with fail
   refine hK.out _ _ ?_ ?_
   ·(try dsimp only);exact⟨u0,u1,u2⟩
   clear hK K9 hHeld;intro hHeld
   try simp only [Act.put,nA]
   refine tk (i:=9) (oi:=⟨some 82,.binOp .neq 3 (.tmp 75) (.tmp 81) 3,4,"law.go:107",#[⟨2,.data⟩,⟨8,.data⟩],none⟩) (hy:=by intro W9 hSw;(try dsimp only at hSw);obtain⟨q0,q1,q2⟩:=hSw;generalize hf:Act.eval _=f;have r0:f (.tmp 75)=(.int .i64 xc:Value):=(by subst hf;rfl);have r1:f (.tmp 81)=(.int .i64 xc:Value):=(by subst hf;rfl);clear hf;go_simp <;> with_reducible rfl) ?_
   try simp only [Act.put,nA]
   refine tk (i:=10) (oi:=⟨some 83,.move (.tmp 82),4,"law.go:107",#[⟨9,.data⟩,⟨2,.chain⟩],none⟩) (hy:=by intro W9 hSw;(try dsimp only at hSw);obtain⟨q0,q1,q2⟩:=hSw;generalize hf:Act.eval _=f;have r0:f (.tmp 82)=(.bool false:Value):=(by subst hf;rfl);clear hf;go_simp <;> with_reducible rfl) ?_
   try simp only [Act.put,nA]
   refine tk (i:=11) (oi:=⟨some 84,.move (.tmp 8),57,"law.go:107",#[⟨10,.guard⟩],some (10,false)⟩) (hy:=by intro W9 hSw;(try dsimp only at hSw);obtain⟨q0,q1,q2⟩:=hSw;generalize hf:Act.eval _=f;have r0:f (.tmp 8)=(pV q:Value):=(by subst hf;rfl);clear hf;go_simp <;> with_reducible rfl) ?_
   try simp only [Act.put,nA]
   refine tk (i:=12) (oi:=⟨some 85,.move (.tmp 12),3,"law.go:107",#[⟨10,.guard⟩],some (10,false)⟩) (hy:=by intro W9 hSw;(try dsimp only at hSw);obtain⟨q0,q1,q2⟩:=hSw;generalize hf:Act.eval _=f;have r0:f (.tmp 12)=(.int .i64 (4+(k:Int)):Value):=(by subst hf;rfl);clear hf;go_simp <;> with_reducible rfl) ?_
   try simp only [Act.put,nA]
   refine tk (i:=14) (oi:=⟨some 87,.fieldAddr 32 (.tmp 1) 3,0,"law.go:107",#[⟨10,.guard⟩],some (10,false)⟩) (hy:=by intro W9 hSw;(try dsimp only at hSw);obtain⟨q0,q1,q2⟩:=hSw;generalize hf:Act.eval _=f;have r0:f (.tmp 1)=(.pointer (some ⟨w.heap.size,0,none⟩):Value):=(by subst hf;rfl);clear hf;go_simp <;> with_reducible rfl) ?_
   try simp only [Act.put,nA]
   refine tk (i:=15) (oi:=⟨some 88,.load 30 (.tmp 87),30,"law.go:107",#[⟨14,.data⟩,⟨10,.guard⟩],some (10,false)⟩) (hy:=by intro W9 hSw;(try dsimp only at hSw);obtain⟨q0,q1,q2⟩:=hSw;generalize hf:Act.eval _=f;have r0:f (.tmp 87)=(.pointer (some ⟨w.heap.size,3,none⟩):Value):=(by subst hf;rfl);clear hf;go_simp <;> with_reducible rfl) ?_
   try simp only [Act.put,nA]
   refine tk (i:=16) (oi:=⟨some 89,.move (.tmp 11),3,"law.go:107",#[⟨10,.guard⟩],some (10,false)⟩) (hy:=by intro W9 hSw;(try dsimp only at hSw);obtain⟨q0,q1,q2⟩:=hSw;generalize hf:Act.eval _=f;have r0:f (.tmp 11)=(.int .i64 (k:Int):Value):=(by subst hf;rfl);clear hf;go_simp <;> with_reducible rfl) ?_
   try simp only [Act.put,nA]
   refine tk (i:=17) (oi:=⟨some 90,.indexAddr 30 (.tmp 88) (.tmp 89),0,"law.go:107",#[⟨15,.data⟩,⟨16,.data⟩,⟨10,.guard⟩],some (10,false)⟩) (hy:=by intro W9 hSw;(try dsimp only at hSw);obtain⟨q0,q1,q2⟩:=hSw;generalize hf:Act.eval _=f;have r0:f (.tmp 88)=(.slice (some ⟨g,off,none⟩) l4 oc:Value):=(by subst hf;rfl);have r1:f (.tmp 89)=(.int .i64 (k:Int):Value):=(by subst hf;rfl);clear hf;go_simp <;> with_reducible rfl) ?_
   try simp only [Act.put,nA]
   refine tk (i:=18) (oi:=⟨some 91,.fieldAddr 66 (.tmp 90) 1,0,"law.go:107",#[⟨17,.data⟩,⟨10,.guard⟩],some (10,false)⟩) (hy:=by intro W9 hSw;(try dsimp only at hSw);obtain⟨q0,q1,q2⟩:=hSw;generalize hf:Act.eval _=f;have r0:f (.tmp 90)=(.pointer (some ⟨g,off+k*2,none⟩):Value):=(by subst hf;rfl);clear hf;go_simp <;> with_reducible rfl) ?_
   try simp only [Act.put,nA]
   refine tk (i:=19) (oi:=⟨some 92,.load 64 (.tmp 91),64,"law.go:107",#[⟨18,.data⟩,⟨10,.guard⟩],some (10,false)⟩) (hy:=by intro W9 hSw;(try dsimp only at hSw);obtain⟨q0,q1,q2⟩:=hSw;generalize hf:Act.eval _=f;have r0:f (.tmp 91)=(.pointer (some ⟨g,off+k*2+1,none⟩):Value):=(by subst hf;rfl);clear hf;go_simp <;> with_reducible rfl) ?_
   try simp only [Act.put,nA]
   refine tk (i:=20) (oi:=⟨some 93,.call { callee:=.builtin .len,args:=#[.tmp 92],argTypes:=#[64] },3,"law.go:107",#[⟨19,.data⟩,⟨10,.guard⟩],some (10,false)⟩) (hy:=by intro W9 hSw;(try dsimp only at hSw);obtain⟨q0,q1,q2⟩:=hSw;generalize hf:Act.eval _=f;have r0:f (.tmp 92)=(.slice fa fl fc:Value):=(by subst hf;rfl);clear hf;go_simp <;> with_reducible rfl) ?_
   try simp only [Act.put,nA]
   refine wpAnyH_ready (rs:=[13]) (by kernel_rfl) (by simp) ?_
   refine AllReadyH.cons (o:=⟨some 86,.call { callee:=.value (.func 26),args:=#[.tmp 84,.tmp 85],argTypes:=#[57,3] },3,"law.go:107",#[⟨11,.data⟩,⟨12,.data⟩,⟨10,.chain⟩,⟨10,.guard⟩],some (10,false)⟩) rfl (fun K9 hK=>?_) AllReadyH.nil
   simp (config := { maxSteps := 1000000 }) [go_sem]
   refine (P2.out _ hL6.out).mono ?_
   rintro e w17 ⟨rfl,h17⟩
   have hLZ:=Lib.hid h17
   clear h17
   obtain⟨v0,v1,v2⟩:=hcc.out _ hLZ.out
   go_wp2_with fail
   refine hK.out _ _ ?_ ?_
   ·(try dsimp only);exact⟨v0,v1,v2⟩
   clear hK K9 hHeld;intro hHeld
   try simp only [Act.put,nA]
   refine tk (i:=21) (oi:=⟨some 94,.binOp .neq 3 (.tmp 86) (.tmp 93) 3,4,"law.go:107",#[⟨13,.data⟩,⟨20,.data⟩,⟨10,.guard⟩],some (10,false)⟩) (hy:=by intro W9 hSw;(try dsimp only at hSw);obtain⟨q0,q1,q2⟩:=hSw;generalize hf:Act.eval _=f;have r0:f (.tmp 86)=(.int .i64 (fl:Int):Value):=(by subst hf;rfl);have r1:f (.tmp 93)=(.int .i64 (fl:Int):Value):=(by subst hf;rfl);clear hf;go_simp <;> with_reducible rfl) ?_
   try simp only [Act.put,nA]
   refine tk (i:=22) (oi:=⟨some 95,.pick (.tmp 83) (.const (.bool true)) (.tmp 94),4,"law.go:107",#[⟨10,.data⟩,⟨21,.data⟩],none⟩) (hy:=by intro W9 hSw;(try dsimp only at hSw);obtain⟨q0,q1,q2⟩:=hSw;generalize hf:Act.eval _=f;have r0:f (.tmp 83)=(.bool false:Value):=(by subst hf;rfl);have r1:f (.tmp 94)=(.bool false:Value):=(by subst hf;rfl);clear hf;go_simp <;> with_reducible rfl) ?_
   try simp only [Act.put,nA]
   refine wpAnyH_done (by kernel_rfl) ?_ _
   clear hL hLd P1 P2
   obtain⟨c0,c1,c2⟩:=hcc.out _ hLZ.out
   go_upto_region 20 with fail
   clear c0 c1 c2
   go_wp2
   go_loopw [103] (fun i wr=>∃ j:Nat,j≤fl∧i=.int .i64 j∧Hid (LH w9 F q nL H wr)) (fun i _=>fl - (intOf i).toNat)
   case atStart=>exact⟨0,by omega,rfl,hLZ⟩
   case round =>
    clear hLZ
    obtain⟨j,hj,rfl,hL⟩:=hrel
    by_cases hlt2:j < fl
    ·as_aux_lemma =>
     have hlt3:decide ((j:Int) < (fl:Int))=true:=by simp;omega
     have PG:=Lib.hid (P3.out _ hL.out j (by omega))
     have PR:=Lib.hid (fun (W:World) (l:LH w9 F q nL H W)=>P4.out W l j (by omega))
     rw [hget.out] at PG
     have dg:(gvL M (4+(k:Int)) (j:Int) != gvL M (4+(k:Int)) (j:Int))=false:=by simp
     generalize gvL M (4+(k:Int)) (j:Int)=gg at *
     generalize getB H (4+(k:Int)) (j:Int)=gb at *
     generalize inO M (4+(k:Int)) (j:Int)=ib at *
     go_upto_region 23 with (go_at_call 27;refine PG.out.mono ?_;rintro e w20 ⟨rfl,h20⟩;have hL2:=Lib.hid h20;clear h20)
     have z2:=hc2.out _ hL2.out
     go_wp2_with (go_at_call 28;refine (PR.out _ hL2.out).mono ?_;rintro e w21 ⟨rfl,hw21⟩;subst hw21)
     go_roundw
     case rel=>exact⟨j+1,by omega,by go_num,hL2⟩
     case measure=>simp [intOf];omega
    ·as_aux_lemma =>
     have e:j=fl:=by omega
     subst e
     have hlt3:decide ((j:Int) < (j:Int))=false:=by simp
     go_wp2
     go_roundw
     case rel=>exact⟨k+1,by omega,by go_num,hL⟩
     case measure=>simp [intOf];omega
  ·as_aux_lemma =>
   have e:k=l4:=by omega
   have hlt':decide ((k:Int) < (l4:Int))=false:=by simp;omega
   go_wp2
   go_ret
   exact⟨rfl,hfin.out _ (hZ.out.bw hL.out)⟩
end Wd
end Go.Proofs.YteiejjmhmmkdhaaGreat

/- A tape's classes are right. -/
namespace Go.Proofs.YteiejjmhmmkdhaaGreat
open Go.RowKit
set_option linter.unusedVariables false
set_option maxRecDepth 20000
namespace Wd
structure TapeL (L:List ClassA):Prop where
 le:L.length≤5
 ok:∀ (k:Nat) c,L[k]?=some c→clsOk L k c∧bndSub 6 c.binds
theorem TapeU.tl {U:UnitA} (h:TapeU U):TapeL U.classes:=⟨h.cl1,fun k c hc=>⟨(h.cls k c hc).1,(h.cls k c hc).2.2⟩⟩
theorem TapeL.take {L:List ClassA} (h:TapeL L) (n:Nat):TapeL (L.take n):=by
 refine⟨by rw [List.length_take];have:=h.le;omega,fun k c hc=>?_⟩
 have hk:k < n∧L[k]?=some c:=by
  rw [List.getElem?_take] at hc
  split at hc
  ·exact⟨by assumption,hc⟩
  ·cases hc
 obtain⟨a,b⟩:=h.ok k c hk.2
 refine⟨⟨a.z,a.o,a.nm,fun h2=>?_,a.fld⟩,b⟩
 rcases a.sup h2 with e | ⟨e1,e2,d,e3,e4⟩
 ·exact Or.inl e
 ·exact Or.inr ⟨e1,e2,d,by rw [List.getElem?_take,if_pos (by omega)];exact e3,e4⟩
def nmOf (k:Nat):ByteArray:=if k=0 then ⟨#[66,108,111,99,107]⟩ else if k=1 then ⟨#[65,114,114,97,121]⟩ else cName (k - 2)
theorem nm_at {L:List ClassA} {k:Nat} {c:ClassA} (h:clsOk L k c):c.nm=nmOf k:=by
 unfold nmOf
 split
 ·exact (h.z ‹_›).1
 ·split
  ·exact (h.o ‹_›).1
  ·exact h.nm (by omega)
theorem nm_apart:∀ i,i < 5→∀ j,j < i→nmOf j≠nmOf i:=by decide +kernel
theorem nm_text:∀ i,i < 5→textOk (nmOf i)=true:=by decide +kernel
theorem bnd_right {b:List (Int × Int)} (h:bndSub 6 b):bindsOk b 6 9=true:=by
 have hl:=h.len
 obtain⟨S,h1,h2,rfl⟩:=h
 unfold bindsOk
 have a:(S.map (fun (s:Nat)=>((s:Int),(s:Int)))).all (bindOk 6 9)=true:=by
  rw [List.all_eq_true]
  intro x hx
  obtain⟨s,hs,rfl⟩:=List.mem_map.1 hx
  have:=h2 s hs
  exact bindOk_of (by simp only;omega) (by simp only;omega) (by simp only;omega) (by simp only;omega)
 have d:((S.map (fun (s:Nat)=>((s:Int),(s:Int)))).map (·.1)).Nodup:=by
  rw [List.map_map,List.Nodup,List.pairwise_map]
  exact h1.imp (fun hlt e=>by simp only [Function.comp] at e;omega)
 rw [a,decide_eq_true d,decide_eq_true (by omega)]
 rfl
theorem tape_cls {L:List ClassA} (h:TapeL L) {k:Nat} {c:ClassA} (hc:L[k]?=some c):classOk L k c=true:=by
 obtain⟨a,_⟩:=h.ok k c hc
 have hk:=(List.getElem?_eq_some_iff.1 hc).1
 have hk5:=h.le
 have hd:=deep_le L (k+1) c.super
 have key:-1≤c.super∧c.super < k∧0≤c.fields∧c.fields≤62∧(c.super < 0∨superF L c.super≤c.fields):=by
  rcases (show k=0∨k=1∨2≤k by omega) with e | e | e
  ·obtain⟨_,s,f⟩:=a.z e
   rw [s,f];omega
  ·obtain⟨_,s,f⟩:=a.o e
   rw [s,f];omega
  ·obtain⟨f0,f1⟩:=a.fld e
   rcases a.sup e with e1 | ⟨e1,e2,d,e3,e4⟩
   ·omega
   ·refine⟨by omega,e2,f0,by omega,Or.inr ?_⟩
    unfold superF
    rw [e3];exact e4
 obtain⟨k1,k2,k3,k4,k5⟩:=key
 rw [classOk_eq k1 k2 k3 k4,decide_eq_true (by omega)]
 rcases k5 with k5 | k5
 ·rw [decide_eq_true k5];rfl
 ·rw [decide_eq_true k5];simp
theorem tape_from {L:List ClassA} (h:TapeL L):∀ (R:List ClassA) (i:Nat),L.drop i=R→shapeFrom L 6 9 i R=0
 | [],_,_=>rfl
 | c :: R,i,e=>by
  have hc:L[i]?=some c:=by
   have:=congrArg (fun l=>l[0]?) e
   simpa [List.getElem?_drop] using this
  have hi:=(List.getElem?_eq_some_iff.1 hc).1
  have h5:=h.le
  obtain⟨a,b⟩:=h.ok i c hc
  have hn:∀ x∈L.take i,x.nm≠c.nm:=fun x hx=>by
   obtain⟨j,hj⟩:=List.getElem?_of_mem hx
   have hji:j < i∧L[j]?=some x:=by
    rw [List.getElem?_take] at hj
    split at hj
    ·exact⟨by assumption,hj⟩
    ·cases hj
   rw [nm_at (h.ok j x hji.2).1,nm_at a]
   exact nm_apart i (by omega) j hji.1
  rw [shapeFrom,if_neg (by rw [nm_at a,nm_text i (by omega)];decide),if_neg (by rw [anyNot hn];decide),if_neg (by rw [tape_cls h hc];decide),if_neg (by rw [bnd_right b];decide)]
  refine tape_from h R (i+1) ?_
  have:=drop_next hc
  rw [e] at this
  exact (List.cons.inj this).2.symm
theorem tape_right {L:List ClassA} (h:TapeL L) (h2:2≤L.length):shapeR L 6 9=0:=by
 have h5:=h.le
 have hh:headOk L=true:=by
  obtain⟨a,ha⟩:∃ x,L[0]?=some x:=⟨L[0]'(by omega),by simp⟩
  obtain⟨b,hb⟩:∃ x,L[1]?=some x:=⟨L[1]'(by omega),by simp⟩
  rw [head_at ha hb]
  obtain⟨_,s0,f0⟩:=(h.ok 0 a ha).1.z rfl
  obtain⟨_,s1,f1⟩:=(h.ok 1 b hb).1.o rfl
  rw [s0,f0,s1,f1];rfl
 unfold shapeR
 rw [if_neg (by omega),if_neg (by rw [hh];decide)]
 exact tape_from h L 0 rfl
end Wd
end Go.Proofs.YteiejjmhmmkdhaaGreat
