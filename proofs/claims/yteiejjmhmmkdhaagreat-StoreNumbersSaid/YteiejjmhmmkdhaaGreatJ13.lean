/- Texts joined: WG, WN, UOV, UTP, WO, WP, WS, WV, YA, YB, YC. -/
import Derived.Test.YteiejjmhmmkdhaaGreatJ1
import Derived.Test.YteiejjmhmmkdhaaGreatJ7
import Derived.Test.YteiejjmhmmkdhaaGreatJ9
import Derived.Test.YteiejjmhmmkdhaaGreatJ11
import Derived.Test.YteiejjmhmmkdhaaGreatJ12
import Derived.Maps.AppendAt
import Derived.Deep.AppendLies
import Derived.SizedLaws
import Derived.ProofKit
import Derived.OpenShut
import Derived.Carry
import Derived.Laws.OwnMore
/- Load: a program's objects are made, then filled. -/
namespace Go.Proofs.YteiejjmhmmkdhaaGreat
open Go.RowKit
set_option linter.unusedVariables false
set_option maxRecDepth 20000
namespace Wd
section
variable {σ:Type} {M:Sto σ} {P:World→σ→(Nat→Prop)→Prop} {p:Nat} {sz:σ→Nat}
theorem StoI.szN (K:StoI M P p sz) (S:σ) (O:List ObjA):∀ k,sz (stA M S O k).1≤sz S+k
 | 0=>Nat.le_refl _
 | k+1=>Nat.le_trans (K.szA _ _ _) (by have:=StoI.szN K S O k;omega)
theorem StoI.szO (K:StoI M P p sz) (S:σ) (ids:List Int) (O:List ObjA):∀ k,sz (stO M S ids O k)≤sz S
 | 0=>Nat.le_refl _
 | k+1=>Nat.le_trans (K.szF _ _ _ _ _) (StoI.szO K S ids O k)
theorem StoI.ids64 (K:StoI M P p sz) (S:σ) (O:List ObjA) (hs:sz S≤500):∀ k,sz S+k≤2000→∀ id∈(stA M S O k).2,b64 id
 | 0,_=>fun id h=>by simp [stA] at h
 | k+1,hk=>fun id h=>by
  simp only [stA,List.mem_append,List.mem_singleton] at h
  rcases h with h | rfl
  ·exact StoI.ids64 K S O hs k (by omega) id h
  ·exact K.ids _ _ _ (Nat.le_trans (K.szN S O k) (by omega))
variable {w0 w1 wr w' w2:World} {F0 F F':Nat→Prop} {oa:Option Addr} {n oc:Nat} {iv iv':Value} {T T':σ} {ids:List Int}
theorem LdI.upI (K:StoI M P p sz) (h:LdI P w0 F0 oa n oc wr iv T F ids) (b:Below wr.heap.size wr w'):LdI P w0 F0 oa n oc w' iv T F ids :=
 h.same (K.same h.st b.size (fun k hk=>b.block k (K.lt h.st k hk))) (h.cg.trans (Cg.below _ b)) (fun k hk _=>b.block k hk) b.size
theorem LdI.stI (K:StoI M P p sz) (h:LdI P w0 F0 oa n oc wr iv T F ids) (hP:P w' T' F') (c:Cg F wr w') (hn:∀ k,F' k→F k∨wr.heap.size≤k) (hF0:∀ k,F0 k→k < w0.heap.size):LdI P w0 F0 oa n oc w' iv T' F' ids :=
 h.stp hP c hn hF0 (fun v hv=>own_lt h.own v hv)
set_option maxHeartbeats 64000000 in
theorem loadI_c (K:StoI M P p sz) {w:World} {u:Value} {U:UnitA} {S:σ} (hu:UnK w1 u U) (hb:Below w1.heap.size w1 w) (hr:unitR U=0) (ho:ObsOk U.objects) (hP:P w S F0) (hF0:∀ k,F0 k→w1.heap.size≤k) (hs:sz S≤500) (hid:∀ k o,U.objects[k]?=some o→M.ai (stA M S U.objects k).1 o.cls (o.flds.length:Int)≠-1) :
  Calls Tryz.prog 20 #[.iface 42 (pV p),u] w fun e w'=>∃ iv F',e=.returned (.tuple #[iv,.bool true])∧P w' (ldS M S U.objects) F'∧w'.ownsRow 0 3 1 iv U.objects.length (ints (ldI M S U.objects))∧Cg F0 w w'∧(∀ k,F' k→F0 k∨w.heap.size≤k)∧∀ k,iv.ownBlock=some k→¬ F' k∧w.heap.size≤k:=by
 have hm:∀ w:World,(method 95 42 (pV p) "Alloc").run Tryz.prog w=.ok (17,pV p) w:=fun _=>by kernel_rfl
 have hmf:∀ (fn:Fn) (first cap:Array Value) (w:World),(Instr.makeFunc fn first cap).run Tryz.prog w=.ok (.func fn first cap) w:=fun _ _ _ _=>rfl
 obtain⟨na,nc,ca,cc,ma,mc,oa,oc,rfl,hS⟩:=hu.ex
 have hbF:Hid (∀ w',Cg F0 w w'→Below w1.heap.size w1 w'):=Lib.hid (fun w' c=>hb.trans (c.toB hb.size hF0))
 have PU:=Lib.hid (fun (w':World) (b:Cg F0 w w')=>uright_c (hu.up (hbF.out _ b)))
 rw [hr] at PU
 have hlw:=Lib.hid (K.lt hP)
 have hob:=Lib.hid (fun (k:Nat) (x:ObjA) (hx:U.objects[k]?=some x)=>hS.o.at hx)
 have hst:=Lib.hid (LdI.begin (P:=P) (oa:=oa) (n:=U.objects.length) (oc:=oc) (a:=.cells #[.slice na U.names.length nc,.slice ca U.classes.length cc,.slice ma U.methods.length mc,.slice oa U.objects.length oc,.int .i64 U.main] 32) hP (K.lt hP) (fun w' b=>K.same hP b.size (fun k hk=>b.block k (K.lt hP k hk))) rfl)
 have hUl:=Lib.hid ho.len
 have h1000:=ho.len
 clear hu hS hr
 generalize U.names.length=l1 at *
 generalize U.classes.length=l2 at *
 generalize U.methods.length=l3 at *
 generalize U.main=mm at *
 generalize hl4:U.objects.length=l4 at *
 rw [show ldS M S U.objects=stO M (stA M S U.objects l4).1 (stA M S U.objects l4).2 U.objects l4 by unfold ldS ldI;rw [hl4],show ldI M S U.objects=(stA M S U.objects l4).2 by unfold ldI;rw [hl4]]
 obtain⟨x0,_⟩:=box3 w (.cells #[.slice na l1 nc,.slice ca l2 cc,.slice ma l3 mc,.slice oa l4 oc,.int .i64 mm] 32) (.cells #[.slice none 0 0] 34) (.cells #[.bool false] 4)
 generalize hW:(((w.alloc (.cells #[.slice na l1 nc,.slice ca l2 cc,.slice ma l3 mc,.slice oa l4 oc,.int .i64 mm] 32)).alloc (.cells #[.slice none 0 0] 34)).alloc (.cells #[.bool false] 4))=W at *
 have b0:W.cell? ⟨w.heap.size,0,none⟩=some (.slice na l1 nc):=by rw [Lib.cell_of_heap x0];rfl
 have b1:W.cell? ⟨w.heap.size,1,none⟩=some (.slice ca l2 cc):=by rw [Lib.cell_of_heap x0];rfl
 have b2:W.cell? ⟨w.heap.size,2,none⟩=some (.slice ma l3 mc):=by rw [Lib.cell_of_heap x0];rfl
 have b3:W.cell? ⟨w.heap.size,3,none⟩=some (.slice oa l4 oc):=by rw [Lib.cell_of_heap x0];rfl
 have b4:W.cell? ⟨w.heap.size,4,none⟩=some (.int .i64 mm):=by rw [Lib.cell_of_heap x0];rfl
 clear x0
 go_enter_defers Tryz.func20,Tryz.ntmps20
 go_upto_region 2 with fail
 clear hW
 go_upto_region 4 with (go_at_call 45;refine (PU.out W hst.out.cg).mono ?_;rintro e w3 ⟨rfl,hb3⟩;have hI:=Lib.hid (hst.out.upI K hb3);clear hst hb3 b0 b1 b2 b3 b4)
 have b3:=hI.out.b3
 obtain⟨i0,hi0,hz0,hz1,hz2⟩:=infoP8 infoI8
 go_wp2
 clear b3 PU
 go_loopw [22] (fun i wr=>∃ (k:Nat) (iv:Value) (F:Nat→Prop),k≤l4∧i=.int .i64 k∧Hid (LdI P w F0 oa l4 oc wr iv (stA M S U.objects k).1 F (stA M S U.objects k).2)) (fun i _=>l4 - (intOf i).toNat)
 case atStart=>exact⟨0,_,F0,by omega,rfl,hI⟩
 case round =>
  clear hI
  obtain⟨k,iv,F,hk,rfl,hI⟩:=hrel
  obtain⟨ai,ci,e,_⟩:=own_form hI.out.own
  rw [stA_len] at e
  subst e
  by_cases hlt:k < l4
  ·as_aux_lemma =>
   have hlt':decide ((k:Int) < (l4:Int))=true:=by simp;omega
   have p1:(k:Int) < (l4:Int):=by omega
   obtain⟨x,hx⟩:∃ x,U.objects[k]?=some x:=⟨U.objects[k]'(by omega),by simp⟩
   obtain⟨i1,g,off,fv,rfl,d0,d1,pf⟩:=hob.out k x hx
   obtain⟨fa,fc,rfl,_,_⟩:=pf.form
   replace d0:=cell_up (hbF.out wr hI.out.cg) d0
   replace d1:=cell_up (hbF.out wr hI.out.cg) d1
   have hne:=hid k x hx
   have hne2:(M.ai (stA M S U.objects k).1 x.cls (x.flds.length:Int) == -1)=false:=by simpa using hne
   have hsz:=Lib.hid (Nat.le_trans (K.szN S U.objects k) (show sz S+k≤2000 by omega))
   have hI3:=Lib.hid (hI.out.upI K ((Below.refl _ _).alloc (Nat.le_refl _) (.cells #[.int .i64 x.cls,.slice fa x.flds.length fc] 66)))
   have h62:=(okA_cases x.cls (x.flds.length:Int)).elim (fun h=>h.2.2.2.2.1) (fun h=>by have:=ho.ok x (List.mem_of_getElem? hx);rcases h with h | h <;> rw [h.1] at this <;> cases this)
   have PA:=Lib.hid (K.alloc x.cls (x.flds.length:Int) hI3.out.st hsz.out i1 ⟨by omega,by omega⟩)
   have hss:=Lib.hid (stA_succ M (S:=S) hx)
   have hle:=Lib.hid (stA_len M S U.objects k)
   have z0:(wr.alloc (.cells #[.int .i64 x.cls,.slice fa x.flds.length fc] 66)).cell? ⟨wr.heap.size,0,none⟩=some (.int .i64 x.cls):=World.cell?_alloc_new _ _ _ 0
   have z1:(wr.alloc (.cells #[.int .i64 x.cls,.slice fa x.flds.length fc] 66)).cell? ⟨wr.heap.size,1,none⟩=some (.slice fa x.flds.length fc):=World.cell?_alloc_new _ _ _ 1
   have hmx:Hid (k+1≤maxLen):=Lib.hid (by simp only [maxLen];omega)
   have hbx:Hid ((k+1)*8≤140737488355328):=Lib.hid (by omega)
   clear hx pf i1 hne h62 hI hid hob ho hP hb hs hF0
   generalize (stA M S U.objects k).2=is at *
   generalize (stA M S U.objects k).1=Tk at *
   generalize M.ai Tk x.cls (x.flds.length:Int)=id at *
   go_upto_region 7 with fail
   generalize wr.alloc (.cells #[.int .i64 x.cls,.slice fa x.flds.length fc] 66)=W3 at *
   generalize wr.heap.size=q3 at *
   clear d0 d1
   go_wp2_with (first | (go_at_call 17;refine (PA.out).mono ?_;rintro e w5 ⟨rfl,F2,hP5,hc5,hn5⟩;have hI5:=Lib.hid (hI3.out.stI K hP5 hc5 hn5 hlw.out);have c4:=hI5.out.c4;have hown5:=Lib.hid (own_same hI5.out.own (w':=w5.alloc (.cells #[.int .i64 id] 3)) (fun k hk=>Below.heap_alloc _ _ _ (own_lt hI5.out.own k hk)) (by simp));have hlt5:=Lib.hid (K.lt hP5);have hsm5:=Lib.hid (fun (w':World) (a:w5.heap.size≤w'.heap.size) (b:∀ k,F2 k→w'.heap[k]?=w5.heap[k]?)=>K.same hP5 a b);clear hP5 hc5 hn5 PA z0 z1) | (at_builtin;refine wpList_app_any rfl (.tmp 35) (.tmp 37) 34 rfl 0 3 i0 (.int .i64 0) 1 8 Tryz.underlying34 hi0 hz0 hz1 hz2 rfl (by decide) (.slice ai k ci) (.slice (some ⟨w5.heap.size,0,none⟩) 1 1) k 1 (ints is) [.int .i64 id] (by simp [Act.eval]) (by simp [Act.eval]) (by have:=hown5.out;rw [hle.out] at this;exact this) (rd_one _ _ _) rfl (by simp [Value.oneCell']) hmx.out hbx.out (Nat.zero_le _) ?_;intro v9 w9 hown9 hg9 hat9;(obtain⟨pc9,pz9⟩:=hI5.out.cell hg9);have hI9:=Lib.hid (hI5.out.app hlt5.out hsm5.out (by rw [hle.out];exact hown9) hg9 hat9);(obtain⟨a9,c9,e9,_⟩:=own_form hown9);subst e9;clear hown9 hg9 hat9 c4 hown5 hlt5 hsm5 hI5))
   go_roundw
   case rel=>exact⟨k+1,_,F2,by omega,by go_num,by rw [hss.out];exact hI9⟩
   case measure=>simp [intOf];omega
  ·have e:k=l4:=by omega
   subst e
   have hd:decide ((k:Int) < (k:Int))=false:=by simp
   have b3:=hI.out.b3
   have hil:(stA M S U.objects k).2.length=k:=stA_len M S U.objects k
   have hi64:=Lib.hid (K.ids64 S U.objects hs k (by omega))
   have hsz:=Lib.hid (Nat.le_trans (K.szN S U.objects k) (show sz S+k≤2000 by omega))
   generalize hids:(stA M S U.objects k).2=ids at *
   generalize hT0:(stA M S U.objects k).1=T0 at *
   replace hids:=Lib.hid hids
   replace hT0:=Lib.hid hT0
   clear hi0 hz0 hz1 hz2
   go_wp2
   clear b3
   go_loopw [43] (fun i wr=>∃ (j:Nat) (F:Nat→Prop),j≤k∧i=.int .i64 j∧Hid (LdI P w F0 oa k oc wr (.slice ai k ci) (stO M T0 ids U.objects j) F ids)) (fun i _=>k - (intOf i).toNat)
   case atStart=>exact⟨0,F,by omega,rfl,hI⟩
   case round =>
    clear hI
    obtain⟨j,F,hj,rfl,hI⟩:=hrel
    by_cases hlt2:j < k
    ·as_aux_lemma =>
     have hlt':decide ((j:Int) < (k:Int))=true:=by simp;omega
     have p1:(j:Int) < (k:Int):=by omega
     obtain⟨x,hx⟩:∃ x,U.objects[j]?=some x:=⟨U.objects[j]'(by omega),by simp⟩
     obtain⟨i1,g,off,fv,rfl,d0,d1,pf⟩:=hob.out j x hx
     obtain⟨fa,fc,rfl,_,_⟩:=pf.form
     replace d0:=cell_up (hbF.out wr hI.out.cg) d0
     replace d1:=cell_up (hbF.out wr hI.out.cg) d1
     have hjl:j < ids.length:=by omega
     have hidx:ids[j]?=some ids[j]:=by simp
     have h64:=hi64.out ids[j] (by simp)
     have hxm:=List.mem_of_getElem? hx
     have h62:x.flds.length≤62:=(okA_cases x.cls (x.flds.length:Int)).elim (fun h=>by have:=h.2.2.2.2.1;omega) (fun h=>by have:=ho.ok x hxm;rcases h with h | h <;> rw [h.1] at this <;> cases this)
     have hI3:=Lib.hid (hI.out.upI K ((Below.refl _ _).alloc (Nat.le_refl _) (.cells #[.int .i64 x.cls,.slice fa x.flds.length fc] 66)))
     have hs2:=Lib.hid (Nat.le_trans (K.szO T0 ids U.objects j) hsz.out)
     have PF:=Lib.hid (fun (W:World) (b:Below (wr.alloc (.cells #[.int .i64 x.cls,.slice fa x.flds.length fc] 66)).heap.size (wr.alloc (.cells #[.int .i64 x.cls,.slice fa x.flds.length fc] 66)) W)=>fillI_c (ia:=ai) (n:=k) (c:=ci) (fa:=fa) (fc:=fc) (V:=x.flds) (ids:=ids) K (hI3.out.upI K b).st hs2.out h64 (fun f hf e=>by have:=ho.ref x hxm f hf e;omega) (by omega) (fun w' c=>⟨pf.up (hbF.out w' ((hI3.out.upI K b).cg.trans' c (fun q hq=>((hI3.out.upI K b).nF q hq).elim (fun e=>Or.inl e.1) (fun e=>Or.inr (by omega))))),by
      have hI4:=hI3.out.upI K b
      have:=own_same hI4.own (w':=w') (fun q hq=>c.block q (own_lt hI4.own q hq) (hI4.of q hq).1) c.size
      rw [hil] at this;exact this⟩))
     have hst4:=Lib.hid (fun (W:World) (b:Below (wr.alloc (.cells #[.int .i64 x.cls,.slice fa x.flds.length fc] 66)).heap.size (wr.alloc (.cells #[.int .i64 x.cls,.slice fa x.flds.length fc] 66)) W) (w5:World) (F2:Nat→Prop) (hP5:P w5 (stF M (stO M T0 ids U.objects j) ids ids[j] x.flds x.flds.length) F2) (hc5:Cg F W w5) (hn5:∀ q,F2 q→F q∨W.heap.size≤q)=>(hI3.out.upI K b).stI K hP5 hc5 hn5 hlw.out)
     have hso:=stO_succ M (S:=T0) (ids:=ids) hx hidx
     rw [← hso] at hst4 PF
     have hqF:=Lib.hid (show ¬ F wr.heap.size from fun e=>by have:=K.lt hI.out.st _ e;omega)
     have z1:(wr.alloc (.cells #[.int .i64 x.cls,.slice fa x.flds.length fc] 66)).cell? ⟨wr.heap.size,1,none⟩=some (.slice fa x.flds.length fc):=World.cell?_alloc_new _ _ _ 1
     have hown3:=hI3.out.own
     obtain⟨gi,rfl,hci⟩:∃ gi,ai=some ⟨gi,0,none⟩∧Hid (∀ (W:World),W.ownsRow 0 3 1 (.slice (some ⟨gi,0,none⟩) k ci) ids.length (ints ids)→W.cell? ⟨gi,j,none⟩=some (.int .i64 ids[j])):=by
      rcases hown3.2 with ⟨_,e2⟩ | ⟨gi,cap',cur,e,_⟩
      ·omega
      ·cases e
       exact⟨gi,rfl,Lib.hid (fun W h=>own_cell h (by simp [ints]))⟩
     have hrg:=Lib.hid (fun (W:World) (iv:Value) (T:σ) (F2:Nat→Prop) (h:LdI P w F0 (some ⟨g,off,none⟩) k oc W (.slice (some ⟨gi,0,none⟩) k ci) T F2 ids)=>(⟨h.c4,hci.out W h.own⟩:_∧_))
     clear hx pf i1 h62 hI hob ho hP hb hs hF0 hxm hso hidx h64 hown3 hid
     have hjk:(j:Int) < (k:Int):=p1
     generalize ids[j]=id at *
     go_upto_region 15 with fail
     generalize hW3:wr.alloc (.cells #[.int .i64 x.cls,.slice fa x.flds.length fc] 66)=W3 at *
     have hq3:Hid (wr.heap.size < W3.heap.size):=Lib.hid (by rw [← hW3];simp)
     clear hW3
     generalize wr.heap.size=q3 at *
     clear d0 d1
     have cA:=(hrg.out _ .nilIface _ _ hI3.out).1
     have cB:=(hrg.out _ .nilIface _ _ hI3.out).2
     refine wp_noP ?_
     refine wp_region_held_drew (S:=(fun wr'=>wr'.cell? ⟨w.heap.size+1,0,none⟩=some (.slice (some ⟨gi,0,none⟩) k ci)∧wr'.cell? ⟨gi,j,none⟩=some (.int .i64 id)∧wr'.cell? ⟨q3,1,none⟩=some (.slice fa x.flds.length fc))) (by kernel_rfl) ?_ (fun hHeld=>?_)
     ·(try dsimp only);exact⟨cA,cB,z1⟩
     try simp only [Act.put,nA]
     refine tk (i:=0) (oi:=⟨some 48,.move (.tmp 0),95,"load.go:29",#[],none⟩) (hy:=by intro w hSw;(try dsimp only at hSw);obtain⟨q0,q1,q2⟩:=hSw;go_simp <;> with_reducible rfl) ?_
     try simp only [Act.put,nA]
     refine tk (i:=1) (oi:=⟨some 49,.load 34 (.tmp 4),34,"load.go:29",#[],none⟩) (hy:=by intro w hSw;(try dsimp only at hSw);obtain⟨q0,q1,q2⟩:=hSw;go_simp <;> with_reducible rfl) ?_
     try simp only [Act.put,nA]
     refine tk (i:=2) (oi:=⟨some 50,.move (.tmp 9),3,"load.go:29",#[],none⟩) (hy:=by intro w hSw;(try dsimp only at hSw);obtain⟨q0,q1,q2⟩:=hSw;go_simp <;> with_reducible rfl) ?_
     try simp only [Act.put,nA]
     refine tk (i:=3) (oi:=⟨some 51,.indexAddr 34 (.tmp 49) (.tmp 50),0,"load.go:29",#[⟨1,.data⟩,⟨2,.data⟩],none⟩) (hy:=by intro w hSw;(try dsimp only at hSw);obtain⟨q0,q1,q2⟩:=hSw;go_simp <;> with_reducible rfl) ?_
     try simp only [Act.put,nA]
     refine tk (i:=4) (oi:=⟨some 52,.load 3 (.tmp 51),3,"load.go:29",#[⟨3,.data⟩],none⟩) (hy:=by intro w hSw;(try dsimp only at hSw);obtain⟨q0,q1,q2⟩:=hSw;go_simp <;> with_reducible rfl) ?_
     try simp only [Act.put,nA]
     refine tk (i:=5) (oi:=⟨some 53,.fieldAddr 66 (.tmp 10) 1,0,"load.go:29",#[],none⟩) (hy:=by intro w hSw;(try dsimp only at hSw);obtain⟨q0,q1,q2⟩:=hSw;go_simp <;> with_reducible rfl) ?_
     try simp only [Act.put,nA]
     refine tk (i:=6) (oi:=⟨some 54,.load 64 (.tmp 53),64,"load.go:29",#[⟨5,.data⟩],none⟩) (hy:=by intro w hSw;(try dsimp only at hSw);obtain⟨q0,q1,q2⟩:=hSw;go_simp <;> with_reducible rfl) ?_
     try simp only [Act.put,nA]
     refine tk (i:=7) (oi:=⟨some 55,.load 34 (.tmp 4),34,"load.go:29",#[],none⟩) (hy:=by intro w hSw;(try dsimp only at hSw);obtain⟨q0,q1,q2⟩:=hSw;go_simp <;> with_reducible rfl) ?_
     try simp only [Act.put,nA]
     refine wpAnyH_ready (rs:=[8]) (by kernel_rfl) (by simp) ?_
     refine AllReadyH.cons (o:=⟨some 56,.call { callee:=.value (.func 46),args:=#[.tmp 48,.tmp 52,.tmp 54,.tmp 55],argTypes:=#[95,3,64,34] },0,"load.go:29",#[⟨0,.data⟩,⟨4,.data⟩,⟨6,.data⟩,⟨7,.data⟩],none⟩) rfl (fun K9 hK=>?_) AllReadyH.nil
     go_simp
     refine (PF.out _ (Below.refl _ _).drew).mono ?_
     rintro e w5 ⟨rfl,F2,hP5,hc5,hn5⟩
     have hI5:=Lib.hid (hst4.out _ (Below.refl _ _).drew w5 F2 hP5 hc5 hn5)
     have y0:=(hrg.out _ .nilIface _ _ hI5.out).1
     have y1:=(hrg.out _ .nilIface _ _ hI5.out).2
     have y2:=(World.cell?_of_block (a:=⟨q3,1,none⟩) (hc5.block q3 hq3.out hqF.out)).trans z1
     clear hP5 hc5 hn5
     go_wp2_with fail
     refine hK.out _ _ ?_ ?_
     ·(try dsimp only);exact⟨y0,y1,y2⟩
     clear hK K9 hHeld;intro hHeld
     try simp only [Act.put,nA]
     refine wpAnyH_done (by kernel_rfl) ?_ _
     refine noP_normal ?_
     go_wp2
     go_roundw
     case rel=>exact⟨j+1,F2,by omega,by go_num,hI5⟩
     case measure=>simp [intOf];omega
    ·have e:j=k:=by omega
     subst e
     have hd:decide ((j:Int) < (j:Int))=false:=by simp
     have c4:=hI.out.c4
     have z4:=hI.out.z4
     have c5:=hI.out.c5
     have z5:=hI.out.z5
     go_wp2
     refine leaves_cons (f:=44) (args:=#[.pointer (some ⟨w.heap.size+1,0,none⟩),.pointer (some ⟨w.heap.size+1+1,0,none⟩)]) (by simp) (by simp [go_sem]) ?_
     refine (catch_c _ _ _).mono ?_
     rintro e u' w'' ⟨rfl,rfl,rfl⟩
     obtain⟨k4,k5,kb⟩:=two_set (x:=.slice ai j ci) (y:=.bool true) c4 c5
     have hsz9:((wr.setCell ⟨w.heap.size+1,0,none⟩ (.slice ai j ci)).setCell ⟨w.heap.size+1+1,0,none⟩ (.bool true)).heap.size=wr.heap.size:=by simp [World.setCell]
     have hz3:=hI.out.sz
     have ke:∀ q,q≠w.heap.size+1→q≠w.heap.size+1+1→((wr.setCell ⟨w.heap.size+1,0,none⟩ (.slice ai j ci)).setCell ⟨w.heap.size+1+1,0,none⟩ (.bool true)).heap[q]?=wr.heap[q]?:=fun q h1 h2=>(Below.heap_setCell _ _ _ _ h2).trans (Below.heap_setCell _ _ _ _ h1)
     clear c4 c5 z4 z5
     generalize ((wr.setCell ⟨w.heap.size+1,0,none⟩ (.slice ai j ci)).setCell ⟨w.heap.size+1+1,0,none⟩ (.bool true))=W9 at *
     have fin:P W9 (stO M (stA M S U.objects j).1 (stA M S U.objects j).2 U.objects j) F∧W9.ownsRow 0 3 1 (.slice ai j ci) j (ints (stA M S U.objects j).2)∧Cg F0 w W9∧(∀ k,F k→F0 k∨w.heap.size≤k)∧∀ k,(Value.slice ai j ci).ownBlock=some k→¬ F k∧w.heap.size≤k:=by
      rw [hids.out,hT0.out]
      refine⟨K.same hI.out.st (by omega) (fun q hq=>ke q (fun e=>?_) (fun e=>?_)),?_,hI.out.cg.belowB (kb _ (by omega)),fun q hq=>(hI.out.nF q hq).elim (fun e=>Or.inl e.1) (fun e=>Or.inr (by omega)),fun q hq=>⟨(hI.out.of q hq).1,by have:=(hI.out.of q hq).2;omega⟩⟩
      ·rcases hI.out.nF q hq with h1 | h1 <;> omega
      ·rcases hI.out.nF q hq with h1 | h1 <;> omega
      ·have:=own_same hI.out.own (w':=W9) (fun q hq=>by have:=(hI.out.of q hq).2;exact ke q (by omega) (by omega)) (by omega)
       rw [hil] at this;exact this
     simp [Leaves,settle,results,Tryz.results20,go_sem,k4,k5]
     exact⟨F,fin⟩
end
end Wd
end Go.Proofs.YteiejjmhmmkdhaaGreat

/- The landed Ideal of a call's own: its calls in few words. -/
namespace Go.Proofs.YteiejjmhmmkdhaaGreat
open Go.RowKit
set_option linter.unusedVariables false
set_option maxRecDepth 20000
namespace Wd
def IA (p:Nat) (w:World) (L:List Ob8) (F:Nat→Prop):Prop:=∃ v xs B,ID w p v xs B L∧F=unD p v B L.length
theorem IA.lt {p:Nat} {w:World} {L:List Ob8} {F:Nat→Prop} (h:IA p w L F):∀ k,F k→k < w.heap.size:=by
 obtain⟨v,xs,B,h,rfl⟩:=h
 exact h.lt
theorem IA.same {p:Nat} {w w':World} {L:List Ob8} {F:Nat→Prop} (h:IA p w L F) (hs:w.heap.size≤w'.heap.size) (e:∀ k,F k→w'.heap[k]?=w.heap[k]?):IA p w' L F:=by
 obtain⟨v,xs,B,h,rfl⟩:=h
 exact⟨v,xs,B,h.same hs e,rfl⟩
theorem alL_len (L:List Ob8) (c n:Int):(alL L c n).length≤L.length+1:=by unfold alL;split <;> simp
theorem alI_64 (L:List Ob8) (c n:Int) (h:L.length≤100000):b64 (alI L c n):=by unfold alI b64;split <;> omega
theorem ia_alloc {p:Nat} {w:World} {L:List Ob8} {F:Nat→Prop} (c n:Int) (h:IA p w L F) (hl:L.length≤10000) (hc:b64 c) (hn:b64 n):Calls Tryz.prog 17 #[pV p,.int .i64 c,.int .i64 n] w fun e w'=>e=.returned (.int .i64 (alI L c n))∧∃ F',IA p w' (alL L c n) F'∧Cg F w w'∧∀ k,F' k→F k∨w.heap.size≤k:=by
 obtain⟨v,xs,B,h,rfl⟩:=h
 refine (ialloc_c h c n hc hn hl).mono ?_
 rintro e w' ⟨rfl,v',xs',B',h1,h2,h3⟩
 exact⟨rfl,_,⟨v',xs',B',h1,rfl⟩,h2,h3⟩
theorem ia_put {p:Nat} {w:World} {L:List Ob8} {F:Nat→Prop} (id i x:Int) (h:IA p w L F) (hl:L.length≤10000) (hi:b64 id) (hj:b64 i) (hx:b32 x):Calls Tryz.prog 13 #[pV p,.int .i64 id,.int .i64 i,.int .u32 x] w fun e w'=>e=.returned (.bool (puB L id i x))∧IA p w' (puL L id i x) F∧Cg F w w':=by
 obtain⟨v,xs,B,h,rfl⟩:=h
 refine (iput_c h id i x hi hj hx (by omega)).mono ?_
 rintro e w' ⟨rfl,h1,h2⟩
 exact⟨rfl,⟨v,xs,B,h1,by rw [puL_len]⟩,h2⟩
theorem idealK (p:Nat):StoI idealM (IA p) p List.length where
 lt:=fun h=>h.lt
 same:=fun h hs e=>h.same hs e
 szA:=alL_len
 szP:=fun S id i x=>Nat.le_of_eq (puL_len S id i x)
 ids:=fun S c n h=>alI_64 S c n (by omega)
 alloc:=fun c n h hs hc hn=>ia_alloc c n h (by omega) hc hn
 put:=fun id i x h hs hi hj hx=>(ia_put id i x h (by omega) hi hj hx).mono (by rintro e w' ⟨rfl,h1,h2⟩;exact⟨_,_,rfl,h1,h2,fun k hk=>Or.inl hk⟩)
def IS (w0 wr:World) (p:Nat) (L:List Ob8):Prop:=∃ F,IA p wr L F∧Below w0.heap.size w0 wr∧∀ k,F k→w0.heap.size≤k
section
variable {w0 w w':World} {p:Nat} {L:List Ob8}
theorem IS.bel (h:IS w0 w p L):Below w0.heap.size w0 w:=h.choose_spec.2.1
theorem IS.up (h:IS w0 w p L) (b:Below w.heap.size w w'):IS w0 w' p L:=by
 obtain⟨F,h1,h2,h3⟩:=h
 exact⟨F,h1.same b.size (fun k hk=>b.block k (h1.lt k hk)),h2.trans (b.mono h2.size),h3⟩
theorem is_new (hb:Below w0.heap.size w0 w):Calls Tryz.prog 12 #[] w fun e w'=>∃ p,e=.returned (pV p)∧IS w0 w' p []∧Below w.heap.size w w':=by
 refine (inew_c w).mono ?_
 rintro e w' ⟨p,rfl,h1,h2,h3⟩
 refine⟨p,rfl,⟨_,⟨_,_,_,h1,rfl⟩,hb.trans (h3.mono hb.size),?_⟩,h3⟩
 rintro k (rfl | hk | ⟨j,hj,_⟩)
 ·exact Nat.le_trans hb.size h2
 ·cases hk
 ·simp at hj
theorem is_alloc (h:IS w0 w p L) (c n:Int) (hl:L.length≤10000) (hc:b64 c) (hn:b64 n):Calls Tryz.prog 17 #[pV p,.int .i64 c,.int .i64 n] w fun e w'=>e=.returned (.int .i64 (alI L c n))∧IS w0 w' p (alL L c n):=by
 obtain⟨F,h1,h2,h3⟩:=h
 refine (ia_alloc c n h1 hl hc hn).mono ?_
 rintro e w' ⟨rfl,F',g1,g2,g3⟩
 exact⟨rfl,F',g1,h2.trans (g2.toB h2.size h3),fun k hk=>(g3 k hk).elim (h3 k) (fun e=>Nat.le_trans h2.size e)⟩
theorem is_put (h:IS w0 w p L) (id i x:Int) (hl:L.length≤10000) (hi:b64 id) (hj:b64 i) (hx:b32 x):Calls Tryz.prog 13 #[pV p,.int .i64 id,.int .i64 i,.int .u32 x] w fun e w'=>e=.returned (.bool (puB L id i x))∧IS w0 w' p (puL L id i x):=by
 obtain⟨F,h1,h2,h3⟩:=h
 refine (ia_put id i x h1 hl hi hj hx).mono ?_
 rintro e w' ⟨rfl,g1,g2⟩
 exact⟨rfl,F,g1,h2.trans (g2.toB h2.size h3),h3⟩
theorem is_get (h:IS w0 w p L) (id i:Int) (hl:L.length≤10000) (hi:b64 id) (hj:b64 i):Calls Tryz.prog 33 #[pV p,.int .i64 id,.int .i64 i] w fun e w'=>e=.returned (.tuple #[.int .u32 (gvL L id i),.bool (inO L id i)])∧IS w0 w' p L∧Below w.heap.size w w':=by
 have h0:=h
 obtain⟨F,⟨v,xs,B,h1,rfl⟩,h2,h3⟩:=h
 refine (iget_c h1 id i hi hj (by omega)).mono ?_
 rintro e w' ⟨rfl,g⟩
 exact⟨rfl,h0.up g,g⟩
theorem is_cls (h:IS w0 w p L) (id:Int) (hl:L.length≤10000) (hi:b64 id):Calls Tryz.prog 34 #[pV p,.int .i64 id] w fun e w'=>e=.returned (.int .i64 (clsL L id))∧IS w0 w' p L∧Below w.heap.size w w':=by
 have h0:=h
 obtain⟨F,⟨v,xs,B,h1,rfl⟩,h2,h3⟩:=h
 refine (icls_c h1 id hi (by omega)).mono ?_
 rintro e w' ⟨rfl,g⟩
 exact⟨rfl,h0.up g,g⟩
theorem is_fld (h:IS w0 w p L) (id:Int) (hl:L.length≤10000) (hi:b64 id):Calls Tryz.prog 35 #[pV p,.int .i64 id] w fun e w'=>e=.returned (.int .i64 (fldL L id))∧IS w0 w' p L∧Below w.heap.size w w':=by
 have h0:=h
 obtain⟨F,⟨v,xs,B,h1,rfl⟩,h2,h3⟩:=h
 refine (ifld_c h1 id hi (by omega)).mono ?_
 rintro e w' ⟨rfl,g⟩
 exact⟨rfl,h0.up g,g⟩
theorem is_len (h:IS w0 w p L):Calls Tryz.prog 36 #[pV p] w fun e w'=>e=.returned (.int .i64 (L.length:Int))∧w'=w:=by
 obtain⟨F,⟨v,xs,B,h1,rfl⟩,h2,h3⟩:=h
 exact ilen_c h1
end
def zU:UnitA:=⟨[],[],[],[],0⟩
theorem zU_right:unitR zU=3:=by decide +kernel
theorem zU_k (w:World):UnK w (.agg #[.slice none 0 0,.slice none 0 0,.slice none 0 0,.slice none 0 0,.int .i64 0]) zU :=
 ⟨⟨none,0,none,0,none,0,none,0,rfl,⟨⟨none,0,rfl,by decide,by decide,fun k x h=>by simp [zU] at h⟩,⟨none,0,rfl,by decide,by decide,fun k x h=>by simp [zU] at h⟩,⟨none,0,rfl,by decide,by decide,fun k x h=>by simp [zU] at h⟩,⟨none,0,rfl,by decide,by decide,fun k x h=>by simp [zU] at h⟩⟩⟩⟩
end Wd
end Go.Proofs.YteiejjmhmmkdhaaGreat

/- Turning a program: a row inside it that grows. -/
namespace Go.Proofs.YteiejjmhmmkdhaaGreat
open Go.RowKit
set_option linter.unusedVariables false
set_option maxRecDepth 20000
namespace Wd
section
variable {w0 W w4:World} {b:Nat} {N:List ByteArray} {T:List (ClassA × Value)} {M:List (MethA × Value × Value)} {O:List (ObjA × Value)} {nv cv mv ov v4:Value} {main:Int}
theorem OU.bind {g n cp k:Nat} {cx:ClassA} {bv:Value} {p:Int × Int} (h:OU w0 W (fun _=>False) b N T M O nv (.slice (some ⟨g,0,none⟩) n cp) mv ov main) (hn:T.length=n) (hx:T[k]?=some (cx,bv)) (hb4:(cx.binds++[p]).length≤b+50) (B4:Below W.heap.size W w4) (na4:∀ k,v4.ownBlock=some k→W.heap.size≤k) (hp:PrV w4 v4 (cx.binds++[p])):w4.cell? ⟨g,k*4+3,none⟩=some bv∧w4.frozen? ⟨g,k*4+3,none⟩=false∧OUf w0 (w4.setCell ⟨g,k*4+3,none⟩ v4) (b+50):=by
 have hk:=(List.getElem?_eq_some_iff.1 hx).1
 have h1:=(h.more (b':=b+50) (I':=fun q=>v4.ownBlock=some q) (by omega) (fun q e=>e.elim) (fun q e=>Or.inr (na4 q e))).up B4
 have ho:=h1.oc
 rw [hn] at ho
 have hget:=cl4s_get T k _ hx
 have hup:=cl4s_set T k _ (cx.binds++[p]) v4 hx
 simp only at hget hup
 obtain⟨s0,f0,nb,pb⟩:=h1.ic _ (List.mem_of_getElem? hx)
 simp only at s0 f0 nb pb
 refine⟨(ho.cellAt (k*4+3) (by omega)).trans hget.2.2.2,ho.frozenAt (k*4+3),?_⟩
 exact (h1.cls (k:=k) (j:=3) (y:=(⟨cx.nm,cx.super,cx.fields,cx.binds++[p]⟩,v4)) (u:=v4) hn hup ⟨s0,f0,hb4,StP.new hp (fun q e=>e)⟩ (h1.cs (cx,bv) (List.mem_of_getElem? hx))).fin (Nat.le_refl _)
end
end Wd
end Go.Proofs.YteiejjmhmmkdhaaGreat

/- A tape's program, by value. -/
namespace Go.Proofs.YteiejjmhmmkdhaaGreat
open Go.RowKit
set_option linter.unusedVariables false
set_option maxRecDepth 20000
namespace Wd
theorem UnV.k {w:World} {nv cv mv ov:Value} {U:UnitA} (h:UnV w nv cv mv ov U) (hm:U.main=6):UnK w (.agg #[nv,cv,mv,ov,.int .i64 6]) U:=by
 obtain⟨na,nc,rfl,_⟩:=h.n.ex
 obtain⟨ca,cc,rfl,_⟩:=h.c.ex
 obtain⟨ma,mc,rfl,_⟩:=h.m.ex
 obtain⟨oa,oc,rfl,_⟩:=h.o.ex
 exact⟨⟨na,nc,ca,cc,ma,mc,oa,oc,by rw [hm],h⟩⟩
theorem MeV.of {w:World} {la ca:Option Addr} {nl lc nb cc:Nat} {a t:Int} {L:List (Int × Int)} {C:List Int} (hl:PrV w (.slice la nl lc) L) (hc:ByV w (.slice ca nb cc) C) (ha:In64 a) (ht:In64 t):MeV w (.agg #[.int .i64 a,.int .i64 t,.slice la nl lc,.slice ca nb cc]) ⟨a,t,L,C⟩:=by
 obtain⟨_,_,e,_⟩:=hl.ex
 obtain⟨_,_,e2,_⟩:=hc.ex
 cases e;cases e2
 exact⟨⟨la,lc,ca,cc,rfl,hl,hc⟩,ha,ht⟩
def NumA (w:World) (ad:Option Addr) (n:Nat):Prop:=∀ k,k < n→∃ (g off:Nat) (x:Int),ad=some ⟨g,off,none⟩∧(-9223372036854775808≤x∧x≤9223372036854775807)∧w.cell? ⟨g,off+k,none⟩=some (.int .i64 x)
theorem NumA.up {w w1:World} {ad:Option Addr} {n:Nat} (h:NumA w ad n) (b:Below w.heap.size w w1):NumA w1 ad n:=fun k hk=>by
 obtain⟨g,off,x,e,h1,h2⟩:=h k hk
 exact⟨g,off,x,e,h1,cell_up b h2⟩
theorem tape_tp {w:World} {ad:Option Addr} {n cap:Nat} (h:NumA w ad n) (hn:n≤4611686018427387904):Tp (w.alloc (.cells #[.slice ad n cap,.int .i64 0] 37)) w.heap.size ad n:=by
 refine⟨⟨cap,by simp⟩,⟨0,by omega,by simp⟩,World.frozen?_alloc_new _ _ _ _,fun k hk=>?_,hn⟩
 obtain⟨g,off,x,e,b,c⟩:=h k hk
 have hg:=World.block_lt_of_cell? w _ c
 exact⟨g,off,x,e,by simp only at hg;omega,b,(World.cell?_alloc_old _ _ _ (Nat.ne_of_lt hg)).trans c⟩
theorem unit_bel {w w':World} {c:Obj} (h:Cg (fun k=>k=w.heap.size) (w.alloc c) w'):Below w.heap.size w w' :=
 ⟨h.os,h.tape,h.output,by have:=h.size;simp at this;omega,fun k hk=>(h.block k (by simp;omega) (by omega)).trans (Below.heap_alloc _ _ _ hk)⟩
structure UnT (s:Nat) (w:World) (v:Value) (U:UnitA) (g cap:Nat) (M:List (MethA × Value × Value)):Prop where
 ex:∃ na nc ca cc oa oc,v=.agg #[.slice na U.names.length nc,.slice ca U.classes.length cc,.slice (some ⟨g,0,none⟩) U.methods.length cap,.slice oa U.objects.length oc,.int .i64 U.main]
 un:∀ (G:Nat→Prop) (w2:World),Cg G w w2→(∀ k,G k→k < s)→UnK w2 v U
 mm:M.map (·.1)=U.methods
 ms:∀ (G:Nat→Prop) (w2:World),Cg G w w2→(∀ k,G k→k < s)→∀ (k:Nat) x,M[k]?=some x→w2.cell? ⟨g,k*4,none⟩=some (.int .i64 x.1.args)∧w2.cell? ⟨g,k*4+1,none⟩=some (.int .i64 x.1.temps)∧w2.cell? ⟨g,k*4+2,none⟩=some x.2.1∧w2.cell? ⟨g,k*4+3,none⟩=some x.2.2∧In64 x.1.args∧In64 x.1.temps∧PrV w2 x.2.1 x.1.lits∧ByV w2 x.2.2 x.1.code
 ta:TapeU U
theorem UnT.cg {s:Nat} {w w1:World} {v:Value} {U:UnitA} {g cap:Nat} {M:List (MethA × Value × Value)} (h:UnT s w v U g cap M) {F:Nat→Prop} (c:Cg F w w1) (hF:∀ k,F k→k < s):UnT s w1 v U g cap M :=
 ⟨h.ex,fun G w2 hG hl=>h.un (fun k=>F k∨G k) w2 ((c.mono (fun k hk=>Or.inl hk)).trans (hG.mono (fun k hk=>Or.inr hk))) (fun k hk=>hk.elim (hF k) (hl k)),h.mm,
  fun G w2 hG hl=>h.ms (fun k=>F k∨G k) w2 ((c.mono (fun k hk=>Or.inl hk)).trans (hG.mono (fun k hk=>Or.inr hk))) (fun k hk=>hk.elim (hF k) (hl k)),h.ta⟩
theorem UnT.up {s:Nat} {w w1:World} {v:Value} {U:UnitA} {g cap:Nat} {M:List (MethA × Value × Value)} (h:UnT s w v U g cap M) (b:Below w.heap.size w w1):UnT s w1 v U g cap M:=h.cg (Cg.below (fun _=>False) b) (fun _ e=>e.elim)
theorem UnT.k {s:Nat} {w:World} {v:Value} {U:UnitA} {g cap:Nat} {M:List (MethA × Value × Value)} (h:UnT s w v U g cap M):UnK w v U:=h.un (fun _=>False) w (Cg.refl _ _) (fun _ e=>e.elim)
theorem UnT.m {s:Nat} {w:World} {v:Value} {U:UnitA} {g cap:Nat} {M:List (MethA × Value × Value)} (h:UnT s w v U g cap M) {k:Nat} {x:MethA × Value × Value} (hx:M[k]?=some x):w.cell? ⟨g,k*4,none⟩=some (.int .i64 x.1.args)∧w.cell? ⟨g,k*4+1,none⟩=some (.int .i64 x.1.temps)∧w.cell? ⟨g,k*4+2,none⟩=some x.2.1∧w.cell? ⟨g,k*4+3,none⟩=some x.2.2∧In64 x.1.args∧In64 x.1.temps∧PrV w x.2.1 x.1.lits∧ByV w x.2.2 x.1.code:=h.ms (fun _=>False) w (Cg.refl _ _) (fun _ e=>e.elim) k x hx
theorem UnT.me {s:Nat} {w:World} {v:Value} {U:UnitA} {g cap:Nat} {M:List (MethA × Value × Value)} (h:UnT s w v U g cap M) {k:Nat} {x:MethA × Value × Value} (hx:M[k]?=some x):MeV w (.agg #[.int .i64 x.1.args,.int .i64 x.1.temps,x.2.1,x.2.2]) x.1:=by
 obtain⟨_,_,_,_,i1,i2,hl,hc⟩:=h.m hx
 obtain⟨la,lc,e1,_⟩:=hl.form
 obtain⟨ca,cc,e2,_⟩:=hc.form
 rw [e1] at hl ⊢
 rw [e2] at hc ⊢
 exact MeV.of hl hc i1 i2
theorem UnT.ml {s:Nat} {w:World} {v:Value} {U:UnitA} {g cap:Nat} {M:List (MethA × Value × Value)} (h:UnT s w v U g cap M):M.length=9∧U.methods.length=9:=by
 have:=h.ta.ml
 rw [← h.mm] at this
 exact⟨by simpa using this,h.ta.ml⟩
set_option maxHeartbeats 4000000 in
theorem unit_t {w:World} {p n:Nat} {ad:Option Addr} (h:Tp w p ad n) :
  Calls Tryz.prog 9 #[.pointer (some ⟨p,0,none⟩)] w fun e w'=>∃ v U g cap M,e=.returned v∧UnT (w.heap.size+1) w' v U g cap M∧Cg (fun k=>k=p) w w':=by
 refine (unit_c h).mono ?_
 rintro e w' ⟨nv,cv,mv,ov,rfl,U,hU,hT,_,hcg,M,hM,hF⟩
 obtain⟨_,g,cap,e,_⟩:=hF (fun _=>False) w' (Cg.refl _ _) (fun _ e=>e.elim)
 subst e
 refine⟨_,U,g,cap,M,rfl,⟨?_,fun G w2 hG hl=>(hF G w2 hG hl).1.k hT.main,hM,fun G w2 hG hl k x hx=>?_,hT⟩,hcg⟩
 ·obtain⟨na,nc,rfl,_⟩:=hU.n.ex
  obtain⟨ca,cc,rfl,_⟩:=hU.c.ex
  obtain⟨oa,oc,rfl,_⟩:=hU.o.ex
  exact⟨na,nc,ca,cc,oa,oc,by rw [hT.main]⟩
 ·obtain⟨_,g',cap',e',hcl⟩:=hF G w2 hG hl
  cases e'
  exact hcl k x hx
end Wd
end Go.Proofs.YteiejjmhmmkdhaaGreat

/- The chapter's runs. -/
namespace Go.Proofs.YteiejjmhmmkdhaaGreat
open Go.RowKit
set_option linter.unusedVariables false
set_option maxRecDepth 20000
namespace Wd
def kL1:List Ob8:=[(2,[2,2,2])]
def kL2:List Ob8:=[(2,[2,2,9])]
section
variable {w0 w w':World} {p:Nat}
theorem kn_a1 (h:IS w0 w p []):Calls Tryz.prog 17 #[pV p,.int .i64 2,.int .i64 3] w fun e w'=>e=.returned (.int .i64 4)∧IS w0 w' p kL1:=by
 have:=is_alloc h 2 3 (by decide) ⟨by decide,by decide⟩ ⟨by decide,by decide⟩
 rwa [show alI [] 2 3=4 by decide,show alL [] 2 3=kL1 by decide] at this
theorem kn_p1 (h:IS w0 w p kL1):Calls Tryz.prog 13 #[pV p,.int .i64 4,.int .i64 2,.int .u32 9] w fun e w'=>e=.returned (.bool true)∧IS w0 w' p kL2:=by
 have:=is_put h 4 2 9 (by decide) ⟨by decide,by decide⟩ ⟨by decide,by decide⟩ ⟨by decide,by decide⟩
 rwa [show puB kL1 4 2 9=true by decide,show puL kL1 4 2 9=kL2 by decide] at this
theorem kn_g1 (h:IS w0 w p kL2):Calls Tryz.prog 33 #[pV p,.int .i64 4,.int .i64 2] w fun e w'=>e=.returned (.tuple #[.int .u32 9,.bool true])∧IS w0 w' p kL2:=by
 have:=is_get h 4 2 (by decide) ⟨by decide,by decide⟩ ⟨by decide,by decide⟩
 rw [show gvL kL2 4 2=9 by decide,show inO kL2 4 2=true by decide] at this
 exact this.mono (by rintro e w' ⟨h1,h2,_⟩;exact⟨h1,h2⟩)
theorem kn_g2 (h:IS w0 w p kL2):Calls Tryz.prog 33 #[pV p,.int .i64 5,.int .i64 0] w fun e w'=>e=.returned (.tuple #[.int .u32 0,.bool false])∧IS w0 w' p kL2:=by
 have:=is_get h 5 0 (by decide) ⟨by decide,by decide⟩ ⟨by decide,by decide⟩
 rw [show gvL kL2 5 0=0 by decide,show inO kL2 5 0=false by decide] at this
 exact this.mono (by rintro e w' ⟨h1,h2,_⟩;exact⟨h1,h2⟩)
theorem kn_c1 (h:IS w0 w p kL2):Calls Tryz.prog 34 #[pV p,.int .i64 4] w fun e w'=>e=.returned (.int .i64 2)∧IS w0 w' p kL2:=by
 have:=is_cls h 4 (by decide) ⟨by decide,by decide⟩
 rw [show clsL kL2 4=2 by decide] at this
 exact this.mono (by rintro e w' ⟨h1,h2,_⟩;exact⟨h1,h2⟩)
theorem kn_c2 (h:IS w0 w p kL2):Calls Tryz.prog 34 #[pV p,.int .i64 5] w fun e w'=>e=.returned (.int .i64 (-1))∧IS w0 w' p kL2:=by
 have:=is_cls h 5 (by decide) ⟨by decide,by decide⟩
 rw [show clsL kL2 5=-1 by decide] at this
 exact this.mono (by rintro e w' ⟨h1,h2,_⟩;exact⟨h1,h2⟩)
theorem kn_f1 (h:IS w0 w p kL2):Calls Tryz.prog 35 #[pV p,.int .i64 4] w fun e w'=>e=.returned (.int .i64 3)∧IS w0 w' p kL2:=by
 have:=is_fld h 4 (by decide) ⟨by decide,by decide⟩
 rw [show fldL kL2 4=3 by decide] at this
 exact this.mono (by rintro e w' ⟨h1,h2,_⟩;exact⟨h1,h2⟩)
theorem kn_a2 (h:IS w0 w p kL2):Calls Tryz.prog 17 #[pV p,.int .i64 4096,.int .i64 1] w fun e w'=>e=.returned (.int .i64 (-1))∧IS w0 w' p kL2:=by
 have:=is_alloc h 4096 1 (by decide) ⟨by decide,by decide⟩ ⟨by decide,by decide⟩
 rwa [show alI kL2 4096 1=-1 by decide,show alL kL2 4096 1=kL2 by decide] at this
theorem kn_a3 (h:IS w0 w p kL2):Calls Tryz.prog 17 #[pV p,.int .i64 1,.int .i64 63] w fun e w'=>e=.returned (.int .i64 (-1))∧IS w0 w' p kL2:=by
 have:=is_alloc h 1 63 (by decide) ⟨by decide,by decide⟩ ⟨by decide,by decide⟩
 rwa [show alI kL2 1 63=-1 by decide,show alL kL2 1 63=kL2 by decide] at this
theorem kn_p2 (h:IS w0 w p kL2):Calls Tryz.prog 13 #[pV p,.int .i64 4,.int .i64 0,.int .u32 0] w fun e w'=>e=.returned (.bool false)∧IS w0 w' p kL2:=by
 have:=is_put h 4 0 0 (by decide) ⟨by decide,by decide⟩ ⟨by decide,by decide⟩ ⟨by decide,by decide⟩
 rwa [show puB kL2 4 0 0=false by decide,show puL kL2 4 0 0=kL2 by decide] at this
theorem kn_l1 (h:IS w0 w p kL2):Calls Tryz.prog 36 #[pV p] w fun e w'=>e=.returned (.int .i64 1)∧IS w0 w' p kL2 :=
 (is_len h).mono (by rintro e w' ⟨h1,rfl⟩;exact⟨h1,h⟩)
theorem kn_z (h:IS w0 w p kL2):Calls Tryz.prog 20 #[.iface 42 (pV p),.agg #[.slice none 0 0,.slice none 0 0,.slice none 0 0,.slice none 0 0,.int .i64 0]] w fun e w'=>e=.returned (.tuple #[.slice none 0 0,.bool false])∧IS w0 w' p kL2 :=
 (load_bad (zU_k w) (by rw [zU_right];decide) _ _).mono (by rintro e w' ⟨h1,h2⟩;exact⟨h1,h.up h2⟩)
theorem kn_u (h:IS w0 w p kL2):Calls Tryz.prog 9 #[.pointer (some ⟨w.heap.size,0,none⟩)] (w.alloc (.cells #[.slice none 0 0,.int .i64 0] 37)) fun e w'=>∃ v U,e=.returned v∧UnK w' v U∧IS w0 w' p kL2:=by
 refine (unit_t (tape_tp (ad:=none) (n:=0) (cap:=0) (fun k hk=>by omega) (by omega))).mono ?_
 rintro e w' ⟨v,U,g,cap,M,rfl,hU,hc⟩
 exact⟨v,U,rfl,hU.k,h.up (unit_bel hc)⟩
theorem kn_n {v:Value} {U:UnitA} (hu:UnK w v U) (h:IS w0 w p kL2):Calls Tryz.prog 20 #[.nilIface,v] w fun e w'=>e=.returned (.tuple #[.slice none 0 0,.bool false])∧IS w0 w' p kL2 :=
 (load_nil hu).mono (by rintro e w' ⟨h1,h2⟩;exact⟨h1,h.up h2⟩)
end
theorem builtUn8:Tryz.prog.built 32 []=some #[.slice none 0 0,.slice none 0 0,.slice none 0 0,.slice none 0 0,.int .i64 0]:=by kernel_rfl
theorem builtTp8:Tryz.prog.built 37 []=some #[.slice none 0 0,.int .i64 0]:=by kernel_rfl
set_option maxHeartbeats 16000000 in
theorem known8_c (w:World):Calls Tryz.prog 10 #[] w fun e w'=>e=.returned (.bool true)∧Below w.heap.size w w':=by
 have hb1:=builtUn8
 have hb2:=builtTp8
 go_enter Tryz.func10,Tryz.ntmps10
 simp only [List.append_eq,List.cons_append,List.nil_append]
 go_upto_region 4 with (go_at_call 12;refine (is_new (Below.refl _ _)).mono ?_;rintro e w1 ⟨p,rfl,h1,_⟩;replace h1:=Lib.hid h1)
 go_upto_region 5 with (go_at_call 17;refine (kn_a1 h1.out).mono ?_;rintro e w2 ⟨rfl,h2⟩;replace h2:=Lib.hid h2)
 go_upto_region 6 with (go_at_call 13;refine (kn_p1 h2.out).mono ?_;rintro e w3 ⟨rfl,h3⟩;replace h3:=Lib.hid h3)
 clear h1 h2
 go_upto_region 7 with (go_at_call 33;refine (kn_g1 h3.out).mono ?_;rintro e w4 ⟨rfl,h4⟩;replace h4:=Lib.hid h4)
 go_upto_region 8 with (go_at_call 33;refine (kn_g2 h4.out).mono ?_;rintro e w5 ⟨rfl,h5⟩;replace h5:=Lib.hid h5)
 clear h3 h4
 go_upto_region 9 with (go_at_call 20;refine (kn_z h5.out).mono ?_;rintro e w6 ⟨rfl,h6⟩;replace h6:=Lib.hid h6)
 go_upto_region 10 with (first | (go_at_call 9;refine (kn_u h6.out).mono ?_;rintro e w7 ⟨v,U,rfl,hu,h7⟩;replace h7:=Lib.hid h7;replace hu:=Lib.hid hu) | (go_at_call 20;refine (kn_n hu.out h7.out).mono ?_;rintro e w8 ⟨rfl,h8⟩;replace h8:=Lib.hid h8))
 clear h5 h6 h7 hu
 go_wp2_with (first | (go_at_call 34;with_reducible refine (kn_c1 h8.out).mono ?_;rintro e w9 ⟨rfl,h9⟩;replace h9:=Lib.hid h9) | (go_at_call 35;with_reducible refine (kn_f1 h9.out).mono ?_;rintro e w10 ⟨rfl,h10⟩;replace h10:=Lib.hid h10) | (go_at_call 34;with_reducible refine (kn_c2 h10.out).mono ?_;rintro e w11 ⟨rfl,h11⟩;replace h11:=Lib.hid h11) | (go_at_call 36;with_reducible refine (kn_l1 h11.out).mono ?_;rintro e w12 ⟨rfl,h12⟩;replace h12:=Lib.hid h12) | (go_at_call 17;with_reducible refine (kn_a2 h12.out).mono ?_;rintro e w13 ⟨rfl,h13⟩;replace h13:=Lib.hid h13) | (go_at_call 17;with_reducible refine (kn_a3 h13.out).mono ?_;rintro e w14 ⟨rfl,h14⟩;replace h14:=Lib.hid h14) | (go_at_call 13;with_reducible refine (kn_p2 h14.out).mono ?_;rintro e w15 ⟨rfl,h15⟩;replace h15:=Lib.hid h15))
 go_ret
 exact⟨rfl,h15.out.bel⟩
end Wd
end Go.Proofs.YteiejjmhmmkdhaaGreat

/- Identities are told one by one; what is put stays. -/
namespace Go.Proofs.YteiejjmhmmkdhaaGreat
open Go.RowKit
set_option linter.unusedVariables false
set_option maxRecDepth 20000
namespace Wd
def AskV8 (w:World) (ad:Option Addr) (n:Nat):Prop:=∀ k,k < n→∃ (g off:Nat) (x y z u:Int),ad=some ⟨g,off,none⟩∧b64 x∧b64 y∧b64 z∧b64 u∧w.cell? ⟨g,off+k*4,none⟩=some (.int .i64 x)∧w.cell? ⟨g,off+k*4+1,none⟩=some (.int .i64 y)∧w.cell? ⟨g,off+k*4+2,none⟩=some (.int .i64 z)∧w.cell? ⟨g,off+k*4+3,none⟩=some (.int .i64 u)
theorem AskV8.fn {w:World} {ad:Option Addr} {n:Nat} (h:AskV8 w ad n):∃ f:Nat→Int × Int × Int × Int,∀ k,k < n→(b64 (f k).1∧b64 (f k).2.1∧b64 (f k).2.2.1∧b64 (f k).2.2.2)∧∃ g off,ad=some ⟨g,off,none⟩∧w.cell? ⟨g,off+k*4,none⟩=some (.int .i64 (f k).1)∧w.cell? ⟨g,off+k*4+1,none⟩=some (.int .i64 (f k).2.1)∧w.cell? ⟨g,off+k*4+2,none⟩=some (.int .i64 (f k).2.2.1)∧w.cell? ⟨g,off+k*4+3,none⟩=some (.int .i64 (f k).2.2.2):=by
 have H:∀ k,∃ q:Int × Int × Int × Int,k < n→(b64 q.1∧b64 q.2.1∧b64 q.2.2.1∧b64 q.2.2.2)∧∃ g off,ad=some ⟨g,off,none⟩∧w.cell? ⟨g,off+k*4,none⟩=some (.int .i64 q.1)∧w.cell? ⟨g,off+k*4+1,none⟩=some (.int .i64 q.2.1)∧w.cell? ⟨g,off+k*4+2,none⟩=some (.int .i64 q.2.2.1)∧w.cell? ⟨g,off+k*4+3,none⟩=some (.int .i64 q.2.2.2):=fun k=>by
  by_cases hk:k < n
  ·obtain⟨g,off,x,y,z,u,e,b0,b1,b2,b3,c0,c1,c2,c3⟩:=h k hk
   exact⟨(x,y,z,u),fun _=>⟨⟨b0,b1,b2,b3⟩,g,off,e,c0,c1,c2,c3⟩⟩
  ·exact⟨(0,0,0,0),fun e=>absurd e hk⟩
 obtain⟨f,hf⟩:=Classical.axiomOfChoice H
 exact⟨f,hf⟩
def kc (y:Int):Int:=bits .and .i64 y 15
def kv (u:Int):Int:=bits .or .u32 (u % 4294967296) 1
end Wd
end Go.Proofs.YteiejjmhmmkdhaaGreat

/- The shell: what came in, as the form reads it, opened: a slice of asks. -/
namespace Go.Proofs.YteiejjmhmmkdhaaGreat
open Go.ChangeShapes Go.WideShapes Go.ChangeAt Go.RowKit
set_option linter.unusedVariables false
set_option maxRecDepth 100000
namespace Wd
theorem laidOut:laidOutB Tryz.prog=true:=by kernel_rfl
theorem cellsI9:Tryz.prog.cellsOf 3=1:=by kernel_rfl
theorem bytesI9:Tryz.prog.bytesOf 3=8:=by kernel_rfl
variable {H:Type} {enc:TypeId × Value→H} {W:World}
theorem nums_raw {n:Nat} {c:Value} {y:DataW H × List MemPlace} (h:DataW.trod enc Tryz.prog W 0 (fun _=>true) true n 34 [c]=some y):∃ ad len cap,c=.slice ad len cap∧NumA W ad len:=by
 rcases DataW.trod_slice Tryz.underlying34 h with ⟨hcs,hx⟩ | ⟨a,len,cap,elems,rest,m,_,hcs,hx,hb,hl,hm,hlen,hel,_,_⟩
 ·simp at hcs
  exact⟨none,0,0,hcs,fun k hk=>absurd hk (by omega)⟩
 ·simp at hcs
  have hsp:0 < len→a.spot=none:=fun h0=>by
   obtain⟨z,hz⟩:∃ z,elems[0]?=some z:=⟨elems[0]'(by omega),by simp⟩
   have hk1:=hel 0 h0
   rw [hz,cellsI9,Option.bind_eq_some_iff] at hk1
   obtain⟨cs,hc,ht⟩:=hk1
   obtain⟨_,hcl,hcc⟩:=World.cells?_some hc
   obtain⟨x,e0,_,w0⟩:=DataW.trod_int Tryz.underlying3 ht
   subst e0
   have hs:=World.cell?_spot ((hcc 0 (by omega)).trans (show [Value.int IntKind.i64 x][0]?=some (.int .i64 x) from rfl))
   simpa [Addr.add] using hs
  refine⟨some a,len,cap,hcs,fun k hk=>?_⟩
  obtain⟨z,hz⟩:∃ z,elems[k]?=some z:=⟨elems[k]'(by omega),by simp⟩
  have hk1:=hel k hk
  rw [hz,cellsI9,Option.bind_eq_some_iff] at hk1
  obtain⟨cs,hc,ht⟩:=hk1
  obtain⟨_,hcl,hcc⟩:=World.cells?_some hc
  obtain⟨x,e0,_,w0⟩:=DataW.trod_int Tryz.underlying3 ht
  subst e0
  have h0:=hcc 0 (by omega)
  obtain⟨b,off,spot⟩:=a
  have hspot:spot=none:=hsp (by omega)
  subst hspot
  simp only [Addr.add_lit,Nat.add_zero,Nat.mul_one] at h0
  exact⟨b,off,x,rfl,bounds_i64 w0,h0⟩
theorem nums_of {base:Nat} {v:Value} {d:DataW H} {p:List MemPlace} (hv:Value.okWide Tryz.prog W .any base 34 v) (h:DataW.Trod enc Tryz.prog W 0 (fun _=>true) true 34 v d p):∃ ad len cap,v=.slice ad len cap∧NumA W ad len∧((d=.nil∧len=0)∨∃ elems spare,d=.slice elems spare∧len≤elems.length):=by
 obtain⟨a0,len,cap,rfl⟩:=okWide_slice Tryz.underlying34 hv
 obtain⟨fuel,hf⟩:=h
 obtain⟨ad,len',cap',e,hN⟩:=nums_raw (c:=.slice a0 len cap) (by simpa [Value.cells] using hf)
 cases e
 refine⟨_,_,_,rfl,hN,?_⟩
 rcases DataW.trod_slice Tryz.underlying34 hf with ⟨hcs,hx⟩ | ⟨a,len',cap',elems,rest,n,_,hcs,hx,hb,hl,hm,hlen,hel,_,_⟩
 ·simp [Value.cells] at hcs
  obtain⟨rfl,rfl,rfl⟩:=hcs
  simp only [Prod.mk.injEq] at hx
  exact Or.inl ⟨hx.1,rfl⟩
 ·simp [Value.cells] at hcs
  obtain⟨rfl,rfl,rfl⟩:=hcs
  simp only [Prod.mk.injEq] at hx
  exact Or.inr ⟨_,_,hx.1,by simp;omega⟩
end Wd
end Go.Proofs.YteiejjmhmmkdhaaGreat

/- The document's own Ideal: how it lies; what its reading calls answer; Put. -/
namespace Go.Proofs.YteiejjmhmmkdhaaGreat
open Go.RowKit
set_option linter.unusedVariables false
set_option maxRecDepth 20000
namespace Wd
def w32 (L:List Int):List Value:=L.map (Value.int .u32)
structure RD (w:World) (b:Nat) (v:Value) (xs:List Value) (us:Nat→Value) (L:List Ob8):Prop where
 c0:w.cell? ⟨b,0,none⟩=some v
 z:w.frozen? ⟨b,0,none⟩=false
 row:w.ownsRow 0 89 2 v L.length xs
 at':∀ k x,L[k]?=some x→xs[k*2]?=some (.int .i64 x.1)∧xs[k*2+1]?=some (us k)∧w.ownsRow 0 49 1 (us k) x.2.length (w32 x.2)∧(0≤x.1∧x.1≤4095∧x.2.length≤62)∧∀ y∈x.2,b32 y
 inj:∀ j k q,j < L.length→k < L.length→(us j).ownBlock=some q→(us k).ownBlock=some q→j=k
 ap:∀ k q,k < L.length→(us k).ownBlock=some q→q≠b∧v.ownBlock≠some q
 vb:v.ownBlock≠some b
def unR (b:Nat) (v:Value) (us:Nat→Value) (n:Nat):Nat→Prop:=fun k=>k=b∨v.ownBlock=some k∨∃ j,j < n∧(us j).ownBlock=some k
section
variable {w w':World} {b:Nat} {v:Value} {xs:List Value} {us:Nat→Value} {L:List Ob8}
theorem RD.lt (h:RD w b v xs us L):∀ k,unR b v us L.length k→k < w.heap.size:=by
 rintro k (rfl | hk | ⟨j,hj,hk⟩)
 ·exact World.block_lt_of_cell? w _ h.c0
 ·exact own_lt h.row k hk
 ·exact own_lt (h.at' j L[j] (by simp)).2.2.1 k hk
theorem RD.same (h:RD w b v xs us L) (hs:w.heap.size≤w'.heap.size) (e:∀ k,unR b v us L.length k→w'.heap[k]?=w.heap[k]?):RD w' b v xs us L :=
 ⟨(World.cell?_of_block (a:=⟨b,0,none⟩) (e b (Or.inl rfl))).trans h.c0,(World.frozen?_of_block (a:=⟨b,0,none⟩) (e b (Or.inl rfl))).trans h.z,own_same h.row (fun k hk=>e k (Or.inr (Or.inl hk))) hs,
  fun k x hx=>by
   obtain⟨h1,h2,h3,h4⟩:=h.at' k x hx
   exact⟨h1,h2,own_same h3 (fun q hq=>e q (Or.inr (Or.inr ⟨k,(List.getElem?_eq_some_iff.1 hx).1,hq⟩))) hs,h4⟩,h.inj,h.ap,h.vb⟩
theorem RD.keep (h:RD w b v xs us L) (g:Below w.heap.size w w'):RD w' b v xs us L:=h.same g.size (fun k hk=>g.block k (h.lt k hk))
theorem rhas_c (h:RD w b v xs us L) (id:Int) (hi:b64 id) (hl:L.length≤100000):Calls Tryz.prog 39 #[pV b,.int .i64 id] w fun e w'=>e=.returned (.bool (hasL L id))∧w'=w:=by
 obtain⟨ad,cap,rfl,_⟩:=own_form h.row
 have c0:=h.c0
 clear h
 by_cases h4:4≤id
 ·have hw:IntKind.i64.wrap (4+(L.length:Int))=4+(L.length:Int):=by rw [IntKind.wrap_i64];omega
  have e:hasL L id=decide (id < 4+(L.length:Int)):=by unfold hasL;rw [decide_eq_decide];omega
  rw [e];clear e
  go_enter Tryz.func39,Tryz.ntmps39
  go_wp2
  go_ret
  exact⟨rfl,rfl⟩
 ·have e:hasL L id=false:=by unfold hasL;rw [decide_eq_false_iff_not];omega
  rw [e];clear e
  go_enter Tryz.func39,Tryz.ntmps39
  go_wp2
  go_ret
  exact⟨rfl,rfl⟩
theorem RD.cells (h:RD w b v xs us L) {k:Nat} {x:Ob8} (hx:L[k]?=some x):∃ g cap,v=.slice (some ⟨g,0,none⟩) L.length cap∧w.cell? ⟨g,k*2,none⟩=some (.int .i64 x.1)∧w.cell? ⟨g,k*2+1,none⟩=some (us k)∧∃ ua uc,us k=.slice ua x.2.length uc:=by
 have hk:=(List.getElem?_eq_some_iff.1 hx).1
 obtain⟨h1,h2,h3,_⟩:=h.at' k x hx
 have hr:=h.row
 obtain⟨ua,uc,eu,_⟩:=own_form h3
 rcases hr.2 with ⟨_,e2⟩ | ⟨g,cap,cur,e,_⟩
 ·omega
 ·subst e
  exact⟨g,cap,rfl,own_cell hr h1,own_cell hr h2,ua,uc,eu⟩
theorem rcls_c (h:RD w b v xs us L) (id:Int) (hi:b64 id) (hl:L.length≤100000):Calls Tryz.prog 42 #[pV b,.int .i64 id] w fun e w'=>e=.returned (.int .i64 (clsL L id))∧w'=w:=by
 have P:=Lib.hid (rhas_c h id hi hl)
 cases hh:hasL L id with
 | false =>
  rw [hh] at P
  have e:clsL L id=-1:=by unfold clsL;rw [hh];rfl
  rw [e];clear e h hh
  go_enter Tryz.func42,Tryz.ntmps42
  go_wp2_with (first | (go_at_call 39;(refine (P.out).mono ?_);rintro e w2 ⟨rfl,hw2⟩;subst w2))
  go_ret
  exact⟨rfl,rfl⟩
 | true =>
  rw [hh] at P
  obtain⟨k,x,rfl,hk,hx,ho⟩:=hasL_y hh
  have e:clsL L (4+(k:Int))=x.1:=by unfold clsL;rw [hh,ho];rfl
  rw [e];clear e
  have c0:=h.c0
  obtain⟨g,cap,rfl,ca,cb,ua,uc,eu⟩:=h.cells hx
  have hw:IntKind.i64.wrap (4+(k:Int) - 4)=(k:Int):=by rw [IntKind.wrap_i64];omega
  have hkl:(k:Int) < (L.length:Int):=by omega
  clear h hh hx ho
  go_enter Tryz.func42,Tryz.ntmps42
  go_wp2_with (first | (go_at_call 39;(refine (P.out).mono ?_);rintro e w2 ⟨rfl,hw2⟩;subst w2))
  go_ret
  exact⟨rfl,rfl⟩
theorem rfld_c (h:RD w b v xs us L) (id:Int) (hi:b64 id) (hl:L.length≤100000):Calls Tryz.prog 43 #[pV b,.int .i64 id] w fun e w'=>e=.returned (.int .i64 (fldL L id))∧w'=w:=by
 have P:=Lib.hid (rhas_c h id hi hl)
 cases hh:hasL L id with
 | false =>
  rw [hh] at P
  have e:fldL L id=-1:=by unfold fldL;rw [hh];rfl
  rw [e];clear e h hh
  go_enter Tryz.func43,Tryz.ntmps43
  go_wp2_with (first | (go_at_call 39;(refine (P.out).mono ?_);rintro e w2 ⟨rfl,hw2⟩;subst w2))
  go_ret
  exact⟨rfl,rfl⟩
 | true =>
  rw [hh] at P
  obtain⟨k,x,rfl,hk,hx,ho⟩:=hasL_y hh
  have e:fldL L (4+(k:Int))=(x.2.length:Int):=by unfold fldL;rw [hh,ho];rfl
  rw [e];clear e
  have c0:=h.c0
  obtain⟨g,cap,rfl,ca,cb,ua,uc,eu⟩:=h.cells hx
  rw [eu] at cb
  have hw:IntKind.i64.wrap (4+(k:Int) - 4)=(k:Int):=by rw [IntKind.wrap_i64];omega
  have hkl:(k:Int) < (L.length:Int):=by omega
  clear h hh hx ho eu
  go_enter Tryz.func43,Tryz.ntmps43
  go_wp2_with (first | (go_at_call 39;(refine (P.out).mono ?_);rintro e w2 ⟨rfl,hw2⟩;subst w2))
  go_ret
  exact⟨rfl,rfl⟩
theorem rget_c (h:RD w b v xs us L) (id i:Int) (hi:b64 id) (hj:b64 i) (hl:L.length≤100000):Calls Tryz.prog 28 #[pV b,.int .i64 id,.int .i64 i] w fun e w'=>e=.returned (.tuple #[.int .u32 (gvL L id i),.bool (inO L id i)])∧w'=w:=by
 have P:=Lib.hid (rhas_c h id hi hl)
 cases hh:hasL L id with
 | false =>
  rw [hh] at P
  have hin:inO L id i=false:=by unfold inO;rw [hh];rfl
  have eg:gvL L id i=0:=by unfold gvL;rw [hin];rfl
  rw [eg,hin];clear eg hin h hh
  go_enter Tryz.func28,Tryz.ntmps28
  go_wp2_with (first | (go_at_call 39;(refine (P.out).mono ?_);rintro e w2 ⟨rfl,hw2⟩;subst w2))
  go_returns
  exact⟨rfl,rfl⟩
 | true =>
  rw [hh] at P
  by_cases h0:0≤i
  ·obtain⟨k,x,rfl,hk,hx,ho⟩:=hasL_y hh
   have hfl:fldL L (4+(k:Int))=(x.2.length:Int):=by unfold fldL;rw [hh,ho];rfl
   have c0:=h.c0
   obtain⟨g,cap,rfl,ca,cb,ua,uc,eu⟩:=h.cells hx
   have h3:=(h.at' k x hx).2.2.1
   have h62:=(h.at' k x hx).2.2.2.1.2.2
   rw [eu] at cb h3
   have hw:IntKind.i64.wrap (4+(k:Int) - 4)=(k:Int):=by rw [IntKind.wrap_i64];omega
   have hkl:(k:Int) < (L.length:Int):=by omega
   by_cases h1:i < (x.2.length:Int)
   ·obtain⟨j,rfl⟩:∃ j:Nat,i=j:=⟨i.toNat,by omega⟩
    have hjx:j < x.2.length:=by omega
    obtain⟨k',x',j',e1,_,hx',ho',e2,hj',hin⟩:=inO_yes (L:=L) (id:=4+(k:Int)) (i:=(j:Int)) (by rw [hfl];omega)
    have eg:gvL L (4+(k:Int)) (j:Int)=x.2[j]:=by
     unfold gvL;rw [hin,if_pos rfl,ho,Int.toNat_natCast,List.getD_eq_getElem?_getD,List.getElem?_eq_getElem hjx];rfl
    rw [eg,hin]
    obtain⟨gu,rfl,cu⟩:∃ gu,ua=some ⟨gu,0,none⟩∧w.cell? ⟨gu,j,none⟩=some (.int .u32 x.2[j]):=by
     rcases h3.2 with ⟨_,e2⟩ | ⟨gu,cap',cur,e,_⟩
     ·omega
     ·cases e
      exact⟨gu,rfl,own_cell h3 (by simp [w32])⟩
    have d1:decide ((x.2.length:Int)≤(j:Int))=false:=by simp;omega
    generalize x.2[j]=y at *
    clear h hh hx ho eu h3 h62 eg hin e1 e2 hx' ho' hj' hfl
    generalize x.2.length=xl at *
    go_enter Tryz.func28,Tryz.ntmps28
    go_wp2_with (first | (go_at_call 39;(refine (P.out).mono ?_);rintro e w2 ⟨rfl,hw2⟩;subst w2))
    go_returns
    exact⟨rfl,rfl⟩
   ·have hin:inO L (4+(k:Int)) i=false:=inO_no (by rw [hfl];omega)
    have eg:gvL L (4+(k:Int)) i=0:=by unfold gvL;rw [hin];rfl
    have d1:decide ((x.2.length:Int)≤i)=true:=by simp;omega
    rw [eg,hin]
    clear h hh hx ho eu h3 h62 eg hin hfl
    generalize x.2.length=xl at *
    go_enter Tryz.func28,Tryz.ntmps28
    go_wp2_with (first | (go_at_call 39;(refine (P.out).mono ?_);rintro e w2 ⟨rfl,hw2⟩;subst w2))
    go_returns
    exact⟨rfl,rfl⟩
  ·have hin:inO L id i=false:=inO_no (by omega)
   have eg:gvL L id i=0:=by unfold gvL;rw [hin];rfl
   rw [eg,hin];clear eg hin h hh
   go_enter Tryz.func28,Tryz.ntmps28
   go_wp2_with (first | (go_at_call 39;(refine (P.out).mono ?_);rintro e w2 ⟨rfl,hw2⟩;subst w2))
   go_returns
   exact⟨rfl,rfl⟩
end
end Wd
end Go.Proofs.YteiejjmhmmkdhaaGreat

/- The document's own Ideal: Put. -/
namespace Go.Proofs.YteiejjmhmmkdhaaGreat
open Go.RowKit
set_option linter.unusedVariables false
set_option maxRecDepth 20000
namespace Wd
section
variable {w w' w1 w2:World} {b:Nat} {v:Value} {xs:List Value} {us:Nat→Value} {L:List Ob8}
theorem w32_set (L:List Int) (j:Nat) (y:Int):(w32 L).set j (.int .u32 y)=w32 (L.set j y):=by simp [w32]
theorem RD.put (h:RD w b v xs us L) {k j gu uc:Nat} {x:Ob8} (hx:L[k]?=some x) (hj:j < x.2.length) (hu:us k=.slice (some ⟨gu,0,none⟩) x.2.length uc) {y:Int} (hy:b32 y) :
  RD (w.setCell ⟨gu,j,none⟩ (.int .u32 y)) b v xs us (L.set k (puO x (j:Int) y))∧Cg (unR b v us L.length) w (w.setCell ⟨gu,j,none⟩ (.int .u32 y)):=by
 have hk:=(List.getElem?_eq_some_iff.1 hx).1
 have hub:(us k).ownBlock=some gu:=by rw [hu];rfl
 obtain⟨h1,h2,h3,h4,h5⟩:=h.at' k x hx
 obtain⟨a1,a2⟩:=h.ap k gu hk hub
 have hc:Cg (fun q=>q=gu) w (w.setCell ⟨gu,j,none⟩ (.int .u32 y)):=(Cg.refl (fun q=>q=gu) w).set ⟨gu,j,none⟩ rfl _
 have oth:∀ q,q < w.heap.size→q≠gu→(w.setCell ⟨gu,j,none⟩ (.int .u32 y)).heap[q]?=w.heap[q]?:=fun q hq hne=>hc.block q hq hne
 have hp:b < w.heap.size:=World.block_lt_of_cell? w _ h.c0
 refine⟨⟨(World.cell?_of_block (a:=⟨b,0,none⟩) (oth b hp (fun e=>a1 e.symm))).trans h.c0,by rw [World.frozen?_setCell];exact h.z,?_,?_,?_,?_,h.vb⟩,hc.mono (fun q hq=>Or.inr (Or.inr ⟨k,hk,by rw [hq];exact hub⟩))⟩
 ·rw [List.length_set]
  exact own_same h.row (fun q hq=>oth q (own_lt h.row q hq) (fun e=>a2 (by rw [hq,e]))) hc.size
 ·intro m z hz
  rw [List.getElem?_set] at hz
  split at hz
  ·rename_i e
   subst e
   cases hz
   refine⟨h1,h2,?_,by rw [puO_len];exact h4,fun z hz=>?_⟩
   ·rw [hu] at h3
    have:=(h3.stored j (.int .u32 y)).1
    rw [puO_len,hu]
    simp only [puO,Int.toNat_natCast]
    rw [← w32_set]
    exact this
   ·rcases List.mem_or_eq_of_mem_set hz with hz | rfl
    ·exact h5 z hz
    ·exact hy
  ·rename_i hne
   obtain⟨g1,g2,g3,g4⟩:=h.at' m z hz
   have hm:=(List.getElem?_eq_some_iff.1 hz).1
   exact⟨g1,g2,own_same g3 (fun q hq=>oth q (own_lt g3 q hq) (fun e=>hne (h.inj m k q hm hk hq (by rw [e];exact hub)).symm)) hc.size,g4⟩
 ·rw [List.length_set];exact h.inj
 ·rw [List.length_set];exact h.ap
theorem rput_c (h:RD w b v xs us L) (id i y:Int) (hi:b64 id) (hj:b64 i) (hy:b32 y) (hl:L.length≤100000):Calls Tryz.prog 14 #[pV b,.int .i64 id,.int .i64 i,.int .u32 y] w fun e w'=>e=.returned (.bool (puB L id i y))∧RD w' b v xs us (puL L id i y)∧Cg (unR b v us L.length) w w':=by
 have P:=Lib.hid (rget_c h id i hi hj hl)
 by_cases h1:0≤i∧i < fldL L id
 ·obtain⟨k,x,j,rfl,hk,hx,ho,rfl,hjx,hin⟩:=inO_yes h1
  rw [hin] at P
  by_cases hz:y=0
  ·have eb:puB L (4+(k:Int)) (j:Int) y=false:=by unfold puB;simp [hz]
   have dz:(y == 0)=true:=by simp [hz]
   have fin:=Lib.hid (⟨h,Cg.refl _ _⟩:RD w b v xs us L∧Cg (unR b v us L.length) w w)
   unfold puL;rw [eb,if_neg (by decide)]
   clear h hx ho hin h1 eb hz
   go_enter Tryz.func14,Tryz.ntmps14
   go_wp2_with (first | (go_at_call 28;(refine (P.out).mono ?_);rintro e w2 ⟨rfl,hw2⟩;subst w2))
   go_ret
   exact⟨rfl,fin.out⟩
  ·have eb:puB L (4+(k:Int)) (j:Int) y=true:=by unfold puB;rw [hin];simp [hz]
   have dz:(y == 0)=false:=by simp [hz]
   have el:puL L (4+(k:Int)) (j:Int) y=L.set k (puO x (j:Int) y):=by unfold puL;rw [eb,if_pos rfl,ho,show (4+(k:Int) - 4).toNat=k by omega]
   rw [eb,el];clear eb el
   have c0:=h.c0
   have h3:=(h.at' k x hx).2.2.1
   obtain⟨g,cap,rfl,ca,cb,ua,uc,eu⟩:=h.cells hx
   rw [eu] at cb h3
   obtain⟨gu,rfl,cu,zu⟩:∃ gu,ua=some ⟨gu,0,none⟩∧w.cell? ⟨gu,j,none⟩=some (.int .u32 x.2[j])∧w.frozen? ⟨gu,j,none⟩=false:=by
    rcases h3.2 with ⟨_,e2⟩ | ⟨gu,cap',cur,e,_⟩
    ·omega
    ·cases e
     exact⟨gu,rfl,own_cell h3 (by simp [w32]),own_froz h3 j⟩
   have hw:IntKind.i64.wrap (4+(k:Int) - 4)=(k:Int):=by rw [IntKind.wrap_i64];omega
   have hkl:(k:Int) < (L.length:Int):=by omega
   have hjl:(j:Int) < (x.2.length:Int):=by omega
   have fin:=Lib.hid (h.put hx hjx eu hy)
   clear h hx ho hin h1 hz h3 eu
   generalize x.2[j]=yo at *
   generalize puO x (j:Int) y=xp at *
   generalize x.2.length=xl at *
   go_enter Tryz.func14,Tryz.ntmps14
   go_wp2_with (first | (go_at_call 28;(refine (P.out).mono ?_);rintro e w2 ⟨rfl,hw2⟩;subst w2))
   go_ret
   exact⟨rfl,fin.out⟩
 ·have hin:=inO_no h1
  rw [hin] at P
  have eb:puB L id i y=false:=by unfold puB;rw [hin];rfl
  have fin:=Lib.hid (⟨h,Cg.refl _ _⟩:RD w b v xs us L∧Cg (unR b v us L.length) w w)
  unfold puL;rw [eb,if_neg (by decide)]
  clear h hin h1 eb
  go_enter Tryz.func14,Tryz.ntmps14
  go_wp2_with (first | (go_at_call 28;(refine (P.out).mono ?_);rintro e w2 ⟨rfl,hw2⟩;subst w2))
  go_ret
  exact⟨rfl,fin.out⟩
end
end Wd
end Go.Proofs.YteiejjmhmmkdhaaGreat

/- The document's own Ideal: Alloc. -/
namespace Go.Proofs.YteiejjmhmmkdhaaGreat
open Go.RowKit
set_option linter.unusedVariables false
set_option maxRecDepth 20000
namespace Wd
theorem step_any8 {P:Program} {w:World} {ops:Array Oper} {o:Oper} {a:Act} {K:Act→World→Prop} {Q:Exit→Act→World→Prop} {E:Prop} (hgd:o.guard=none) (s x:Operand) (t:TypeId)
  (ho:o.op=.call { callee:=.builtin .append,args:=#[s,x],argTypes:=#[t,t] })
  (base:Nat) (e:TypeId) (i:TypeInfo) (z:Value) (size bytes:Nat) (ht:P.underlying t=some (.slice e)) (hi:P.info? e=some i) (hz:i.zero=some z)
  (hsize:i.size=size) (hby:i.bytes=bytes) (hzs:z.cells.size=size) (hsz:0 < size)
  (v u:Value) (n m:Nat) (xs news:List Value) (hs:a.eval s=v) (hx:a.eval x=u) (hown:w.ownsRow base e size v n xs) (hu:Rd w u m news) (hl:news.length=m*size) (h1:∀ u∈news,u.oneCell'=true)
  (h63:n+m≤maxLen) (hbytes:(n+m)*bytes≤140737488355328) (hbase:base≤w.heap.size)
  (h:∀ v' w',w'.ownsRow base e size v' (n+m) (xs++news)→w.grownBy w' v.ownBlock→(v'.ownBlock=v.ownBlock∨v'.ownBlock=some w.heap.size)→K (a.put o.dst v') w') :
  if Region.wanted o (yielded ops a.tmps)=true then Oper.wp P o a w K Q else E:=by
 have hw:Region.wanted o (yielded ops a.tmps)=true:=by simp [Region.wanted,hgd]
 rw [if_pos hw]
 obtain⟨v',w',hr,h2,h3,h5⟩:=run_app_any (P:=P) w base t o.type e i z size bytes ht hi hz hsize hby hzs hsz v u n m xs news hown hu hl h1 h63 hbytes hbase
 unfold Oper.wp execOp
 simp only [ho,resolve,invoke,builtin,Sem.run_bind,Sem.run_pure,Result.andThen_ok,List.map_toArray,List.map_cons,List.map_nil,hs,hx,hr]
 exact h v' w' h2 h3 h5
theorem infoO8:(Tryz.prog.info? 89).map (fun i=>(i.zero,i.size,i.bytes))=some (some (.agg #[.int .i64 0,.slice none 0 0]),2,32):=by kernel_rfl
theorem rd_two (w:World) (u1 u2:Value) (T:TypeId):Rd (w.alloc (.cells #[u1,u2] T)) (.slice (some ⟨w.heap.size,0,none⟩) 1 1) 1 [u1,u2]:=by
 refine Or.inr ⟨_,_,rfl,fun j x hx=>?_⟩
 match j,hx with
 | 0,hx=>simp at hx;subst hx;rw [Addr.add_lit];simp
 | 1,hx=>simp at hx;subst hx;rw [Addr.add_lit];simp
structure Al9 (w wr:World) (q j:Nat) (c:Int) (u:Value):Prop where
 bel:Below w.heap.size w wr
 qn:w.heap.size≤q
 ql:q < wr.heap.size
 c0:wr.cell? ⟨q,0,none⟩=some (.int .i64 c)
 c1:wr.cell? ⟨q,1,none⟩=some u
 z1:wr.frozen? ⟨q,1,none⟩=false
 own:wr.ownsRow 0 49 1 u j (List.replicate j (.int .u32 2))
 ub:∀ k,u.ownBlock=some k→w.heap.size≤k∧k≠q
section
variable {w w' w1 w2 wr:World} {b q j:Nat} {v v' u u':Value} {xs:List Value} {us:Nat→Value} {L:List Ob8} {c:Int}
theorem Al9.up (h:Al9 w wr q j c u) (g:Below wr.heap.size wr w1):Al9 w w1 q j c u :=
 ⟨h.bel.trans (g.mono h.bel.size),h.qn,Nat.lt_of_lt_of_le h.ql g.size,cell_up g h.c0,cell_up g h.c1,(g.frozen h.ql).trans h.z1,own_same h.own (fun k hk=>g.block k (own_lt h.own k hk)) g.size,h.ub⟩
theorem Al9.cell (h:Al9 w wr q j c u) {o:Obj} (hg:(wr.alloc o).grownBy w2 u.ownBlock):w2.cell? ⟨q,1,none⟩=some u∧w2.frozen? ⟨q,1,none⟩=false:=by
 have hs:(wr.alloc o).heap.size=wr.heap.size+1:=by simp
 have hq:=h.ql
 have e:w2.heap[q]?=wr.heap[q]?:=(hg.block q (by omega) (fun e=>(h.ub q e.symm).2 rfl)).trans (Below.heap_alloc _ _ _ hq)
 exact⟨(World.cell?_of_block (a:=⟨q,1,none⟩) e).trans h.c1,(World.frozen?_of_block (a:=⟨q,1,none⟩) e).trans h.z1⟩
theorem Al9.next (h:Al9 w wr q j c u) {o:Obj} (ho:w2.ownsRow 0 49 1 u' (j+1) (List.replicate j (.int .u32 2)++[.int .u32 2])) (hg:(wr.alloc o).grownBy w2 u.ownBlock) (hv:u'.ownBlock=u.ownBlock∨u'.ownBlock=some (wr.alloc o).heap.size) :
  Al9 w (w2.setCell ⟨q,1,none⟩ u') q (j+1) c u':=by
 have hs:(wr.alloc o).heap.size=wr.heap.size+1:=by simp
 have hq:=h.ql
 have hqn:=h.qn
 have hb:=h.bel.size
 have hz:=hg.size
 have e:w2.heap[q]?=wr.heap[q]?:=(hg.block q (by omega) (fun e=>(h.ub q e.symm).2 rfl)).trans (Below.heap_alloc _ _ _ hq)
 have hu':∀ k,u'.ownBlock=some k→w.heap.size≤k∧k≠q:=by
  intro k hk
  rcases hv with e | e
  ·exact h.ub k (by rw [← e];exact hk)
  ·rw [e] at hk;have:=Option.some.inj hk;omega
 have c1':w2.cell? ⟨q,1,none⟩=some u:=(World.cell?_of_block (a:=⟨q,1,none⟩) e).trans h.c1
 refine⟨⟨hg.os.trans h.bel.os,hg.tape.trans h.bel.tape,hg.output.trans h.bel.output,?_,fun k hk=>?_⟩,hqn,?_,?_,World.cell?_setCell_same _ _ _ c1',?_,?_,hu'⟩
 ·have:(w2.setCell ⟨q,1,none⟩ u').heap.size=w2.heap.size:=by simp [World.setCell]
  omega
 ·rw [Below.heap_setCell _ _ _ _ (show k≠q by omega),hg.block k (by omega) (fun e=>by have:=(h.ub k e.symm).1;omega),Below.heap_alloc _ _ _ (by omega)]
  exact h.bel.block k hk
 ·have:(w2.setCell ⟨q,1,none⟩ u').heap.size=w2.heap.size:=by simp [World.setCell]
  omega
 ·rw [World.cell?_setCell_other _ _ _ _ (by intro e;injection e with _ e2;omega)]
  exact (World.cell?_of_block (a:=⟨q,0,none⟩) e).trans h.c0
 ·rw [World.frozen?_setCell];exact (World.frozen?_of_block (a:=⟨q,1,none⟩) e).trans h.z1
 ·have e2:List.replicate (j+1) (Value.int .u32 2)=List.replicate j (.int .u32 2)++[.int .u32 2]:=List.replicate_succ'
  rw [e2]
  exact own_same ho (fun k hk=>Below.heap_setCell _ _ _ _ (hu' k hk).2) (by simp [World.setCell])
theorem RD.push (h:RD w b v xs us L) (b1:Below w.heap.size w w1) {x:Ob8} (hu:w1.ownsRow 0 49 1 u x.2.length (w32 x.2)) (hq:∀ k,u.ownBlock=some k→w.heap.size≤k) (hx:0≤x.1∧x.1≤4095∧x.2.length≤62) (hy:∀ y∈x.2,b32 y)
  (ho:w2.ownsRow 0 89 2 v' (L.length+1) (xs++[.int .i64 x.1,u])) (hg:w1.grownBy w2 v.ownBlock) (hv:v'.ownBlock=v.ownBlock∨v'.ownBlock=some w1.heap.size) :
  RD (w2.setCell ⟨b,0,none⟩ v') b v' (xs++[.int .i64 x.1,u]) (fun k=>if k=L.length then u else us k) (L++[x])∧Cg (unR b v us L.length) w (w2.setCell ⟨b,0,none⟩ v')∧∀ k,unR b v' (fun k=>if k=L.length then u else us k) (L.length+1) k→unR b v us L.length k∨w.heap.size≤k:=by
 have hp:b < w.heap.size:=World.block_lt_of_cell? w _ h.c0
 have hlx:xs.length=L.length*2:=h.row.1
 have hb1:=b1.size
 have hvb:v'.ownBlock≠some b:=by
  rcases hv with e | e
  ·rw [e];exact h.vb
  ·rw [e];intro e2;have:=Option.some.inj e2;omega
 have hul:∀ k,u.ownBlock=some k→k < w1.heap.size:=fun k hk=>own_lt hu k hk
 have hvu:∀ k,u.ownBlock=some k→v'.ownBlock≠some k∧k≠b:=fun k hk=>by
  have h1:=hq k hk
  have h2:=hul k hk
  refine⟨?_,by omega⟩
  rcases hv with e | e
  ·rw [e];intro e2;have:=own_lt h.row k e2;omega
  ·rw [e];intro e2;have:=Option.some.inj e2;omega
 have hc:Cg (fun q=>q=b∨v.ownBlock=some q) w w2:=(Cg.below _ b1).trans' (G:=fun q=>q=b∨v.ownBlock=some q) ((Cg.refl _ _).grown hg (fun k e=>Or.inl (Or.inr e))) (fun k e=>Or.inl e)
 have hs:∀ q,q≠b→(w2.setCell ⟨b,0,none⟩ v').heap[q]?=w2.heap[q]?:=fun q hq=>Below.heap_setCell _ _ _ _ hq
 have old:∀ q,q < w.heap.size→q≠b→v.ownBlock≠some q→(w2.setCell ⟨b,0,none⟩ v').heap[q]?=w.heap[q]?:=fun q h1 h2 h3=>(hs q h2).trans (hc.block q h1 (fun e=>e.elim h2 h3))
 have hpw:w2.heap[b]?=w.heap[b]?:=by
  rw [hg.block b (Nat.lt_of_lt_of_le hp b1.size) (fun e=>h.vb e.symm),b1.block b hp]
 have huo:∀ k,k < L.length→∀ q,(us k).ownBlock=some q→q < w.heap.size:=fun k hk q hq=>h.lt q (Or.inr (Or.inr ⟨k,hk,hq⟩))
 refine⟨⟨World.cell?_setCell_same _ _ _ ((World.cell?_of_block (a:=⟨b,0,none⟩) hpw).trans h.c0),by rw [World.frozen?_setCell];exact (World.frozen?_of_block (a:=⟨b,0,none⟩) hpw).trans h.z,?_,?_,?_,?_,hvb⟩,?_,?_⟩
 ·rw [List.length_append,List.length_singleton]
  exact own_same ho (fun q hq=>hs q (fun e=>hvb (by rw [hq,e]))) (by simp [World.setCell])
 ·intro k z hz
  rw [List.getElem?_append] at hz
  split at hz
  ·rename_i hk
   obtain⟨h1,h2,h3,h4⟩:=h.at' k z hz
   rw [if_neg (by omega)]
   exact⟨by rw [List.getElem?_append_left (by omega)];exact h1,by rw [List.getElem?_append_left (by omega)];exact h2,own_same h3 (fun q hq=>old q (own_lt h3 q hq) (h.ap k q hk hq).1 (h.ap k q hk hq).2) (by have:=hc.size;simpa [World.setCell] using this),h4⟩
  ·rename_i hk
   have hk2:k=L.length:=by
    have:=(List.getElem?_eq_some_iff.1 hz).1
    simp at this;omega
   subst hk2
   rw [Nat.sub_self] at hz
   cases hz
   rw [if_pos rfl]
   refine⟨by rw [List.getElem?_append_right (by omega),hlx,Nat.sub_self];rfl,by rw [List.getElem?_append_right (by omega),hlx,show L.length*2+1 - L.length*2=1 by omega];rfl,own_same hu (fun q hk=>?_) (by have:=hg.size;simpa [World.setCell] using this),hx,hy⟩
   have h1:=hq q hk
   have h2:=hul q hk
   rw [hs q (by omega)]
   exact hg.block q h2 (fun e=>by have:=own_lt h.row q e.symm;omega)
 ·intro i j q hi hj ei ej
  simp only [List.length_append,List.length_singleton] at hi hj
  by_cases h1:i=L.length <;> by_cases h2:j=L.length
  ·omega
  ·rw [if_pos h1] at ei;rw [if_neg h2] at ej
   have:=hq q ei;have:=huo j (by omega) q ej;omega
  ·rw [if_neg h1] at ei;rw [if_pos h2] at ej
   have:=hq q ej;have:=huo i (by omega) q ei;omega
  ·rw [if_neg h1] at ei;rw [if_neg h2] at ej
   exact h.inj i j q (by omega) (by omega) ei ej
 ·intro k q hk e
  simp only [List.length_append,List.length_singleton] at hk
  by_cases h1:k=L.length
  ·rw [if_pos h1] at e
   exact⟨(hvu q e).2,(hvu q e).1⟩
  ·rw [if_neg h1] at e
   have hk':k < L.length:=by omega
   refine⟨(h.ap k q hk' e).1,?_⟩
   rcases hv with e2 | e2
   ·rw [e2];exact (h.ap k q hk' e).2
   ·rw [e2];intro e3;have:=Option.some.inj e3;have:=huo k hk' q e;omega
 ·exact (hc.set ⟨b,0,none⟩ (Or.inl rfl) v').mono (fun q hq=>hq.elim Or.inl (fun e=>Or.inr (Or.inl e)))
 ·rintro k (rfl | hk | ⟨j,hj,hk⟩)
  ·exact Or.inl (Or.inl rfl)
  ·rcases hv with e | e
   ·exact Or.inl (Or.inr (Or.inl (by rw [← e];exact hk)))
   ·rw [e] at hk;have:=Option.some.inj hk;exact Or.inr (by omega)
  ·by_cases h1:j=L.length
   ·simp only [h1,if_true] at hk;exact Or.inr (hq k hk)
   ·simp only [if_neg h1] at hk;exact Or.inl (Or.inr (Or.inr ⟨j,by omega,hk⟩))
end
end Wd
end Go.Proofs.YteiejjmhmmkdhaaGreat

/- The document's own Ideal: Alloc, the walk. -/
namespace Go.Proofs.YteiejjmhmmkdhaaGreat
open Go.RowKit
set_option linter.unusedVariables false
set_option maxRecDepth 20000
namespace Wd
section
variable {w w' w1 w2 wr:World} {b:Nat} {v:Value} {xs:List Value} {us:Nat→Value} {L:List Ob8}
set_option maxHeartbeats 32000000 in
theorem ralloc_c (h:RD w b v xs us L) (c n:Int) (hc:b64 c) (hn:b64 n) (hl:L.length≤10000):Calls Tryz.prog 18 #[pV b,.int .i64 c,.int .i64 n] w fun e w'=>e=.returned (.int .i64 (alI L c n))∧∃ v' xs' us',RD w' b v' xs' us' (alL L c n)∧Cg (unR b v us L.length) w w'∧∀ k,unR b v' us' (alL L c n).length k→unR b v us L.length k∨w.heap.size≤k:=by
 cases ok:okA c n with
 | false =>
  have ei:alI L c n=-1:=by unfold alI;rw [ok];rfl
  have el:alL L c n=L:=by unfold alL;rw [ok];rfl
  rw [ei,el]
  have fin:=Lib.hid (⟨v,xs,us,h,Cg.refl _ _,fun k hk=>Or.inl hk⟩:∃ v' xs' us',RD w b v' xs' us' L∧Cg (unR b v us L.length) w w∧∀ k,unR b v' us' L.length k→unR b v us L.length k∨w.heap.size≤k)
  have key:c < 0∨(0≤c∧4095 < c)∨(0≤c∧c≤4095∧n < 0)∨(0≤c∧c≤4095∧0≤n∧62 < n):=by
   unfold okA at ok
   rw [Bool.and_eq_false_iff,decide_eq_false_iff_not,decide_eq_false_iff_not] at ok
   omega
  clear h ok ei el
  rcases key with k1 | ⟨k1,k2⟩ | ⟨k1,k2,k3⟩ | ⟨k1,k2,k3,k4⟩
  ·have d1:decide (c < 0)=true:=by simpa using k1
   go_enter Tryz.func18,Tryz.ntmps18
   go_wp2
   go_ret
   exact⟨rfl,fin.out⟩
  ·have d1:decide (c < 0)=false:=by simp;omega
   have d2:decide (4095 < c)=true:=by simpa using k2
   go_enter Tryz.func18,Tryz.ntmps18
   go_wp2
   go_ret
   exact⟨rfl,fin.out⟩
  ·have d1:decide (c < 0)=false:=by simp;omega
   have d2:decide (4095 < c)=false:=by simp;omega
   have d3:decide (n < 0)=true:=by simpa using k3
   go_enter Tryz.func18,Tryz.ntmps18
   go_wp2
   go_ret
   exact⟨rfl,fin.out⟩
  ·have d1:decide (c < 0)=false:=by simp;omega
   have d2:decide (4095 < c)=false:=by simp;omega
   have d3:decide (n < 0)=false:=by simp;omega
   have d4:decide (62 < n)=true:=by simpa using k4
   go_enter Tryz.func18,Tryz.ntmps18
   go_wp2
   go_ret
   exact⟨rfl,fin.out⟩
 | true =>
  have ei:alI L c n=4+(L.length:Int):=by unfold alI;rw [ok,if_pos rfl]
  have el:alL L c n=L++[newO c n]:=by unfold alL;rw [ok,if_pos rfl]
  rw [ei,el]
  unfold okA at ok
  rw [Bool.and_eq_true,decide_eq_true_eq,decide_eq_true_eq] at ok
  obtain⟨⟨k1,k2⟩,k3,k4⟩:=ok
  obtain⟨n,rfl⟩:∃ m:Nat,n=m:=⟨n.toNat,by omega⟩
  have d1:decide (c < 0)=false:=by simp;omega
  have d2:decide (4095 < c)=false:=by simp;omega
  have d3:decide ((n:Int) < 0)=false:=by simp
  have d4:decide (62 < (n:Int))=false:=by simp;omega
  have fin:=Lib.hid (fun (w1 w2:World) (q:Nat) (u v':Value) (a:Al9 w w1 q n c u) (o:w2.ownsRow 0 89 2 v' (L.length+1) (xs++[.int .i64 c,u])) (g:(w1.alloc (.cells #[.int .i64 c,u] 89)).grownBy w2 v.ownBlock) (hv:v'.ownBlock=v.ownBlock∨v'.ownBlock=some (w1.alloc (.cells #[.int .i64 c,u] 89)).heap.size)=>by
   have hb:=a.bel
   have a2:=a.up ((Below.refl _ _).alloc (Nat.le_refl _) (.cells #[.int .i64 c,u] 89))
   have hu:(w1.alloc (.cells #[.int .i64 c,u] 89)).ownsRow 0 49 1 u (newO c (n:Int)).2.length (w32 (newO c (n:Int)).2):=by
    have:=a2.own
    simp only [newO,Int.toNat_natCast,List.length_replicate,w32,List.map_replicate]
    exact this
   obtain⟨e1,e2,e3⟩:=h.push (x:=newO c (n:Int)) (hb.alloc hb.size _) hu (fun k hk=>(a.ub k hk).1) (by simp only [newO,Int.toNat_natCast,List.length_replicate];omega) (fun y hy=>by
    have:=(List.mem_replicate.1 hy).2
    subst this;constructor <;> decide) o g hv
   exact (⟨v',_,_,e1,e2,by rw [List.length_append,List.length_singleton];exact e3⟩:∃ v'' xs' us',RD (w2.setCell ⟨b,0,none⟩ v') b v'' xs' us' (L++[newO c (n:Int)])∧Cg (unR b v us L.length) w (w2.setCell ⟨b,0,none⟩ v')∧∀ k,unR b v'' us' (L++[newO c (n:Int)]).length k→unR b v us L.length k∨w.heap.size≤k))
  have hrow:=Lib.hid (fun (w1:World) (b1:Below w.heap.size w w1)=>(h.keep b1).row)
  have hcell:=Lib.hid (fun (w1:World) (b1:Below w.heap.size w w1)=>(⟨(h.keep b1).c0,(h.keep b1).z⟩:_∧_))
  have hpl:=Lib.hid (fun (w1 w2:World) (g1:Below w.heap.size w w1) (g:w1.grownBy w2 v.ownBlock)=>(⟨(World.cell?_of_block (a:=⟨b,0,none⟩) (g.block b (Nat.lt_of_lt_of_le (World.block_lt_of_cell? w _ h.c0) g1.size) (fun e=>h.vb e.symm))).trans (h.keep g1).c0,(World.frozen?_of_block (a:=⟨b,0,none⟩) (g.block b (Nat.lt_of_lt_of_le (World.block_lt_of_cell? w _ h.c0) g1.size) (fun e=>h.vb e.symm))).trans (h.keep g1).z⟩:w2.cell? ⟨b,0,none⟩=some v∧w2.frozen? ⟨b,0,none⟩=false))
  have hbl:=Lib.hid (World.block_lt_of_cell? w _ h.c0)
  obtain⟨i0,hi0,hz0,hz1,hz2⟩:=infoP8 infoW8
  obtain⟨i1,hi1,hy0,hy1,hy2⟩:=infoP8 infoO8
  have hB:=Lib.hid ((Below.refl w.heap.size w).alloc (Nat.le_refl _) (.cells #[.int .i64 c,.slice none 0 0] 89))
  have hst:=Lib.hid (show Al9 w (w.alloc (.cells #[.int .i64 c,.slice none 0 0] 89)) w.heap.size 0 c (.slice none 0 0) from ⟨hB.out,Nat.le_refl _,by simp,World.cell?_alloc_new _ _ _ 0,World.cell?_alloc_new _ _ _ 1,World.frozen?_alloc_new _ _ _ _,⟨by simp,Or.inl ⟨rfl,rfl⟩⟩,fun k e=>by simp [Value.ownBlock] at e⟩)
  have hbt:Tryz.prog.built 89 [(0,.int .i64 c)]=some #[.int .i64 c,.slice none 0 0]:=by kernel_rfl
  obtain⟨ad,cap,hvf,_⟩:=own_form h.row
  subst hvf
  have hmx:Hid (L.length+1≤maxLen):=Lib.hid (by simp only [maxLen];omega)
  have hbx:Hid ((L.length+1)*32≤140737488355328):=Lib.hid (by omega)
  clear h ei el
  go_enter Tryz.func18,Tryz.ntmps18
  go_upto_region 4 with fail
  generalize w.alloc (.cells #[.int .i64 c,.slice none 0 0] 89)=w5 at *
  go_wp2
  clear hB hbt
  go_loopw [8] (fun x wr=>∃ (j:Nat) (u:Value),j≤n∧x=.int .i64 j∧Hid (Al9 w wr w.heap.size j c u)) (fun x _=>n - (intOf x).toNat)
  case atStart=>exact⟨0,_,by omega,rfl,hst⟩
  case round =>
   clear hst
   obtain⟨j,u,hj,rfl,hA⟩:=hrel
   obtain⟨ua,uc,e,_⟩:=own_form hA.out.own
   subst e
   by_cases hlt:j < n
   ·as_aux_lemma =>
    have d5:decide ((j:Int) < (n:Int))=true:=by simp;omega
    have w1':IntKind.i64.wrap ((j:Int)+1)=((j+1:Nat):Int):=by rw [IntKind.wrap_i64];omega
    have cu:=hA.out.c1
    have hmj:Hid (j+1≤maxLen):=Lib.hid (by simp only [maxLen];omega)
    have hbj:Hid ((j+1)*4≤140737488355328):=Lib.hid (by omega)
    have ho:=Lib.hid (own_same hA.out.own (w':=wr.alloc (.cells #[.int .u32 2] 49)) (fun k hk=>Below.heap_alloc _ _ _ (own_lt hA.out.own k hk)) (by simp))
    have hj1:j+1≤n:=by omega
    go_wp2_with (first | (at_builtin;refine wpList_app_any rfl (.tmp 31) (.tmp 32) 87 rfl 0 49 i0 (.int .u32 0) 1 4 Tryz.underlying87 hi0 hz0 hz1 hz2 rfl (by decide) (.slice ua j uc) (.slice (some ⟨wr.heap.size,0,none⟩) 1 1) j 1 (List.replicate j (.int .u32 2)) [.int .u32 2] (by simp [Act.eval]) (by simp [Act.eval]) ho.out (rd_one _ _ _) rfl (by simp [Value.oneCell']) hmj.out hbj.out (Nat.zero_le _) ?_;intro v9 w9 hown9 hg9 hat9;(obtain⟨pc9,pz9⟩:=hA.out.cell hg9);have h9:=Lib.hid (hA.out.next hown9 hg9 hat9);(obtain⟨a9,c9,e9,_⟩:=own_form hown9);subst e9;clear hown9 hg9 hat9 cu))
    go_roundw
    case rel=>exact⟨j+1,_,hj1,by go_num,h9⟩
    case measure=>simp [intOf];omega
   ·have e:j=n:=by omega
    subst e
    have d5:decide ((j:Int) < (j:Int))=false:=by simp
    have cc:=hA.out.c0
    have cu:=hA.out.c1
    have cb:=(hcell.out _ hA.out.bel).1
    have hA2:=Lib.hid (hA.out.up ((Below.refl _ _).drew))
    have ho:=Lib.hid (hrow.out _ (hA2.out.bel.alloc hA2.out.bel.size (.cells #[.int .i64 c,.slice ua j uc] 89)))
    have hb9:=Lib.hid (hA2.out.bel.alloc hA2.out.bel.size (.cells #[.int .i64 c,.slice ua j uc] 89))
    have hA3:=Lib.hid (hA2.out.up ((Below.refl _ _).alloc (Nat.le_refl _) (.cells #[.int .i64 c,.slice ua j uc] 89)))
    have hkp:Hid (∀ W:World,(wr.drew.alloc (.cells #[.int .i64 c,.slice ua j uc] 89)).grownBy W (Value.slice ad L.length cap).ownBlock→W.cell? ⟨w.heap.size,0,none⟩=some (.int .i64 c)∧W.cell? ⟨w.heap.size,1,none⟩=some (.slice ua j uc)):=Lib.hid (fun W hg=>by
     have hq:=hA3.out.ql
     have e:=hg.block w.heap.size hq (fun e=>by have:=own_lt (hrow.out _ (Below.refl _ _)) _ e.symm;omega)
     exact⟨(World.cell?_of_block (a:=⟨w.heap.size,0,none⟩) e).trans hA3.out.c0,(World.cell?_of_block (a:=⟨w.heap.size,1,none⟩) e).trans hA3.out.c1⟩)
    have cb3:=(hcell.out _ hb9.out).1
    go_upto_region 8 with fail
    refine wp_region_last (d:=10) (fuel:=10) (S:=(fun wr'=>wr'.cell? ⟨b,0,none⟩=some (.slice ad L.length cap)∧wr'.cell? ⟨w.heap.size,0,none⟩=some (.int .i64 c)∧wr'.cell? ⟨w.heap.size,1,none⟩=some (.slice ua j uc))) (by kernel_rfl) (by kernel_rfl) rfl ?_ (fun hHeld=>?_)
    ·(try dsimp only);exact⟨cb,cc,cu⟩
    try simp only [Act.put,nA]
    refine tk (i:=0) (oi:=⟨some 35,.move (.tmp 0),44,"ref.go:31",#[],none⟩) (hy:=by intro w hSw;(try dsimp only at hSw);obtain⟨q0,q1,q2⟩:=hSw;go_simp <;> with_reducible rfl) ?_
    try simp only [Act.put,nA]
    refine tk (i:=1) (oi:=⟨some 36,.move (.tmp 0),44,"ref.go:31",#[],none⟩) (hy:=by intro w hSw;(try dsimp only at hSw);obtain⟨q0,q1,q2⟩:=hSw;go_simp <;> with_reducible rfl) ?_
    try simp only [Act.put,nA]
    refine tk (i:=2) (oi:=⟨some 37,.nilCheck (.tmp 36),0,"ref.go:31",#[⟨1,.data⟩],none⟩) (hy:=by intro w hSw;(try dsimp only at hSw);obtain⟨q0,q1,q2⟩:=hSw;go_simp <;> with_reducible rfl) ?_
    try simp only [Act.put,nA]
    refine tk (i:=3) (oi:=⟨some 38,.fieldAddr 47 (.tmp 37) 0,0,"ref.go:31",#[⟨2,.data⟩],none⟩) (hy:=by intro w hSw;(try dsimp only at hSw);obtain⟨q0,q1,q2⟩:=hSw;go_simp <;> with_reducible rfl) ?_
    try simp only [Act.put,nA]
    refine tk (i:=4) (oi:=⟨some 39,.load 45 (.tmp 38),45,"ref.go:31",#[⟨3,.data⟩],none⟩) (hy:=by intro w hSw;(try dsimp only at hSw);obtain⟨q0,q1,q2⟩:=hSw;go_simp <;> with_reducible rfl) ?_
    try simp only [Act.put,nA]
    refine tk (i:=5) (oi:=⟨some 40,.load 89 (.tmp 7),89,"ref.go:31",#[],none⟩) (hy:=by intro w hSw;(try dsimp only at hSw);obtain⟨q0,q1,q2⟩:=hSw;go_simp <;> with_reducible rfl) ?_
    try simp only [Act.put,nA]
    refine wpAnyH_ready (rs:=[6]) (by kernel_rfl) (by simp) ?_
    refine AllReadyH.cons (o:=⟨some 41,.buildSlice 45 1 #[(0,.tmp 40)],45,"ref.go:31",#[⟨5,.data⟩],none⟩) rfl (fun K9 hK=>?_) AllReadyH.nil
    go_simp
    refine hK.out _ _ ?_ ?_
    ·(try dsimp only);exact⟨cb3,hA3.out.c0,hA3.out.c1⟩
    clear hK K9 hHeld;intro hHeld
    try simp only [Act.put,nA]
    refine wpAnyH_ready (rs:=[7]) (by kernel_rfl) (by simp) ?_
    refine AllReadyH.cons (o:=⟨some 42,.call { callee:=.builtin .append,args:=#[.tmp 39,.tmp 41],argTypes:=#[45,45] },45,"ref.go:31",#[⟨4,.data⟩,⟨6,.data⟩],none⟩) rfl (fun K9 hK=>?_) AllReadyH.nil
    refine step_any8 rfl (.tmp 39) (.tmp 41) 45 rfl 0 89 i1 (.agg #[.int .i64 0,.slice none 0 0]) 2 32 Tryz.underlying45 hi1 hy0 hy1 hy2 rfl (by decide) (.slice ad L.length cap) (.slice (some ⟨wr.drew.heap.size,0,none⟩) 1 1) L.length 1 xs [.int .i64 c,.slice ua j uc] rfl rfl ho.out (rd_two _ _ _ _) rfl (by simp [Value.oneCell']) hmx.out hbx.out (Nat.zero_le _) ?_
    intro v9 w9 hown9 hg9 hat9
    have hF:=Lib.hid (fin.out wr.drew w9 w.heap.size _ v9 hA2.out hown9 hg9 hat9)
    obtain⟨pc9,pz9⟩:=hpl.out _ w9 hb9.out hg9
    obtain⟨kc9,ku9⟩:=hkp.out w9 hg9
    obtain⟨a9,c9,e9,_⟩:=own_form hown9
    subst e9
    clear hown9 hg9 hat9
    refine hK.out _ _ ?_ ?_
    ·(try dsimp only);exact⟨pc9,kc9,ku9⟩
    clear hK K9 hHeld;intro hHeld
    try simp only [Act.put,nA]
    refine tk (i:=8) (oi:=⟨some 43,.nilCheck (.tmp 35),0,"ref.go:31",#[⟨0,.data⟩,⟨0,.phase⟩,⟨1,.phase⟩,⟨2,.phase⟩,⟨3,.phase⟩,⟨4,.phase⟩,⟨5,.phase⟩,⟨6,.phase⟩,⟨7,.phase⟩],none⟩) (hy:=by intro w hSw;(try dsimp only at hSw);obtain⟨q0,q1,q2⟩:=hSw;go_simp <;> with_reducible rfl) ?_
    try simp only [Act.put,nA]
    refine tk (i:=9) (oi:=⟨some 44,.fieldAddr 47 (.tmp 43) 0,0,"ref.go:31",#[⟨8,.data⟩,⟨0,.phase⟩,⟨1,.phase⟩,⟨2,.phase⟩,⟨3,.phase⟩,⟨4,.phase⟩,⟨5,.phase⟩,⟨6,.phase⟩,⟨7,.phase⟩],none⟩) (hy:=by intro w hSw;(try dsimp only at hSw);obtain⟨q0,q1,q2⟩:=hSw;go_simp <;> with_reducible rfl) ?_
    try simp only [Act.put,nA]
    refine last_step (o:=⟨none,.store 45 (.tmp 44) (.tmp 42),0,"ref.go:31",#[⟨9,.data⟩,⟨7,.data⟩,⟨7,.chain⟩,⟨0,.phase⟩,⟨1,.phase⟩,⟨2,.phase⟩,⟨3,.phase⟩,⟨4,.phase⟩,⟨5,.phase⟩,⟨6,.phase⟩,⟨7,.phase⟩],none⟩) rfl (by kernel_rfl) (fun K hK=>?_)
    go_simp
    refine hK.out _ _ ?_
    clear hK K
    try simp only [Act.put,nA]
    go_wp2
    go_ret
    exact⟨congrArg Ending.returned (congrArg (Value.int .i64) (by omega)),hF.out⟩
end
end Wd
end Go.Proofs.YteiejjmhmmkdhaaGreat
