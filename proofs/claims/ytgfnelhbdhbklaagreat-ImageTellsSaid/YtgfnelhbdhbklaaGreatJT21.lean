/- Texts joined: RHD, UFW, ITA, ITL0, ITL, UTN, INM, KR9, ILZ. -/
import Derived.Test.YtgfnelhbdhbklaaGreatJT1
import Derived.Test.YtgfnelhbdhbklaaGreatJT7
import Derived.Test.YtgfnelhbdhbklaaGreatJT12
import Derived.Test.YtgfnelhbdhbklaaGreatJT14
import Derived.Test.YtgfnelhbdhbklaaGreatJT20
import Derived.OrdersHeld
import Derived.Deep.RegionHeld
import Derived.Deep.MidRow
import Derived.ArgAppend
import Derived.Maps.AppendAt
import Derived.Deep.AppendLies
namespace Go.Proofs.YtgfnelhbdhbklaaGreat
set_option linter.unusedVariables false
namespace Wd
section
variable {P:Program} {ops:Array Oper} {Q:Exit→Act→World→Prop} {md:Region.Mode} {S:World→Prop} {d:Nat}
def wpAnyD (P:Program) (md:Region.Mode) (ops:Array Oper) (Q:Exit→Act→World→Prop) (S:World→Prop) (d:Nat):Nat→Array Bool→Act→World→Prop
 | 0,listed,a,w=>Region.ready md ops listed=[]∧Q .normal a w
 | fuel+1,listed,a,w =>
  (Region.ready md ops listed=[]→Q .normal a w) ∧
  ∀ i∈Region.ready md ops listed,wpOp P ops Q i (fun a' w'=>((listed.setIfInBounds i true).getD d true=false→S w')∧wpAnyD P md ops Q S d fuel (listed.setIfInBounds i true) a' w') a w
theorem wpAny_of_D:∀ (fuel:Nat) (listed:Array Bool) (a:Act) (w:World),wpAnyD P md ops Q S d fuel listed a w→wpAny P md ops Q fuel listed a w
 | 0,_,_,_,h=>h
 | fuel+1,_,_,_,h=>⟨h.1,fun i hi=>wpOp_mono (fun a' w' h'=>wpAny_of_D fuel _ a' w' h'.2) (h.2 i hi)⟩
theorem wpAnyD_first {i:Nat} {oi od:Oper} {v:Value} (hi:ops[i]?=some oi) (hd:ops[d]?=some od) (hw:∃ e∈od.after,Region.binds md e=true∧e.on=i) (hid:i≠d) (hsel:∀ (j:Nat) (o:Oper) cs b,ops[j]?=some o→o.op≠.select cs b)
  (hQ:∀ c a w,Q (.panic c) (a.put oi.dst v) w→Q (.panic c) a w) :
  ∀ (fuel:Nat) (listed:Array Bool) (a:Act) (w:World),
   (∀ j oj,ops[j]?=some oj→j≠i→listed.getD j true=false→(∀ e∈oj.after,Region.binds md e=true→e.on≠i)→oi.apart ops oj=true) →
   listed.getD d true=false→i∈Region.ready md ops listed→YieldsIf P ops S oi v a→S w →
   wpAnyD P md ops Q S d fuel (listed.setIfInBounds i true) (a.put oi.dst v) w→wpAnyD P md ops Q S d (fuel+1) listed a w:=by
 intro fuel
 induction fuel with
 | zero =>
  intro listed a w _ _ hr hy hS H;refine⟨fun h=>(by rw[h] at hr;cases hr),fun j hj=>?_⟩;by_cases hji:j=i
  ·subst hji;exact hy.wpOp hi hS ⟨fun _=>hS,H⟩
  ·have:=ready_mono hj hji;rw[H.1] at this;cases this
 | succ fuel ih =>
  intro listed a w hfree hdl hr hy hS H;refine⟨fun h=>(by rw[h] at hr;cases hr),fun j hj=>?_⟩;by_cases hji:j=i
  ·subst hji;exact hy.wpOp hi hS ⟨fun _=>hS,H⟩
  ·have h1:=H.2 j (ready_mono hj hji);obtain⟨hjun,oj,hoj,hall⟩:=mem_ready.1 hj;have hnot:∀ e∈oj.after,Region.binds md e=true→e.on≠i:=fun e he hb heq=>by
    have h1:=hall e he hb;have h0:=(mem_ready.1 hr).1;rw[heq] at h1;rcases Nat.lt_or_ge i listed.size with h' | h'
    ·simp[h'] at h0 h1;rw[h0] at h1;cases h1
    ·simp[Array.getElem?_eq_none h'] at h1
   have hjd:j≠d:=fun e=>by
    subst e;obtain⟨e,he,hb,hon⟩:=hw;rw[hoj] at hd;cases hd;exact hnot e he hb hon
   have h2:=wpOp_putIf hoj (hfree j oj hoj hji hjun hnot) (fun cs b=>hsel i oi cs b hi) (fun cs b=>hsel j oj cs b hoj) hQ hy h1;have hfree':∀ k ok,ops[k]?=some ok→k≠i→(listed.setIfInBounds j true).getD k true=false →
     (∀ e∈ok.after,Region.binds md e=true→e.on≠i)→oi.apart ops ok=true:=fun k ok hk hki hun hno=>by
    refine hfree k ok hk hki ?_ hno;by_cases hjk:j=k
    ·subst hjk;exact hjun
    ·rw[getD_set_ne true hjk] at hun;exact hun
   have hdj:(listed.setIfInBounds j true).getD d true=false:=by rw[getD_set_ne true hjd];exact hdl
   have hdij:((listed.setIfInBounds i true).setIfInBounds j true).getD d true=false:=by rw[getD_set_ne true hjd,getD_set_ne true hid];exact hdl
   refine wpOp_mono (fun a' w' h3=>⟨fun _=>h3.2.1 hdij,ih (listed.setIfInBounds j true) a' w' hfree' hdj (ready_mono hr (Ne.symm hji)) h3.1 (h3.2.1 hdij) ?_⟩) h2;rw[Array.setIfInBounds_comm _ _ hji];exact h3.2.2
theorem wpAnyD_pure1 {i:Nat} {oi:Oper} {v:Value} (hi:ops[i]?=some oi) (hid:i≠d) (hsel:∀ (j:Nat) (o:Oper) cs b,ops[j]?=some o→o.op≠.select cs b)
  (hQ:∀ c a w,Q (.panic c) (a.put oi.dst v) w→Q (.panic c) a w) :
  ∀ (fuel:Nat) (listed:Array Bool) (a:Act) (w:World),
   (∀ j oj,ops[j]?=some oj→j≠i→listed.getD j true=false→(∀ e∈oj.after,Region.binds md e=true→e.on≠i)→oi.apart ops oj=true) →
   i∈Region.ready md ops listed→YieldsIf P ops (fun _=>True) oi v a→(listed.getD d true=false→S w) →
   wpAnyD P md ops Q S d fuel (listed.setIfInBounds i true) (a.put oi.dst v) w→wpAnyD P md ops Q S d (fuel+1) listed a w:=by
 intro fuel
 induction fuel with
 | zero =>
  intro listed a w _ hr hy hS H;refine⟨fun h=>(by rw[h] at hr;cases hr),fun j hj=>?_⟩;by_cases hji:j=i
  ·subst hji;exact hy.wpOp hi trivial ⟨fun e=>hS (by rwa [getD_set_ne true hid] at e),H⟩
  ·have:=ready_mono hj hji;rw[H.1] at this;cases this
 | succ fuel ih =>
  intro listed a w hfree hr hy hS H;refine⟨fun h=>(by rw[h] at hr;cases hr),fun j hj=>?_⟩;by_cases hji:j=i
  ·subst hji;exact hy.wpOp hi trivial ⟨fun e=>hS (by rwa [getD_set_ne true hid] at e),H⟩
  ·have h1:=H.2 j (ready_mono hj hji);obtain⟨hjun,oj,hoj,hall⟩:=mem_ready.1 hj;have hnot:∀ e∈oj.after,Region.binds md e=true→e.on≠i:=fun e he hb heq=>by
    have h1:=hall e he hb;have h0:=(mem_ready.1 hr).1;rw[heq] at h1;rcases Nat.lt_or_ge i listed.size with h' | h'
    ·simp[h'] at h0 h1;rw[h0] at h1;cases h1
    ·simp[Array.getElem?_eq_none h'] at h1
   have h2:=wpOp_putIf hoj (hfree j oj hoj hji hjun hnot) (fun cs b=>hsel i oi cs b hi) (fun cs b=>hsel j oj cs b hoj) hQ hy h1;have hfree':∀ k ok,ops[k]?=some ok→k≠i→(listed.setIfInBounds j true).getD k true=false →
     (∀ e∈ok.after,Region.binds md e=true→e.on≠i)→oi.apart ops ok=true:=fun k ok hk hki hun hno=>by
    refine hfree k ok hk hki ?_ hno;by_cases hjk:j=k
    ·subst hjk;exact hjun
    ·rw[getD_set_ne true hjk] at hun;exact hun
   have hc:((listed.setIfInBounds i true).setIfInBounds j true).getD d true=(listed.setIfInBounds j true).getD d true:=by
    rw[Array.setIfInBounds_comm _ _ (fun e=>hji e.symm),getD_set_ne true hid]
   refine wpOp_mono (fun a' w' h3=>⟨fun e=>h3.2.1 (hc.trans e),ih (listed.setIfInBounds j true) a' w' hfree' (ready_mono hr (Ne.symm hji)) h3.1 (fun e=>h3.2.1 (hc.trans e)) ?_⟩) h2;rw[Array.setIfInBounds_comm _ _ hji];exact h3.2.2
theorem wpAnyD_pure {i:Nat} {oi:Oper} {v:Value} {fuel:Nat} {listed:Array Bool} {a:Act} {w:World} (hi:ops[i]?=some oi)
  (hs:Region.noSelect ops=true) (hf:Region.free md ops listed i=true) (hr:(Region.ready md ops listed).contains i=true) (hid:i≠d)
  (hQ:∀ c a w,Q (.panic c) (a.put oi.dst v) w→Q (.panic c) a w) (hy:YieldsIf P ops (fun _=>True) oi v a) (hS:listed.getD d true=false→S w)
  (h:wpAnyD P md ops Q S d fuel (listed.setIfInBounds i true) (a.put oi.dst v) w):wpAnyD P md ops Q S d (fuel+1) listed a w :=
 wpAnyD_pure1 hi hid (Region.noSelect_spec hs) hQ fuel listed a w (Region.free_spec hi hf) (by simpa using hr) hy hS h
def waits (md:Region.Mode) (ops:Array Oper) (d i:Nat):Bool:=((ops[d]?).map (fun o=>o.after.any fun e=>Region.binds md e && (e.on == i))).getD false && !(i == d)
theorem waits_spec {i:Nat} (h:waits md ops d i=true):∃ od,ops[d]?=some od∧(∃ e∈od.after,Region.binds md e=true∧e.on=i)∧i≠d:=by
 unfold waits at h;cases ho:ops[d]? with
 | none=>simp[ho] at h
 | some o =>
  simp only[ho,Option.map_some,Option.getD_some,Bool.and_eq_true,Array.any_eq_true',beq_iff_eq,Bool.not_eq_true',beq_eq_false_iff_ne] at h;obtain⟨⟨e,he,hb⟩,hne⟩:=h;exact⟨o,rfl,⟨e,he,hb.1,hb.2⟩,hne⟩
theorem wpAnyD_take {i:Nat} {oi:Oper} {v:Value} {fuel:Nat} {listed:Array Bool} {a:Act} {w:World} (hi:ops[i]?=some oi)
  (hs:Region.noSelect ops=true) (hf:Region.free md ops listed i=true) (hr:(Region.ready md ops listed).contains i=true) (hwt:waits md ops d i=true) (hdl:listed.getD d true=false)
  (hQ:∀ c a w,Q (.panic c) (a.put oi.dst v) w→Q (.panic c) a w) (hy:YieldsIf P ops S oi v a) (hS:S w)
  (h:wpAnyD P md ops Q S d fuel (listed.setIfInBounds i true) (a.put oi.dst v) w):wpAnyD P md ops Q S d (fuel+1) listed a w:=by
 obtain⟨od,hd,hw,hid⟩:=waits_spec hwt;exact wpAnyD_first hi hd hw hid (Region.noSelect_spec hs) hQ fuel listed a w (Region.free_spec hi hf) hdl (by simpa using hr) hy hS h
theorem wpAnyD_done {listed:Array Bool} {a:Act} {w:World} (hr:Region.ready md ops listed=[]) (h:Q .normal a w) :
  ∀ fuel,wpAnyD P md ops Q S d fuel listed a w
 | 0=>⟨hr,h⟩
 | _+1=>⟨fun _=>h,by rw[hr];simp⟩
def AllReadyD (P:Program) (md:Region.Mode) (ops:Array Oper) (Q:Exit→Act→World→Prop) (S:World→Prop) (d fuel:Nat) (listed:Array Bool) (a:Act) (w:World) (rs:List Nat):Prop :=
 ∀ i∈rs,wpOp P ops Q i (fun a' w'=>((listed.setIfInBounds i true).getD d true=false→S w')∧wpAnyD P md ops Q S d fuel (listed.setIfInBounds i true) a' w') a w
theorem AllReadyD.nil {fuel:Nat} {listed:Array Bool} {a:Act} {w:World}:AllReadyD P md ops Q S d fuel listed a w []:=fun _ h=>by cases h
theorem AllReadyD.cons {fuel:Nat} {listed:Array Bool} {a:Act} {w:World} {i:Nat} {o:Oper} {rs:List Nat} (ho:ops[i]?=some o)
  (h:∀ K':Act→World→Prop,Shut (∀ a w,((listed.setIfInBounds i true).getD d true=false→S w)→wpAnyD P md ops Q S d fuel (listed.setIfInBounds i true) a w→K' a w)→if Region.wanted o (yielded ops a.tmps)=true then Oper.wp P o a w K' Q else K' (a.put o.dst undef) w)
  (hs:AllReadyD P md ops Q S d fuel listed a w rs):AllReadyD P md ops Q S d fuel listed a w (i :: rs):=fun j hj=>by
 rcases List.mem_cons.1 hj with rfl | hj
 ·exact wpOp_step ho (fun K' hK=>h K' (fun a w hS hW=>hK a w ⟨hS,hW⟩))
 ·exact hs j hj
theorem wpAnyD_ready {rs:List Nat} {fuel:Nat} {listed:Array Bool} {a:Act} {w:World} (hr:Region.ready md ops listed=rs) (hne:rs≠[])
  (h:AllReadyD P md ops Q S d fuel listed a w rs):wpAnyD P md ops Q S d (fuel+1) listed a w:=⟨fun h0=>absurd (hr ▸ h0) hne,hr ▸ h⟩
theorem wp_region_D {id:Nat} {a:Act} {w:World} (hm:P.follows .mixedOrders=true) (hS:S w.drew)
  (h:S w.drew→wpAnyD P .any ops Q S d ops.size (Array.replicate ops.size false) a w.drew):(Code.region id ops true).wp P Q a w :=
 wp_region_any hm (wpAny_of_D _ _ _ _ (h hS))
theorem shut_last {b:Bool} {X K':Act→World→Prop} (hK:Shut (∀ a w,(b=false→S w)→X a w→K' a w)) (hb:b=true) {a:Act} {w:World} (h:X a w):K' a w:=hK.out a w (fun c=>absurd (hb.symm.trans c) (by decide)) h
end
end Wd
end Go.Proofs.YtgfnelhbdhbklaaGreat
namespace Go.Proofs.YtgfnelhbdhbklaaGreat
open Go.RowKit
set_option linter.unusedVariables false
set_option maxRecDepth 20000
namespace Wd
theorem take_get {α:Type} {L:List α} {n k:Nat} {x:α} (h:(L.take n)[k]?=some x):L[k]?=some x:=by
 rw[List.getElem?_take] at h
 split at h
 ·exact h
 ·cases h
section
variable {w:World} {ad:Option Addr} {m cap:Nat}
theorem NmV.cut {L:List ByteArray} (h:NmV w (.slice ad m cap) L) (n:Nat):NmV w (.slice ad (L.take n).length cap) (L.take n):=by
 obtain⟨ad',cap',e,h1,h2,h3⟩:=h.ex;cases e;exact⟨ad,cap,rfl,by rw[List.length_take];omega,h2,fun k x hx=>h3 k x (take_get hx)⟩
theorem ClV.cut {L:List ClassA} (h:ClV w (.slice ad m cap) L) (n:Nat):ClV w (.slice ad (L.take n).length cap) (L.take n):=by
 obtain⟨ad',cap',e,h1,h2,h3⟩:=h.ex;cases e;exact⟨ad,cap,rfl,by rw[List.length_take];omega,h2,fun k x hx=>h3 k x (take_get hx)⟩
theorem MtV.cut {L:List MethA} (h:MtV w (.slice ad m cap) L) (n:Nat):MtV w (.slice ad (L.take n).length cap) (L.take n):=by
 obtain⟨ad',cap',e,h1,h2,h3⟩:=h.ex;cases e;exact⟨ad,cap,rfl,by rw[List.length_take];omega,h2,fun k x hx=>h3 k x (take_get hx)⟩
theorem ObV.cut {L:List ObjA} (h:ObV w (.slice ad m cap) L) (n:Nat):ObV w (.slice ad (L.take n).length cap) (L.take n):=by
 obtain⟨ad',cap',e,h1,h2,h3⟩:=h.ex;cases e;exact⟨ad,cap,rfl,by rw[List.length_take];omega,h2,fun k x hx=>h3 k x (take_get hx)⟩
end
def fewU (U:UnitA):UnitA:=⟨U.names.take 8,U.classes.take 5,U.methods.take 4,U.objects.take 6,U.main⟩
theorem min_len {l k b:Nat} (h:k=min b l):(if (b:Int) < (l:Int) then (b:Int) else (l:Int))=(k:Int):=by
 subst h
 split <;> omega
theorem fob_born {w:World} {x0 x1 x2 x3:Value} {m:Int}:OB w ((w.alloc (.cells #[x0,x1,x2,x3,.int .i64 m] 27)).alloc (.cells #[.slice none 0 0,.slice none 0 0,.slice none 0 0,.slice none 0 0,.int .i64 0] 27)) x0 x1 x2 x3 m:=by
 have i1:(w.alloc (.cells #[x0,x1,x2,x3,.int .i64 m] 27)).heap.size=w.heap.size+1:=by simp
 have hr:=heap_alloc_new (w.alloc (.cells #[x0,x1,x2,x3,.int .i64 m] 27)) (.cells #[.slice none 0 0,.slice none 0 0,.slice none 0 0,.slice none 0 0,.int .i64 0] 27);rw[i1] at hr;exact⟨(World.cell?_alloc_old _ _ _ (by simp)).trans (by simp),(World.cell?_alloc_old _ _ _ (by simp)).trans (by simp),(World.cell?_alloc_old _ _ _ (by simp)).trans (by simp),(World.cell?_alloc_old _ _ _ (by simp)).trans (by simp),(World.cell?_alloc_old _ _ _ (by simp)).trans (by simp),fun j=>(World.frozen?_of_block (a:=⟨w.heap.size,j,none⟩) (Below.heap_alloc _ _ _ (by simp))).trans (World.frozen?_alloc_new _ _ _ _),hr,((Below.refl _ _).alloc (Nat.le_refl _) _).alloc (by rw[i1];omega) _⟩
set_option maxHeartbeats 16000000 in
theorem few_c {w:World} {u:Value} {U:UnitA} (hu:UnK w u U) :
  Calls Tryz.prog 16 #[u] w fun e w'=>∃ v,e=.returned v∧UnK w' v (fewU U)∧Below w.heap.size w w':=by
 obtain⟨na,nc,ka,kc,ma,mc,oa,oc,rfl,hU⟩:=hu.ex;clear hu;have hV:UnV w (.slice na (U.names.take 8).length nc) (.slice ka (U.classes.take 5).length kc) (.slice ma (U.methods.take 4).length mc) (.slice oa (U.objects.take 6).length oc) (fewU U):=⟨hU.n.cut 8,hU.c.cut 5,hU.m.cut 4,hU.o.cut 6⟩
 have m1:=min_len (l:=U.names.length) (k:=(U.names.take 8).length) (b:=8) (by rw[List.length_take]);have m2:=min_len (l:=U.classes.length) (k:=(U.classes.take 5).length) (b:=5) (by rw[List.length_take]);have m3:=min_len (l:=U.methods.length) (k:=(U.methods.take 4).length) (b:=4) (by rw[List.length_take]);have m4:=min_len (l:=U.objects.length) (k:=(U.objects.take 6).length) (b:=6) (by rw[List.length_take]);have n1:(U.names.take 8).length≤U.names.length:=by rw[List.length_take];omega
 have n2:(U.classes.take 5).length≤U.classes.length:=by rw[List.length_take];omega
 have n3:(U.methods.take 4).length≤U.methods.length:=by rw[List.length_take];omega
 have n4:(U.objects.take 6).length≤U.objects.length:=by rw[List.length_take];omega
 have cp1:U.names.length≤nc:=by obtain⟨_,_,e,h,_⟩:=hU.n.ex;cases e;exact h
 have cp2:U.classes.length≤kc:=by obtain⟨_,_,e,h,_⟩:=hU.c.ex;cases e;exact h
 have cp3:U.methods.length≤mc:=by obtain⟨_,_,e,h,_⟩:=hU.m.ex;cases e;exact h
 have cp4:U.objects.length≤oc:=by obtain⟨_,_,e,h,_⟩:=hU.o.ex;cases e;exact h
 have mx:nc≤maxLen∧kc≤maxLen∧mc≤maxLen∧oc≤maxLen:=by
  obtain⟨_,_,e,_,h,_⟩:=hU.n.ex;cases e;obtain⟨_,_,e,_,h',_⟩:=hU.c.ex;cases e;obtain⟨_,_,e,_,h4,_⟩:=hU.m.ex;cases e;obtain⟨_,_,e,_,h5,_⟩:=hU.o.ex;cases e;exact⟨h,h',h4,h5⟩
 have hmv:(fewU U).main=U.main:=rfl;replace hV:=HD hV.unk;rw[hmv] at hV;clear hU hmv;generalize fewU U=V at *;generalize (U.names.take 8).length=k1 at *;generalize (U.classes.take 5).length=k2 at *;generalize (U.methods.take 4).length=k3 at *;generalize (U.objects.take 6).length=k4 at *;generalize U.names.length=l1 at *;generalize U.classes.length=l2 at *;generalize U.methods.length=l3 at *;generalize U.objects.length=l4 at *;generalize U.main=mn at *;have hB:Hid (OB w _ _ _ _ _ _):=HD (fob_born (w:=w) (x0:=.slice na l1 nc) (x1:=.slice ka l2 kc) (x2:=.slice ma l3 mc) (x3:=.slice oa l4 oc) (m:=mn));go_enter Tryz.func16,Tryz.ntmps16
 go_upto_region 1 with fail
 generalize (w.alloc (.cells #[.slice na l1 nc,.slice ka l2 kc,.slice ma l3 mc,.slice oa l4 oc,.int .i64 mn] 27)).alloc (.cells #[.slice none 0 0,.slice none 0 0,.slice none 0 0,.slice none 0 0,.int .i64 0] 27)=W at *;have hD:=HD (hB.out.up ((Below.refl _ _).drew));refine wp_region_D (d:=29) (S:=(fun wr'=>OB w wr' (.slice na l1 nc) (.slice ka l2 kc) (.slice ma l3 mc) (.slice oa l4 oc) mn)) (by kernel_rfl) ?_ (fun hHeld=>?_)
 ·(try dsimp only);exact hD.out
 try simp only[nA]
 refine wpAnyD_take (i:=0) (oi:=⟨some 3,.fieldAddr 27 (.tmp 1) 0,0,"law.go:61",#[],none⟩) (v:=?_) rfl (by kernel_rfl) (by kernel_rfl) (by kernel_rfl) (by kernel_rfl) (by kernel_rfl) (fun _ _ _ h=>h) (Or.inl ⟨by rfl,?_⟩) (by assumption) ?_
 rotate_left 1
 ·intro w hSw;(try dsimp only at hSw);go_simp <;> with_reducible rfl
 try simp only[nA]
 refine wpAnyD_take (i:=1) (oi:=⟨some 4,.load 22 (.tmp 3),22,"law.go:61",#[⟨0,.data⟩],none⟩) (v:=?_) rfl (by kernel_rfl) (by kernel_rfl) (by kernel_rfl) (by kernel_rfl) (by kernel_rfl) (fun _ _ _ h=>h) (Or.inl ⟨by rfl,?_⟩) (by assumption) ?_
 rotate_left 1
 ·intro w hSw;(try dsimp only at hSw);have hc:=hSw.c0;go_simp <;> with_reducible rfl
 try simp only[nA]
 refine wpAnyD_take (i:=2) (oi:=⟨some 5,.fieldAddr 27 (.tmp 1) 0,0,"law.go:61",#[],none⟩) (v:=?_) rfl (by kernel_rfl) (by kernel_rfl) (by kernel_rfl) (by kernel_rfl) (by kernel_rfl) (fun _ _ _ h=>h) (Or.inl ⟨by rfl,?_⟩) (by assumption) ?_
 rotate_left 1
 ·intro w hSw;(try dsimp only at hSw);go_simp <;> with_reducible rfl
 try simp only[nA]
 refine wpAnyD_take (i:=3) (oi:=⟨some 6,.load 22 (.tmp 5),22,"law.go:61",#[⟨2,.data⟩],none⟩) (v:=?_) rfl (by kernel_rfl) (by kernel_rfl) (by kernel_rfl) (by kernel_rfl) (by kernel_rfl) (fun _ _ _ h=>h) (Or.inl ⟨by rfl,?_⟩) (by assumption) ?_
 rotate_left 1
 ·intro w hSw;(try dsimp only at hSw);have hc:=hSw.c0;go_simp <;> with_reducible rfl
 try simp only[nA]
 refine wpAnyD_take (i:=4) (oi:=⟨some 7,.call { callee:=.builtin .len,args:=#[.tmp 6],argTypes:=#[22] },3,"law.go:61",#[⟨3,.data⟩],none⟩) (v:=?_) rfl (by kernel_rfl) (by kernel_rfl) (by kernel_rfl) (by kernel_rfl) (by kernel_rfl) (fun _ _ _ h=>h) (Or.inl ⟨by rfl,?_⟩) (by assumption) ?_
 rotate_left 1
 ·intro w hSw;(try dsimp only at hSw);go_simp <;> with_reducible rfl
 try simp only[nA]
 refine wpAnyD_take (i:=5) (oi:=⟨some 8,.call { callee:=.builtin .min,args:=#[.tmp 7,.const (.int .i64 8)],argTypes:=#[3,3] },3,"law.go:61",#[⟨4,.data⟩],none⟩) (v:=.int .i64 (k1:Int)) rfl (by kernel_rfl) (by kernel_rfl) (by kernel_rfl) (by kernel_rfl) (by kernel_rfl) (fun _ _ _ h=>h) (Or.inl ⟨by rfl,?_⟩) (by assumption) ?_
 ·intro w hSw;(try dsimp only at hSw);go_simp;simpa using m1
 try simp only[nA]
 refine wpAnyD_take (i:=6) (oi:=⟨some 9,.slice 22 (.tmp 4) none (some (.tmp 8)) none,22,"law.go:61",#[⟨1,.data⟩,⟨5,.data⟩],none⟩) (v:=.slice na k1 nc) rfl (by kernel_rfl) (by kernel_rfl) (by kernel_rfl) (by kernel_rfl) (by kernel_rfl) (fun _ _ _ h=>h) (Or.inl ⟨by rfl,?_⟩) (by assumption) ?_
 ·intro w hSw;(try dsimp only at hSw);go_simp;intro hh;omega
 try simp only[nA]
 refine wpAnyD_take (i:=7) (oi:=⟨some 10,.fieldAddr 27 (.tmp 1) 1,0,"law.go:61",#[],none⟩) (v:=?_) rfl (by kernel_rfl) (by kernel_rfl) (by kernel_rfl) (by kernel_rfl) (by kernel_rfl) (fun _ _ _ h=>h) (Or.inl ⟨by rfl,?_⟩) (by assumption) ?_
 rotate_left 1
 ·intro w hSw;(try dsimp only at hSw);go_simp <;> with_reducible rfl
 try simp only[nA]
 refine wpAnyD_take (i:=8) (oi:=⟨some 11,.load 23 (.tmp 10),23,"law.go:61",#[⟨7,.data⟩],none⟩) (v:=?_) rfl (by kernel_rfl) (by kernel_rfl) (by kernel_rfl) (by kernel_rfl) (by kernel_rfl) (fun _ _ _ h=>h) (Or.inl ⟨by rfl,?_⟩) (by assumption) ?_
 rotate_left 1
 ·intro w hSw;(try dsimp only at hSw);have hc:=hSw.c1;go_simp <;> with_reducible rfl
 try simp only[nA]
 refine wpAnyD_take (i:=9) (oi:=⟨some 12,.fieldAddr 27 (.tmp 1) 1,0,"law.go:61",#[],none⟩) (v:=?_) rfl (by kernel_rfl) (by kernel_rfl) (by kernel_rfl) (by kernel_rfl) (by kernel_rfl) (fun _ _ _ h=>h) (Or.inl ⟨by rfl,?_⟩) (by assumption) ?_
 rotate_left 1
 ·intro w hSw;(try dsimp only at hSw);go_simp <;> with_reducible rfl
 try simp only[nA]
 refine wpAnyD_take (i:=10) (oi:=⟨some 13,.load 23 (.tmp 12),23,"law.go:61",#[⟨9,.data⟩],none⟩) (v:=?_) rfl (by kernel_rfl) (by kernel_rfl) (by kernel_rfl) (by kernel_rfl) (by kernel_rfl) (fun _ _ _ h=>h) (Or.inl ⟨by rfl,?_⟩) (by assumption) ?_
 rotate_left 1
 ·intro w hSw;(try dsimp only at hSw);have hc:=hSw.c1;go_simp <;> with_reducible rfl
 try simp only[nA]
 refine wpAnyD_pure (i:=11) (oi:=⟨some 14,.call { callee:=.builtin .len,args:=#[.tmp 13],argTypes:=#[23] },3,"law.go:61",#[⟨10,.data⟩],none⟩) (v:=?_) rfl (by kernel_rfl) (by kernel_rfl) (by kernel_rfl) (by decide) (fun _ _ _ h=>h) (Or.inl ⟨by rfl,?_⟩) (fun _=>by assumption) ?_
 rotate_left 1
 ·intro w hSw;(try dsimp only at hSw);go_simp <;> with_reducible rfl
 try simp only[nA]
 refine wpAnyD_pure (i:=12) (oi:=⟨some 15,.call { callee:=.builtin .min,args:=#[.tmp 14,.const (.int .i64 5)],argTypes:=#[3,3] },3,"law.go:61",#[⟨11,.data⟩],none⟩) (v:=.int .i64 (k2:Int)) rfl (by kernel_rfl) (by kernel_rfl) (by kernel_rfl) (by decide) (fun _ _ _ h=>h) (Or.inl ⟨by rfl,?_⟩) (fun _=>by assumption) ?_
 ·intro w hSw;(try dsimp only at hSw);go_simp;simpa using m2
 try simp only[nA]
 refine wpAnyD_pure (i:=13) (oi:=⟨some 16,.slice 23 (.tmp 11) none (some (.tmp 15)) none,23,"law.go:61",#[⟨8,.data⟩,⟨12,.data⟩],none⟩) (v:=.slice ka k2 kc) rfl (by kernel_rfl) (by kernel_rfl) (by kernel_rfl) (by decide) (fun _ _ _ h=>h) (Or.inl ⟨by rfl,?_⟩) (fun _=>by assumption) ?_
 ·intro w hSw;(try dsimp only at hSw);go_simp;intro hh;omega
 try simp only[nA]
 refine wpAnyD_take (i:=14) (oi:=⟨some 17,.fieldAddr 27 (.tmp 1) 2,0,"law.go:61",#[],none⟩) (v:=?_) rfl (by kernel_rfl) (by kernel_rfl) (by kernel_rfl) (by kernel_rfl) (by kernel_rfl) (fun _ _ _ h=>h) (Or.inl ⟨by rfl,?_⟩) (by assumption) ?_
 rotate_left 1
 ·intro w hSw;(try dsimp only at hSw);go_simp <;> with_reducible rfl
 try simp only[nA]
 refine wpAnyD_take (i:=15) (oi:=⟨some 18,.load 24 (.tmp 17),24,"law.go:61",#[⟨14,.data⟩],none⟩) (v:=?_) rfl (by kernel_rfl) (by kernel_rfl) (by kernel_rfl) (by kernel_rfl) (by kernel_rfl) (fun _ _ _ h=>h) (Or.inl ⟨by rfl,?_⟩) (by assumption) ?_
 rotate_left 1
 ·intro w hSw;(try dsimp only at hSw);have hc:=hSw.c2;go_simp <;> with_reducible rfl
 try simp only[nA]
 refine wpAnyD_take (i:=16) (oi:=⟨some 19,.fieldAddr 27 (.tmp 1) 2,0,"law.go:61",#[],none⟩) (v:=?_) rfl (by kernel_rfl) (by kernel_rfl) (by kernel_rfl) (by kernel_rfl) (by kernel_rfl) (fun _ _ _ h=>h) (Or.inl ⟨by rfl,?_⟩) (by assumption) ?_
 rotate_left 1
 ·intro w hSw;(try dsimp only at hSw);go_simp <;> with_reducible rfl
 try simp only[nA]
 refine wpAnyD_take (i:=17) (oi:=⟨some 20,.load 24 (.tmp 19),24,"law.go:61",#[⟨16,.data⟩],none⟩) (v:=?_) rfl (by kernel_rfl) (by kernel_rfl) (by kernel_rfl) (by kernel_rfl) (by kernel_rfl) (fun _ _ _ h=>h) (Or.inl ⟨by rfl,?_⟩) (by assumption) ?_
 rotate_left 1
 ·intro w hSw;(try dsimp only at hSw);have hc:=hSw.c2;go_simp <;> with_reducible rfl
 try simp only[nA]
 refine wpAnyD_pure (i:=18) (oi:=⟨some 21,.call { callee:=.builtin .len,args:=#[.tmp 20],argTypes:=#[24] },3,"law.go:61",#[⟨17,.data⟩],none⟩) (v:=?_) rfl (by kernel_rfl) (by kernel_rfl) (by kernel_rfl) (by decide) (fun _ _ _ h=>h) (Or.inl ⟨by rfl,?_⟩) (fun _=>by assumption) ?_
 rotate_left 1
 ·intro w hSw;(try dsimp only at hSw);go_simp <;> with_reducible rfl
 try simp only[nA]
 refine wpAnyD_pure (i:=19) (oi:=⟨some 22,.call { callee:=.builtin .min,args:=#[.tmp 21,.const (.int .i64 4)],argTypes:=#[3,3] },3,"law.go:61",#[⟨18,.data⟩],none⟩) (v:=.int .i64 (k3:Int)) rfl (by kernel_rfl) (by kernel_rfl) (by kernel_rfl) (by decide) (fun _ _ _ h=>h) (Or.inl ⟨by rfl,?_⟩) (fun _=>by assumption) ?_
 ·intro w hSw;(try dsimp only at hSw);go_simp;simpa using m3
 try simp only[nA]
 refine wpAnyD_pure (i:=20) (oi:=⟨some 23,.slice 24 (.tmp 18) none (some (.tmp 22)) none,24,"law.go:61",#[⟨15,.data⟩,⟨19,.data⟩],none⟩) (v:=.slice ma k3 mc) rfl (by kernel_rfl) (by kernel_rfl) (by kernel_rfl) (by decide) (fun _ _ _ h=>h) (Or.inl ⟨by rfl,?_⟩) (fun _=>by assumption) ?_
 ·intro w hSw;(try dsimp only at hSw);go_simp;intro hh;omega
 try simp only[nA]
 refine wpAnyD_take (i:=21) (oi:=⟨some 24,.fieldAddr 27 (.tmp 1) 3,0,"law.go:61",#[],none⟩) (v:=?_) rfl (by kernel_rfl) (by kernel_rfl) (by kernel_rfl) (by kernel_rfl) (by kernel_rfl) (fun _ _ _ h=>h) (Or.inl ⟨by rfl,?_⟩) (by assumption) ?_
 rotate_left 1
 ·intro w hSw;(try dsimp only at hSw);go_simp <;> with_reducible rfl
 try simp only[nA]
 refine wpAnyD_take (i:=22) (oi:=⟨some 25,.load 25 (.tmp 24),25,"law.go:61",#[⟨21,.data⟩],none⟩) (v:=?_) rfl (by kernel_rfl) (by kernel_rfl) (by kernel_rfl) (by kernel_rfl) (by kernel_rfl) (fun _ _ _ h=>h) (Or.inl ⟨by rfl,?_⟩) (by assumption) ?_
 rotate_left 1
 ·intro w hSw;(try dsimp only at hSw);have hc:=hSw.c3;go_simp <;> with_reducible rfl
 try simp only[nA]
 refine wpAnyD_take (i:=23) (oi:=⟨some 26,.fieldAddr 27 (.tmp 1) 3,0,"law.go:61",#[],none⟩) (v:=?_) rfl (by kernel_rfl) (by kernel_rfl) (by kernel_rfl) (by kernel_rfl) (by kernel_rfl) (fun _ _ _ h=>h) (Or.inl ⟨by rfl,?_⟩) (by assumption) ?_
 rotate_left 1
 ·intro w hSw;(try dsimp only at hSw);go_simp <;> with_reducible rfl
 try simp only[nA]
 refine wpAnyD_take (i:=24) (oi:=⟨some 27,.load 25 (.tmp 26),25,"law.go:61",#[⟨23,.data⟩],none⟩) (v:=?_) rfl (by kernel_rfl) (by kernel_rfl) (by kernel_rfl) (by kernel_rfl) (by kernel_rfl) (fun _ _ _ h=>h) (Or.inl ⟨by rfl,?_⟩) (by assumption) ?_
 rotate_left 1
 ·intro w hSw;(try dsimp only at hSw);have hc:=hSw.c3;go_simp <;> with_reducible rfl
 try simp only[nA]
 refine wpAnyD_pure (i:=25) (oi:=⟨some 28,.call { callee:=.builtin .len,args:=#[.tmp 27],argTypes:=#[25] },3,"law.go:61",#[⟨24,.data⟩],none⟩) (v:=?_) rfl (by kernel_rfl) (by kernel_rfl) (by kernel_rfl) (by decide) (fun _ _ _ h=>h) (Or.inl ⟨by rfl,?_⟩) (fun _=>by assumption) ?_
 rotate_left 1
 ·intro w hSw;(try dsimp only at hSw);go_simp <;> with_reducible rfl
 try simp only[nA]
 refine wpAnyD_pure (i:=26) (oi:=⟨some 29,.call { callee:=.builtin .min,args:=#[.tmp 28,.const (.int .i64 6)],argTypes:=#[3,3] },3,"law.go:61",#[⟨25,.data⟩],none⟩) (v:=.int .i64 (k4:Int)) rfl (by kernel_rfl) (by kernel_rfl) (by kernel_rfl) (by decide) (fun _ _ _ h=>h) (Or.inl ⟨by rfl,?_⟩) (fun _=>by assumption) ?_
 ·intro w hSw;(try dsimp only at hSw);go_simp;simpa using m4
 try simp only[nA]
 refine wpAnyD_pure (i:=27) (oi:=⟨some 30,.slice 25 (.tmp 25) none (some (.tmp 29)) none,25,"law.go:61",#[⟨22,.data⟩,⟨26,.data⟩],none⟩) (v:=.slice oa k4 oc) rfl (by kernel_rfl) (by kernel_rfl) (by kernel_rfl) (by decide) (fun _ _ _ h=>h) (Or.inl ⟨by rfl,?_⟩) (fun _=>by assumption) ?_
 ·intro w hSw;(try dsimp only at hSw);go_simp;intro hh;omega
 try simp only[nA]
 refine wpAnyD_take (i:=28) (oi:=⟨some 31,.fieldAddr 27 (.tmp 1) 0,0,"law.go:61",#[⟨0,.phase⟩,⟨1,.phase⟩,⟨2,.phase⟩,⟨3,.phase⟩,⟨4,.phase⟩,⟨5,.phase⟩,⟨6,.phase⟩,⟨7,.phase⟩,⟨8,.phase⟩,⟨9,.phase⟩,⟨10,.phase⟩,{ on:=11,ground:=Ground.textOnly Departure.lateStoresUnsure },{ on:=12,ground:=Ground.textOnly Departure.lateStoresUnsure },{ on:=13,ground:=Ground.textOnly Departure.lateStoresUnsure },⟨14,.phase⟩,⟨15,.phase⟩,⟨16,.phase⟩,⟨17,.phase⟩,{ on:=18,ground:=Ground.textOnly Departure.lateStoresUnsure },{ on:=19,ground:=Ground.textOnly Departure.lateStoresUnsure },{ on:=20,ground:=Ground.textOnly Departure.lateStoresUnsure },⟨21,.phase⟩,⟨22,.phase⟩,⟨23,.phase⟩,⟨24,.phase⟩,{ on:=25,ground:=Ground.textOnly Departure.lateStoresUnsure },{ on:=26,ground:=Ground.textOnly Departure.lateStoresUnsure },{ on:=27,ground:=Ground.textOnly Departure.lateStoresUnsure }],none⟩) (v:=?_) rfl (by kernel_rfl) (by kernel_rfl) (by kernel_rfl) (by kernel_rfl) (by kernel_rfl) (fun _ _ _ h=>h) (Or.inl ⟨by rfl,?_⟩) (by assumption) ?_
 rotate_left 1
 ·intro w hSw;(try dsimp only at hSw);go_simp <;> with_reducible rfl
 try simp only[nA]
 have z0:=hD.out.z 0;have z1:=hD.out.z 1;have z2:=hD.out.z 2;have z3:=hD.out.z 3;have cc0:=hD.out.c0;refine wpAnyD_ready (rs:=[29]) (by kernel_rfl) (by simp) ?_;refine AllReadyD.cons (o:=⟨none,.store 22 (.tmp 31) (.tmp 9),0,"law.go:61",#[⟨28,.data⟩,⟨6,.data⟩,⟨0,.phase⟩,⟨1,.phase⟩,⟨2,.phase⟩,⟨3,.phase⟩,⟨4,.phase⟩,⟨5,.phase⟩,⟨6,.phase⟩,⟨7,.phase⟩,⟨8,.phase⟩,⟨9,.phase⟩,⟨10,.phase⟩,{ on:=11,ground:=Ground.textOnly Departure.lateStoresUnsure },{ on:=12,ground:=Ground.textOnly Departure.lateStoresUnsure },{ on:=13,ground:=Ground.textOnly Departure.lateStoresUnsure },⟨14,.phase⟩,⟨15,.phase⟩,⟨16,.phase⟩,⟨17,.phase⟩,{ on:=18,ground:=Ground.textOnly Departure.lateStoresUnsure },{ on:=19,ground:=Ground.textOnly Departure.lateStoresUnsure },{ on:=20,ground:=Ground.textOnly Departure.lateStoresUnsure },⟨21,.phase⟩,⟨22,.phase⟩,⟨23,.phase⟩,⟨24,.phase⟩,{ on:=25,ground:=Ground.textOnly Departure.lateStoresUnsure },{ on:=26,ground:=Ground.textOnly Departure.lateStoresUnsure },{ on:=27,ground:=Ground.textOnly Departure.lateStoresUnsure }],none⟩) rfl (fun K9 hK=>?_) AllReadyD.nil;go_simp;refine shut_last hK (by kernel_rfl) ?_;clear hK K9 hD cc0 z0 z1 z2 z3 hHeld;replace hB:=HD (hB.out.set0 (.slice na k1 nc));generalize W.setCell ⟨w.heap.size,0,none⟩ (.slice na k1 nc)=W1 at *;have hD:=HD (hB.out.up ((Below.refl _ _).drew));have z0:=hD.out.z 0;have z1:=hD.out.z 1;have z2:=hD.out.z 2;have z3:=hD.out.z 3
 try simp only[nA]
 refine wpAnyD_pure (i:=30) (oi:=⟨some 32,.fieldAddr 27 (.tmp 1) 1,0,"law.go:61",#[⟨0,.phase⟩,⟨1,.phase⟩,⟨2,.phase⟩,⟨3,.phase⟩,⟨4,.phase⟩,⟨5,.phase⟩,⟨6,.phase⟩,⟨7,.phase⟩,⟨8,.phase⟩,⟨9,.phase⟩,⟨10,.phase⟩,⟨11,.phase⟩,⟨12,.phase⟩,⟨13,.phase⟩,⟨14,.phase⟩,⟨15,.phase⟩,⟨16,.phase⟩,⟨17,.phase⟩,{ on:=18,ground:=Ground.textOnly Departure.lateStoresUnsure },{ on:=19,ground:=Ground.textOnly Departure.lateStoresUnsure },{ on:=20,ground:=Ground.textOnly Departure.lateStoresUnsure },⟨21,.phase⟩,⟨22,.phase⟩,⟨23,.phase⟩,⟨24,.phase⟩,{ on:=25,ground:=Ground.textOnly Departure.lateStoresUnsure },{ on:=26,ground:=Ground.textOnly Departure.lateStoresUnsure },{ on:=27,ground:=Ground.textOnly Departure.lateStoresUnsure },⟨28,.phase⟩,⟨29,.phase⟩],none⟩) (v:=?_) rfl (by kernel_rfl) (by kernel_rfl) (by kernel_rfl) (by decide) (fun _ _ _ h=>h) (Or.inl ⟨by rfl,?_⟩) (fun e=>absurd (Eq.trans (Eq.symm (by kernel_rfl:_=true)) e) (by decide)) ?_
 rotate_left 1
 ·intro w hSw;go_simp <;> with_reducible rfl
 try simp only[nA]
 have cc1:=hD.out.c1;refine wpAnyD_ready (rs:=[31]) (by kernel_rfl) (by simp) ?_;refine AllReadyD.cons (o:=⟨none,.store 23 (.tmp 32) (.tmp 16),0,"law.go:61",#[⟨30,.data⟩,⟨13,.data⟩,⟨29,.chain⟩,⟨0,.phase⟩,⟨1,.phase⟩,⟨2,.phase⟩,⟨3,.phase⟩,⟨4,.phase⟩,⟨5,.phase⟩,⟨6,.phase⟩,⟨7,.phase⟩,⟨8,.phase⟩,⟨9,.phase⟩,⟨10,.phase⟩,⟨11,.phase⟩,⟨12,.phase⟩,⟨13,.phase⟩,⟨14,.phase⟩,⟨15,.phase⟩,⟨16,.phase⟩,⟨17,.phase⟩,{ on:=18,ground:=Ground.textOnly Departure.lateStoresUnsure },{ on:=19,ground:=Ground.textOnly Departure.lateStoresUnsure },{ on:=20,ground:=Ground.textOnly Departure.lateStoresUnsure },⟨21,.phase⟩,⟨22,.phase⟩,⟨23,.phase⟩,⟨24,.phase⟩,{ on:=25,ground:=Ground.textOnly Departure.lateStoresUnsure },{ on:=26,ground:=Ground.textOnly Departure.lateStoresUnsure },{ on:=27,ground:=Ground.textOnly Departure.lateStoresUnsure },⟨28,.phase⟩,⟨29,.phase⟩],none⟩) rfl (fun K9 hK=>?_) AllReadyD.nil;go_simp;refine shut_last hK (by kernel_rfl) ?_;clear hK K9 hD cc1 z0 z1 z2 z3;replace hB:=HD (hB.out.set1 (.slice ka k2 kc));generalize W1.setCell ⟨w.heap.size,1,none⟩ (.slice ka k2 kc)=W2 at *;have hD:=HD (hB.out.up ((Below.refl _ _).drew));have z0:=hD.out.z 0;have z1:=hD.out.z 1;have z2:=hD.out.z 2;have z3:=hD.out.z 3
 try simp only[nA]
 refine wpAnyD_pure (i:=32) (oi:=⟨some 33,.fieldAddr 27 (.tmp 1) 2,0,"law.go:61",#[⟨0,.phase⟩,⟨1,.phase⟩,⟨2,.phase⟩,⟨3,.phase⟩,⟨4,.phase⟩,⟨5,.phase⟩,⟨6,.phase⟩,⟨7,.phase⟩,⟨8,.phase⟩,⟨9,.phase⟩,⟨10,.phase⟩,⟨11,.phase⟩,⟨12,.phase⟩,⟨13,.phase⟩,⟨14,.phase⟩,⟨15,.phase⟩,⟨16,.phase⟩,⟨17,.phase⟩,⟨18,.phase⟩,⟨19,.phase⟩,⟨20,.phase⟩,⟨21,.phase⟩,⟨22,.phase⟩,⟨23,.phase⟩,⟨24,.phase⟩,{ on:=25,ground:=Ground.textOnly Departure.lateStoresUnsure },{ on:=26,ground:=Ground.textOnly Departure.lateStoresUnsure },{ on:=27,ground:=Ground.textOnly Departure.lateStoresUnsure },⟨28,.phase⟩,⟨29,.phase⟩,⟨30,.phase⟩,⟨31,.phase⟩],none⟩) (v:=?_) rfl (by kernel_rfl) (by kernel_rfl) (by kernel_rfl) (by decide) (fun _ _ _ h=>h) (Or.inl ⟨by rfl,?_⟩) (fun e=>absurd (Eq.trans (Eq.symm (by kernel_rfl:_=true)) e) (by decide)) ?_
 rotate_left 1
 ·intro w hSw;go_simp <;> with_reducible rfl
 try simp only[nA]
 have cc2:=hD.out.c2;refine wpAnyD_ready (rs:=[33]) (by kernel_rfl) (by simp) ?_;refine AllReadyD.cons (o:=⟨none,.store 24 (.tmp 33) (.tmp 23),0,"law.go:61",#[⟨32,.data⟩,⟨20,.data⟩,⟨31,.chain⟩,⟨0,.phase⟩,⟨1,.phase⟩,⟨2,.phase⟩,⟨3,.phase⟩,⟨4,.phase⟩,⟨5,.phase⟩,⟨6,.phase⟩,⟨7,.phase⟩,⟨8,.phase⟩,⟨9,.phase⟩,⟨10,.phase⟩,⟨11,.phase⟩,⟨12,.phase⟩,⟨13,.phase⟩,⟨14,.phase⟩,⟨15,.phase⟩,⟨16,.phase⟩,⟨17,.phase⟩,⟨18,.phase⟩,⟨19,.phase⟩,⟨20,.phase⟩,⟨21,.phase⟩,⟨22,.phase⟩,⟨23,.phase⟩,⟨24,.phase⟩,{ on:=25,ground:=Ground.textOnly Departure.lateStoresUnsure },{ on:=26,ground:=Ground.textOnly Departure.lateStoresUnsure },{ on:=27,ground:=Ground.textOnly Departure.lateStoresUnsure },⟨28,.phase⟩,⟨29,.phase⟩,⟨30,.phase⟩,⟨31,.phase⟩],none⟩) rfl (fun K9 hK=>?_) AllReadyD.nil;go_simp;refine shut_last hK (by kernel_rfl) ?_;clear hK K9 hD cc2 z0 z1 z2 z3;replace hB:=HD (hB.out.set2 (.slice ma k3 mc));generalize W2.setCell ⟨w.heap.size,2,none⟩ (.slice ma k3 mc)=W3 at *;have hD:=HD (hB.out.up ((Below.refl _ _).drew));have z0:=hD.out.z 0;have z1:=hD.out.z 1;have z2:=hD.out.z 2;have z3:=hD.out.z 3
 try simp only[nA]
 refine wpAnyD_pure (i:=34) (oi:=⟨some 34,.fieldAddr 27 (.tmp 1) 3,0,"law.go:61",#[⟨0,.phase⟩,⟨1,.phase⟩,⟨2,.phase⟩,⟨3,.phase⟩,⟨4,.phase⟩,⟨5,.phase⟩,⟨6,.phase⟩,⟨7,.phase⟩,⟨8,.phase⟩,⟨9,.phase⟩,⟨10,.phase⟩,⟨11,.phase⟩,⟨12,.phase⟩,⟨13,.phase⟩,⟨14,.phase⟩,⟨15,.phase⟩,⟨16,.phase⟩,⟨17,.phase⟩,⟨18,.phase⟩,⟨19,.phase⟩,⟨20,.phase⟩,⟨21,.phase⟩,⟨22,.phase⟩,⟨23,.phase⟩,⟨24,.phase⟩,⟨25,.phase⟩,⟨26,.phase⟩,⟨27,.phase⟩,⟨28,.phase⟩,⟨29,.phase⟩,⟨30,.phase⟩,⟨31,.phase⟩,⟨32,.phase⟩,⟨33,.phase⟩],none⟩) (v:=?_) rfl (by kernel_rfl) (by kernel_rfl) (by kernel_rfl) (by decide) (fun _ _ _ h=>h) (Or.inl ⟨by rfl,?_⟩) (fun e=>absurd (Eq.trans (Eq.symm (by kernel_rfl:_=true)) e) (by decide)) ?_
 rotate_left 1
 ·intro w hSw;go_simp <;> with_reducible rfl
 try simp only[nA]
 have cc3:=hD.out.c3;refine wpAnyD_ready (rs:=[35]) (by kernel_rfl) (by simp) ?_;refine AllReadyD.cons (o:=⟨none,.store 25 (.tmp 34) (.tmp 30),0,"law.go:61",#[⟨34,.data⟩,⟨27,.data⟩,⟨33,.chain⟩,⟨0,.phase⟩,⟨1,.phase⟩,⟨2,.phase⟩,⟨3,.phase⟩,⟨4,.phase⟩,⟨5,.phase⟩,⟨6,.phase⟩,⟨7,.phase⟩,⟨8,.phase⟩,⟨9,.phase⟩,⟨10,.phase⟩,⟨11,.phase⟩,⟨12,.phase⟩,⟨13,.phase⟩,⟨14,.phase⟩,⟨15,.phase⟩,⟨16,.phase⟩,⟨17,.phase⟩,⟨18,.phase⟩,⟨19,.phase⟩,⟨20,.phase⟩,⟨21,.phase⟩,⟨22,.phase⟩,⟨23,.phase⟩,⟨24,.phase⟩,⟨25,.phase⟩,⟨26,.phase⟩,⟨27,.phase⟩,⟨28,.phase⟩,⟨29,.phase⟩,⟨30,.phase⟩,⟨31,.phase⟩,⟨32,.phase⟩,⟨33,.phase⟩],none⟩) rfl (fun K9 hK=>?_) AllReadyD.nil;go_simp;refine shut_last hK (by kernel_rfl) ?_;clear hK K9 hD cc3 z0 z1 z2 z3;replace hB:=HD (hB.out.set3 (.slice oa k4 oc));generalize W3.setCell ⟨w.heap.size,3,none⟩ (.slice oa k4 oc)=W4 at *;have hD:=HD (hB.out.up ((Below.refl _ _).drew));have z0:=hD.out.z 0;have z1:=hD.out.z 1;have z2:=hD.out.z 2;have z3:=hD.out.z 3
 try simp only[nA]
 refine wpAnyD_done (by kernel_rfl) ?_ _;generalize W4.drew=Wd at *;have x0:=hD.out.c0;have x1:=hD.out.c1;have x2:=hD.out.c2;have x3:=hD.out.c3;have x4:=hD.out.c4;have hh:=hD.out.r;have y0:Wd.cell? ⟨w.heap.size+1,0,none⟩=some (.slice none 0 0):=cell_in hh rfl;have y1:Wd.cell? ⟨w.heap.size+1,1,none⟩=some (.slice none 0 0):=cell_in hh rfl;have y2:Wd.cell? ⟨w.heap.size+1,2,none⟩=some (.slice none 0 0):=cell_in hh rfl;have y3:Wd.cell? ⟨w.heap.size+1,3,none⟩=some (.slice none 0 0):=cell_in hh rfl;have y4:Wd.cell? ⟨w.heap.size+1,4,none⟩=some (.int .i64 0):=cell_in hh rfl;have q0:Wd.frozen? ⟨w.heap.size+1,0,none⟩=false:=loose_in hh;have q1:Wd.frozen? ⟨w.heap.size+1,1,none⟩=false:=loose_in hh;have q2:Wd.frozen? ⟨w.heap.size+1,2,none⟩=false:=loose_in hh;have q3:Wd.frozen? ⟨w.heap.size+1,3,none⟩=false:=loose_in hh;have q4:Wd.frozen? ⟨w.heap.size+1,4,none⟩=false:=loose_in hh;obtain⟨r0,r1,r2,r3,r4⟩:=set5_at (v0:=.slice na k1 nc) (v1:=.slice ka k2 kc) (v2:=.slice ma k3 mc) (v3:=.slice oa k4 oc) (v4:=.int .i64 mn) y0 y1 y2 y3 y4;have hbel:Hid (Below w.heap.size w (set5 Wd (w.heap.size+1) (.slice na k1 nc) (.slice ka k2 kc) (.slice ma k3 mc) (.slice oa k4 oc) (.int .i64 mn))):=HD (((((hD.out.bel.setCell (by simp only;omega) _).setCell (by simp only;omega) _).setCell (by simp only;omega) _).setCell (by simp only;omega) _).setCell (by simp only;omega) _);clear hh hB m1 m2 m3 m4 n1 n2 n3 n4 cp1 cp2 cp3 cp4 mx z0 z1 z2 z3
 go_wp2
 refine bodyPost_ret (by simp[results,Tryz.results16,go_sem,r0,r1,r2,r3,r4];try rfl) rfl ?_;exact⟨_,rfl,hV.out.up hbel.out,hbel.out⟩
end Wd
end Go.Proofs.YtgfnelhbdhbklaaGreat
namespace Go.Proofs.YtgfnelhbdhbklaaGreat
open Go.ChangeShapes Go.WideShapes Go.ChangeAt Go.RowKit
set_option linter.unusedVariables false
set_option maxRecDepth 20000
namespace Wd
theorem tmask31 (n:Int):bits .and .i64 n 31=n % 32:=by
 have h127:(BitVec.ofInt 64 31).toNat=2 ^ 5 - 1:=by decide
 have key:(BitVec.ofInt 64 n &&& BitVec.ofInt 64 31).toNat=(n % ((2 ^ 64:Nat):Int)).toNat % 2 ^ 5:=by
  rw[BitVec.toNat_and,BitVec.toNat_ofInt,h127,Nat.and_two_pow_sub_one_eq_mod]
 show IntKind.i64.wrap ((BitVec.ofInt 64 n &&& BitVec.ofInt 64 31).toNat:Nat)=n % 32;rw[key,IntKind.wrap_i64];omega
theorem xor_u8 (a b:Int):0≤bits .xor .u8 a b∧bits .xor .u8 a b≤255:=wr8_bd _
theorem byv_set {w:World} {g n cap:Nat} {L:List Int} (h:ByV w (.slice (some ⟨g,0,none⟩) n cap) L) {k:Nat} (hk:k < L.length) {z:Int} (hz:0≤z∧z≤255):ByV (w.setCell ⟨g,k,none⟩ (.int .u8 z)) (.slice (some ⟨g,0,none⟩) n cap) (L.set k z):=by
 obtain⟨ad,cap',e,h1,h2,h3⟩:=h;cases e;refine⟨_,_,by rw[List.length_set],by rw[List.length_set];exact h1,h2,fun j x hx=>?_⟩;rw[List.getElem?_set] at hx;by_cases e:k=j
 ·subst e;rw[if_pos rfl,if_pos hk] at hx;obtain rfl:=Option.some.inj hx;obtain⟨y,hy⟩:∃ y,L[k]?=some y:=⟨L[k],by simp⟩
  obtain⟨_,g',o',e',c⟩:=h3 k y hy;cases e';refine⟨hz,g,0,rfl,?_⟩;rw[Nat.zero_add] at c ⊢;exact World.cell?_setCell_same _ _ _ c
 ·rw[if_neg e] at hx;obtain⟨b,g',o',e',c⟩:=h3 j x hx;cases e';refine⟨b,g,0,rfl,?_⟩;rw[Nat.zero_add] at c ⊢;exact (World.cell?_setCell_other _ _ _ _ (fun q=>e (by cases q;rfl))).trans c
theorem slF_own {w:World} {base n:Nat} {e:TypeId} {v:Value} {xs:List Value} (h:w.ownsRow base e 1 v n xs):SlF v:=by
 rcases h.2 with ⟨rfl,h0⟩ | ⟨g,cap,cur,rfl,_⟩
 ·exact Or.inl ⟨_,rfl⟩
 ·exact Or.inr ⟨_,_,_,_,rfl⟩
theorem run_app_full {w:World} {g off n:Nat} {bv:Value} {A B:List Int} (hA:ByV w (.slice (some ⟨g,off,none⟩) n n) A) (hB:ByV w bv B) (h63:A.length+B.length≤140737488355328) :
  ∃ v' w',(Builtin.append_ #[36,36] 36 #[.slice (some ⟨g,off,none⟩) n n,bv]).run Tryz.prog w=.ok v' w'∧ByV w' v' (A++B)∧SlF v'∧Below w.heap.size w w':=by
 obtain⟨i0,hi0,hz0,hz1,hz2⟩:=info_parts infoB8;have hn:n=A.length:=by obtain⟨_,_,e,_⟩:=hA;cases e;rfl
 have hmx:140737488355328≤maxLen:=by decide
 have hba:=bys_ln A;have hbb:=bys_ln B;rcases hB.rd with ⟨c,rfl,hm,hn0⟩ | ⟨ad,c,rfl,hc⟩
 ·have:B=[]:=List.length_eq_zero_iff.1 hm;subst this;exact⟨.slice (some ⟨g,off,none⟩) n n,w,by simp[Builtin.append_,run_underlying Tryz.underlying36,sizeOf,typeInfo,hi0,Builtin.lenOf,Builtin.firstCells,storeCells],by rw[List.append_nil];exact hA,Or.inr ⟨_,_,_,_,rfl⟩,Below.refl _ _⟩
 ·by_cases hB0:B.length=0
  ·have:B=[]:=List.length_eq_zero_iff.1 hB0;subst this;have hr:=run_append_room_cells (P:=Tryz.prog) w 36 36 5 i0 Tryz.underlying36 hi0 g off n n ad 0 c [] (by simp) (fun j u h=>by simp at h) (fun u h=>by cases h) (by omega) (fun j h=>by simp at h) (fun j h=>by simp at h);refine⟨_,_,hr,?_,Or.inr ⟨_,_,_,_,rfl⟩,?_⟩
   ·rw[List.append_nil];exact hA
   ·exact Below.refl _ _
  ·obtain⟨v',w',hr,hown,hg⟩:=run_append_arg_grows (P:=Tryz.prog) w 36 36 5 i0 (.int .u8 0) 1 1 Tryz.underlying36 hi0 hz0 hz1 hz2 rfl (by decide) ⟨g,off,none⟩ n n (bys A) (by omega) hA.news ad B.length c (bys B) (by omega) hc (by omega) (by omega) (by omega);rw[← bys_cat] at hown;refine⟨v',w',hr,ByV.own (e:=5) (base:=w.heap.size) (by rw[List.length_append,← hn];exact hown) (fun x hx=>?_),slF_own hown,⟨hg.os,hg.tape,hg.output,hg.size,fun k hk=>hg.block k hk (by simp)⟩⟩;rcases List.mem_append.1 hx with h | h
   ·exact hA.bd x h
   ·exact hB.bd x h
theorem wpList_app_full {w:World} {ops:Array Oper} {rest:List Oper} {o:Oper} {a:Act} {Q:Exit→Act→World→Prop} (hw:Region.wanted o (yielded ops a.tmps)=true) (s x:Operand) (hty:o.type=36)
  (ho:o.op=.call { callee:=.builtin .append,args:=#[s,x],argTypes:=#[36,36] })
  (g off n:Nat) (bv:Value) (A B:List Int) (hs:a.eval s=.slice (some ⟨g,off,none⟩) n n) (hx:a.eval x=bv) (hA:ByV w (.slice (some ⟨g,off,none⟩) n n) A) (hB:ByV w bv B) (h63:A.length+B.length≤140737488355328)
  (h:∀ v' w',ByV w' v' (A++B)→SlF v'→Below w.heap.size w w'→wpList Tryz.prog ops Q rest (a.put o.dst v') w'):wpList Tryz.prog ops Q (o :: rest) a w:=by
 refine BigFrame.wpList_want hw fun K hK=>?_;obtain⟨v',w',hr,h2,h3,h5⟩:=run_app_full hA hB h63;unfold Oper.wp execOp;simp only[ho,hty,resolve,invoke,builtin,Sem.run_bind,Sem.run_pure,Result.andThen_ok,List.map_toArray,List.map_cons,List.map_nil,hs,hx,hr];exact hK _ _ (h v' w' h2 h3 h5)
theorem wpList_app_own {w:World} {ops:Array Oper} {rest:List Oper} {o:Oper} {a:Act} {Q:Exit→Act→World→Prop} (hw:Region.wanted o (yielded ops a.tmps)=true) (s x:Operand) (hty:o.type=36)
  (ho:o.op=.call { callee:=.builtin .append,args:=#[s,x],argTypes:=#[36,36] })
  (base:Nat) (sv bv:Value) (A B:List Int) (hs:a.eval s=sv) (hx:a.eval x=bv) (hA:w.ownsRow base 5 1 sv A.length (bys A)) (hA8:Bd8 A) (hB:ByV w bv B) (h63:A.length+B.length≤140737488355328) (hbase:base≤w.heap.size)
  (h:∀ v' w',w'.ownsRow base 5 1 v' (A++B).length (bys (A++B))→ByV w' v' (A++B)→SlF v'→w.grownBy w' sv.ownBlock→wpList Tryz.prog ops Q rest (a.put o.dst v') w'):wpList Tryz.prog ops Q (o :: rest) a w:=by
 obtain⟨i0,hi0,hz0,hz1,hz2⟩:=info_parts infoB8;have hmx:140737488355328≤maxLen:=by decide
 refine BigFrame.wpList_want hw fun K hK=>?_;obtain⟨v',w',hr,h2,h3,h5⟩:=run_app_any (P:=Tryz.prog) w base 36 36 5 i0 (.int .u8 0) 1 1 Tryz.underlying36 hi0 hz0 hz1 hz2 rfl (by decide) sv bv A.length B.length (bys A) (bys B) hA hB.rd (by rw[bys_ln,Nat.mul_one]) (bys_one _) (by omega) (by omega) hbase;rw[← bys_cat,← List.length_append] at h2;unfold Oper.wp execOp;simp only[ho,hty,resolve,invoke,builtin,Sem.run_bind,Sem.run_pure,Result.andThen_ok,List.map_toArray,List.map_cons,List.map_nil,hs,hx,hr];exact hK _ _ (h v' w' h2 (ByV.own h2 (fun x hx=>by
  rcases List.mem_append.1 hx with h | h
  ·exact hA8 x h
  ·exact hB.bd x h)) (slF_own h2) h3)
section
variable {H:Type} {enc:TypeId × Value→H} {W:World}
theorem bytes_rd2 {n:Nat} {c:Value} {y:DataW H × List MemPlace} (h:DataW.trod enc Tryz.prog W 0 (fun _=>true) true n 36 [c]=some y) (hw:Wok 36 y.1):∃ L,ByV W c L∧L.length≤140737488351232:=by
 obtain⟨ad,len,cap,rfl,hl,hm,hb,hel⟩:=row_rd Tryz.underlying36 cellsU9 (by decide) h hw;rw[bytesU9] at hb;obtain⟨B,hB1,hB2⟩:=pick_n (P:=fun k (x:Int)=>(0≤x∧x≤255)∧∃ g off,ad=some ⟨g,off,none⟩∧W.cell? ⟨g,off+k,none⟩=some (.int .u8 x)) len (fun k hk=>by
  obtain⟨g,off,cs,z,m,e1,hcl,hce,ht,_⟩:=hel k hk;obtain⟨x,e0,_,w0⟩:=DataW.trod_int Tryz.underlying5 ht;subst e0;exact⟨x,bounds_u8 w0,g,off,e1,by have:=hce 0 (by decide);simpa using this⟩)
 subst hB1;refine⟨B,⟨ad,cap,rfl,hl,hm,hB2⟩,?_⟩;simp only[reachBytes] at hb;omega
theorem spot_of {m:Nat} {a:Addr} {z:DataW H × List MemPlace} (h:(W.cells? 0 a (Tryz.prog.cellsOf 5)).bind (DataW.trod enc Tryz.prog W 0 (fun _=>true) true m 5)=some z):a.spot=none:=by
 rw[cellsU9,Option.bind_eq_some_iff] at h;obtain⟨cs,hc,ht⟩:=h;obtain⟨_,hcl,hcc⟩:=World.cells?_some hc;obtain⟨x,e0,_,w0⟩:=DataW.trod_int Tryz.underlying5 ht;subst e0;have hs:=World.cell?_spot ((hcc 0 (by omega)).trans (show [Value.int IntKind.u8 x][0]?=some (.int .u8 x) from rfl));simpa [Addr.add] using hs
theorem slf_rd {n:Nat} {a0:Option Addr} {l0 c0:Nat} {y:DataW H × List MemPlace} (h:DataW.trod enc Tryz.prog W 0 (fun _=>true) true n 36 [.slice a0 l0 c0]=some y):SlF (.slice a0 l0 c0):=by
 rcases DataW.trod_slice Tryz.underlying36 h with ⟨hcs,hx⟩ | ⟨a,len,cap,elems,rest,m,_,hcs,hx,hb,hl,hm,hlen,hel,hrest,_⟩
 ·simp at hcs;obtain⟨rfl,rfl,rfl⟩:=hcs;exact Or.inl ⟨none,rfl⟩
 ·simp at hcs;obtain⟨rfl,rfl,rfl⟩:=hcs;by_cases hc:c0=0
  ·subst hc;obtain rfl:l0=0:=by omega
   exact Or.inl ⟨some a,rfl⟩
  ·have hs:a.spot=none:=by
    by_cases h0:0 < l0
    ·obtain⟨z,hz⟩:∃ z,elems[0]?=some z:=⟨elems[0]'(by omega),by simp⟩
     have:=spot_of ((hel 0 h0).trans hz);simpa [Addr.add] using this
    ·obtain rfl:l0=0:=by omega
     obtain⟨r1,r2⟩:=hrest rfl;obtain⟨z,hz⟩:∃ z,rest[0]?=some z:=⟨rest[0]'(by omega),by simp⟩
     have:=spot_of ((r2 0 (by omega)).trans hz);simpa [Addr.add] using this
   obtain⟨b,off,spot⟩:=a;simp only at hs;subst hs;exact Or.inr ⟨_,_,_,_,rfl⟩
theorem bytes_in {base:Nat} {v:Value} {d:DataW H} {p:List MemPlace} (hv:Value.okWide Tryz.prog W .any base 36 v) (h:DataW.Trod enc Tryz.prog W 0 (fun _=>true) true 36 v d p) (hw:Wok 36 d):∃ L,ByV W v L∧SlF v∧L.length≤140737488351232:=by
 obtain⟨a0,len,cap,rfl⟩:=okWide_slice Tryz.underlying36 hv;obtain⟨fuel,hf⟩:=h;have hf':DataW.trod enc Tryz.prog W 0 (fun _=>true) true fuel 36 [.slice a0 len cap]=some (d,p):=by simpa [Value.cells] using hf
 obtain⟨L,h1,h2⟩:=bytes_rd2 hf' hw;exact⟨L,h1,slf_rd hf',h2⟩
end
end Wd
end Go.Proofs.YtgfnelhbdhbklaaGreat
namespace Go.Proofs.YtgfnelhbdhbklaaGreat
open Go.RowKit
set_option linter.unusedVariables false
set_option maxRecDepth 20000
namespace Wd
theorem tape_le {U:UnitA} (hT:TapeU U):(bytesU U).length≤4096:=by
 have h:=right_u hT.right;have a1:(rowB txt U.names).length≤4+6*20:=rowB_le (by rw[hT.names];decide) (fun s hs=>by unfold txt;rw[List.length_append,b4_len,tby_len];have:=h.ns s hs;omega);have a2:(rowB clB U.classes).length≤4+5*160:=rowB_le hT.cl1 (fun c hc=>by
  obtain⟨q1,_,_,_,_,q2,_⟩:=h.cs c hc;have e:=rowP_le q2;unfold clB txt;simp only[List.length_append,b4_len,tby_len];omega)
 have a3:(rowB mtB U.methods).length≤4+9*272:=rowB_le (by rw[hT.ml];exact Nat.le_refl _) (fun c hc=>by
  obtain⟨_,_,_,_,q1,_,q2⟩:=h.ms c hc;have e:=rowP_le q1;unfold mtB;simp only[List.length_append,b4_len];omega)
 have a4:(rowB obB U.objects).length≤4+5*72:=rowB_le hT.ob1 (fun c hc=>by
  obtain⟨k,hk⟩:=List.getElem?_of_mem hc;have e:=rowP_le (obj_len hT hk).1;unfold obB;simp only[List.length_append,b4_len];omega)
 unfold bytesU bodyU;simp only[List.length_append,b4_len];simp;omega
theorem byv_cap {w:World} {ad:Option Addr} {n cap:Nat} {L:List Int} (h:ByV w (.slice ad n cap) L):ByV w (.slice ad n n) L:=by
 obtain⟨ad',cap',e,h1,h2,h3⟩:=h;cases e;exact⟨_,_,rfl,Nat.le_refl _,Nat.le_trans h1 h2,h3⟩
theorem own_some {w:World} {base n:Nat} {e:TypeId} {v:Value} {xs:List Value} (h:w.ownsRow base e 1 v n xs) (h0:0 < n):∃ g cap,v=.slice (some ⟨g,0,none⟩) n cap∧base≤g∧∀ o,w.frozen? ⟨g,o,none⟩=false:=by
 rcases h.2 with ⟨rfl,h1⟩ | ⟨g,cap,cur,rfl,h1,h2,_⟩
 ·omega
 ·exact⟨g,cap,rfl,h1,fun o=>loose_at h2 o⟩
end Wd
end Go.Proofs.YtgfnelhbdhbklaaGreat
namespace Go.Proofs.YtgfnelhbdhbklaaGreat
open Go.RowKit
set_option linter.unusedVariables false
set_option maxRecDepth 20000
namespace Wd
set_option maxHeartbeats 64000000 in
theorem itells_any (K:RdK) {w:World} {raw bv:Value} {R:UnitA} {B:List Int} {ad:Option Addr} {n cap:Nat} (HA:NumA w ad n) (hn:n≤4611686018427387904) (what at_ x:Int) (hw:In64 what) (ha:In64 at_) (hx:In64 x) (hR:UnK w raw R) (hB:ByV w bv B) (hf:SlF bv) (hBl:B.length≤140737488351232) (tn:Int) (t1:0≤tn) (t2:tn≤255) :
  Calls Tryz.prog 4 #[.slice ad n cap,.int .i64 what,.int .i64 at_,.int .i64 x,raw,bv,.int .u8 tn] w fun e w'=>e=.returned (.bool true)∧Below w.heap.size w w':=by
 obtain⟨rn,rnc,rk,rkc,rm,rmc,ro,roc,rfl,hRu⟩:=hR.ex;have hB0:=(Below.refl w.heap.size w).alloc (Nat.le_refl _) (.cells #[.slice rn R.names.length rnc,.slice rk R.classes.length rkc,.slice rm R.methods.length rmc,.slice ro R.objects.length roc,.int .i64 R.main] 27);have hR0:=HD (UQ.born hR);have HA0:=HA.up hB0;replace hB:=HD (hB.up hB0);replace hf:=HD hf;obtain⟨a31,ha31,b31⟩:∃ p,bits .and .i64 at_ 31=p∧(0≤p∧p < 32):=⟨_,rfl,by rw[tmask31];omega⟩
 obtain⟨x15,hx15,c15⟩:∃ p,bits .and .i64 x 15=p∧(0≤p∧p < 16):=⟨_,rfl,by rw[umask15];omega⟩
 have hmx:140737488355328≤maxLen:=by decide
 clear hR hRu HA;go_enter Tryz.func4,Tryz.ntmps4
 go_upto_region 1 with fail
 obtain⟨W0,hW0⟩:∃ W,W=w.alloc (.cells #[.slice rn R.names.length rnc,.slice rk R.classes.length rkc,.slice rm R.methods.length rmc,.slice ro R.objects.length roc,.int .i64 R.main] 27):=⟨_,rfl⟩
 rw[← hW0] at hR0 hB HA0 hB0 ⊢;clear hW0;obtain⟨qr,hqr⟩:∃ q,q=w.heap.size:=⟨_,rfl⟩
 rw[← hqr] at hR0 ⊢;replace hqr:=HD hqr;have PU:=HD (unit_c (tape_tp (cap:=cap) HA0 hn))
 go_wp2_with fail
 with_reducible refine PU.out.mono ?_
 rintro e wu ⟨nv,cv,mv,ov,rfl,U,hU,hT,_,hcg,_⟩;have hBu:=unit_bel hcg;obtain⟨na,nc,ka,kc,ma,mc,oa,oc,rfl,rfl,rfl,rfl⟩:=UnV.forms hU;have hk6:=UnV.k hU hT.main;clear PU hcg hU HA0;have hbx:=(Below.refl wu.heap.size wu).alloc (Nat.le_refl _) (.cells #[.slice na U.names.length nc,.slice ka U.classes.length kc,.slice ma U.methods.length mc,.slice oa U.objects.length oc,.int .i64 6] 27);have hux:=hBu.trans (hbx.mono hBu.size);replace hR0:=HD (hR0.out.up hux);replace hB:=HD (hB.out.up hux);have hb:=HD (hB0.trans (hux.mono hB0.size));have hzu:=HD hT.zb;have hl4:(bytesU U).length≤4096:=tape_le hT;have hA:=HD (UQ.born hk6);have hbd:=HD (bytes_bdK hk6);replace hT:=HD hT;clear hk6 hbx hux hBu hB0
 go_upto_region 2 with fail
 generalize wu.alloc (.cells #[.slice na U.names.length nc,.slice ka U.classes.length kc,.slice ma U.methods.length mc,.slice oa U.objects.length oc,.int .i64 6] 27)=W1 at *;generalize wu.heap.size=q0 at *;obtain⟨a0,a1,a2,a3,a4⟩:=hA.out.five;have P:=HD (wbytes_c hA.out.un (by omega))
 go_wp2_with fail
 with_reducible refine P.out.mono ?_
 rintro e1 w2 ⟨v8,rfl,hrb,hb2⟩;obtain⟨g,gcap,rfl,gc1,gc2⟩:=hrb.form;have hbyx:=hrb.byv2 hbd.out;replace hA:=HD (hA.out.up hb2);replace hR0:=HD (hR0.out.up hb2);replace hB:=HD (hB.out.up hb2);replace hb:=HD (hb.out.trans (hb2.mono hb.out.size));clear a0 a1 a2 a3 a4 P hrb hb2;have hn5:5≤(bytesU U).length:=by
  unfold bytesU bodyU;simp only[List.length_append,b4_len];simp;omega
 obtain⟨X,hX⟩:∃ X,X=bytesU U:=⟨_,rfl⟩
 rw[← hX] at hbyx gc1 hl4 hn5 hbd ⊢;clear hX;obtain⟨nn,hnn⟩:∃ n,n=X.length:=⟨_,rfl⟩
 rw[← hnn] at hbyx gc1 hl4 hn5 ⊢;replace hnn:=HD hnn;replace hbyx:=HD hbyx;have hk0:=within_bd at_ 0 ((nn:Int) - 1) (by omega);have PW:=fun w=>within_c at_ 0 ((nn:Int) - 1) ha.1 ha.2 (by omega) (by omega) (by omega) w;obtain⟨kk,hkk⟩:∃ k:Nat,within at_ 0 ((nn:Int) - 1)=(k:Int):=⟨_,(Int.toNat_of_nonneg hk0.1).symm⟩
 rw[hkk] at hk0;have hkn:kk < nn:=by omega
 simp only[hkk] at PW;replace PW:=HD PW;have hkc:kk≤gcap:=by omega
 clear hk0 hkk;have wn1:IntKind.i64.wrap ((nn:Int) - 1)=(nn:Int) - 1:=by rw[IntKind.wrap_i64];omega
 go_wp2_with fail
 with_reducible refine (PW.out _).mono ?_
 rintro e1 w3 ⟨rfl,hw3⟩;subst w3;clear PW
 go_upto_region 4 with fail
 have hbe:=(Below.refl w2.heap.size w2).alloc (Nat.le_refl _) (.cells #[] 5);have hbx0:=HD (hbyx.out.up hbe)
 go_upto_region 6 with (first | (at_builtin;refine wpList_app_own (by rfl) (.tmp 30) (.tmp 31) rfl rfl w2.heap.size (.slice (some ⟨w2.heap.size,0,none⟩) 0 0) (.slice (some ⟨g,0,none⟩) nn gcap) [] X (by simp[Act.eval]) (by simp[Act.eval]) (made_none w2 5 1 _ (Nat.le_refl _)) (fun x hx=>by cases hx) hbx0.out (by rw[← hnn.out];simp;omega) (by simp) ?_;intro v1 w4 hown hbyY hsl hgr;rw[List.nil_append] at hown hbyY;rw[← hnn.out] at hown;obtain⟨gy,cy,rfl,hyb,hyf⟩:=own_some hown (by omega);obtain⟨av,hav⟩:∃ a,X[kk]?=some a:=⟨X[kk]'(by rw[← hnn.out];exact hkn),by simp⟩;have cav:=(hbyY.at hav).2;obtain⟨_,_,eav,cav⟩:=cav;cases eav;rw[Nat.zero_add] at cav;have fav:=hyf kk;have blY:=grow_new hgr;clear hown hsl hgr hyf))
 have hyY:=HD (byv_set hbyY (k:=kk) (by rw[← hnn.out];exact hkn) (xor_u8 av tn));have hbs:=blY.trans ((Below.refl w2.heap.size w4).setCell (p:=⟨gy,kk,none⟩) hyb (.int .u8 (bits .xor .u8 av tn)));replace hA:=HD (hA.out.up hbs);replace hR0:=HD (hR0.out.up hbs);replace hB:=HD (hB.out.up hbs);replace hbyx:=HD (hbyx.out.up hbs);replace hb:=HD (hb.out.trans (hbs.mono hb.out.size));have PN:=HD (fun w=>iknown_c w);clear hbs hbyY hyb cav fav blY hbe hbx0;generalize hY:X.set kk (bits .xor .u8 av tn)=Y at *;clear hY;generalize w4.setCell ⟨gy,kk,none⟩ (.int .u8 (bits .xor .u8 av tn))=W5 at *;obtain⟨a0,a1,a2,a3,a4⟩:=hA.out.five;have P:=HD (isame_c K hA.out.un)
 go_wp2_with fail
 with_reducible refine P.out.mono ?_
 rintro e1 y1 ⟨rfl,h8⟩;replace hA:=HD (hA.out.up h8);replace hR0:=HD (hR0.out.up h8);replace hB:=HD (hB.out.up h8);replace hbyx:=HD (hbyx.out.up h8);replace hyY:=HD (hyY.out.up h8);replace hb:=HD (hb.out.trans (h8.mono hb.out.size));clear a0 a1 a2 a3 a4;clear h8 P;obtain⟨a0,a1,a2,a3,a4⟩:=hA.out.five;have P:=HD (oddu_c hA.out.un hzu.out (by omega) what at_ x hw ha hx)
 go_wp2_with fail
 with_reducible refine P.out.mono ?_
 rintro e1 y2 ⟨v2,V2,rfl,hv,_,h8⟩;replace hA:=HD (hA.out.up h8);replace hR0:=HD (hR0.out.up h8);replace hB:=HD (hB.out.up h8);replace hbyx:=HD (hbyx.out.up h8);replace hyY:=HD (hyY.out.up h8);replace hb:=HD (hb.out.trans (h8.mono hb.out.size));clear a0 a1 a2 a3 a4;clear h8 P;replace hv:=HD hv;have P:=HD (isame_c K hv.out)
 go_wp2_with fail
 with_reducible refine P.out.mono ?_
 rintro e1 y3 ⟨rfl,h8⟩;replace hA:=HD (hA.out.up h8);replace hR0:=HD (hR0.out.up h8);replace hB:=HD (hB.out.up h8);replace hbyx:=HD (hbyx.out.up h8);replace hyY:=HD (hyY.out.up h8);replace hb:=HD (hb.out.trans (h8.mono hb.out.size));clear h8 P;clear hv;obtain⟨a0,a1,a2,a3,a4⟩:=hA.out.five;have P:=HD (oddu_c hA.out.un hzu.out (by omega) what a31 x15 hw (in64_of (by omega) (by omega)) (in64_of (by omega) (by omega)))
 go_wp2_with fail
 with_reducible refine P.out.mono ?_
 rintro e1 y4 ⟨v4,V4,rfl,hv,_,h8⟩;replace hA:=HD (hA.out.up h8);replace hR0:=HD (hR0.out.up h8);replace hB:=HD (hB.out.up h8);replace hbyx:=HD (hbyx.out.up h8);replace hyY:=HD (hyY.out.up h8);replace hb:=HD (hb.out.trans (h8.mono hb.out.size));clear a0 a1 a2 a3 a4;clear h8 P;replace hv:=HD hv;have P:=HD (isame_c K hv.out)
 go_wp2_with fail
 with_reducible refine P.out.mono ?_
 rintro e1 y5 ⟨rfl,h8⟩;replace hA:=HD (hA.out.up h8);replace hR0:=HD (hR0.out.up h8);replace hB:=HD (hB.out.up h8);replace hbyx:=HD (hbyx.out.up h8);replace hyY:=HD (hyY.out.up h8);replace hb:=HD (hb.out.trans (h8.mono hb.out.size));clear h8 P;clear hv;obtain⟨a0,a1,a2,a3,a4⟩:=hR0.out.five;have P:=HD (few_c hR0.out.un)
 go_wp2_with fail
 with_reducible refine P.out.mono ?_
 rintro e1 y6 ⟨v6,rfl,hv,h8⟩;replace hA:=HD (hA.out.up h8);replace hR0:=HD (hR0.out.up h8);replace hB:=HD (hB.out.up h8);replace hbyx:=HD (hbyx.out.up h8);replace hyY:=HD (hyY.out.up h8);replace hb:=HD (hb.out.trans (h8.mono hb.out.size));clear a0 a1 a2 a3 a4;clear h8 P;replace hv:=HD hv;have P:=HD (isame_c K hv.out)
 go_wp2_with fail
 with_reducible refine P.out.mono ?_
 rintro e1 y7 ⟨rfl,h8⟩;replace hA:=HD (hA.out.up h8);replace hR0:=HD (hR0.out.up h8);replace hB:=HD (hB.out.up h8);replace hbyx:=HD (hbyx.out.up h8);replace hyY:=HD (hyY.out.up h8);replace hb:=HD (hb.out.trans (h8.mono hb.out.size));clear h8 P;clear hv;have P:=HD (reads_c K hyY.out (Or.inr ⟨_,_,_,_,rfl⟩))
 go_wp2_with fail
 with_reducible refine P.out.mono ?_
 rintro e1 y8 ⟨rfl,h8⟩;replace hA:=HD (hA.out.up h8);replace hR0:=HD (hR0.out.up h8);replace hB:=HD (hB.out.up h8);replace hbyx:=HD (hbyx.out.up h8);replace hyY:=HD (hyY.out.up h8);replace hb:=HD (hb.out.trans (h8.mono hb.out.size));clear h8 P;have P:=HD (reads_c K hB.out hf.out)
 go_wp2_with fail
 with_reducible refine P.out.mono ?_
 rintro e1 y9 ⟨rfl,h8⟩;replace hA:=HD (hA.out.up h8);replace hR0:=HD (hR0.out.up h8);replace hB:=HD (hB.out.up h8);replace hbyx:=HD (hbyx.out.up h8);replace hyY:=HD (hyY.out.up h8);replace hb:=HD (hb.out.trans (h8.mono hb.out.size));clear h8 P;have PCV:(convert 36 36 (.slice (some ⟨y9.heap.size,0,none⟩) 4 4)).run Tryz.prog (y9.alloc (.cells #[.int .u8 84,.int .u8 87,.int .u8 49,.int .u8 0] 5))=_:=cv_at _ 36 5 _ 4 4 y9.heap.size rfl Tryz.underlying36 Tryz.underlying5;have hmk:=HD ((mark_rb (w:=y9)).byv2 (fun x hx=>by simp only[List.mem_cons,List.not_mem_nil,or_false] at hx;omega));have hmb:=(Below.refl y9.heap.size y9).alloc (Nat.le_refl _) (.cells #[.int .u8 84,.int .u8 87,.int .u8 49,.int .u8 0] 5 (4,5));have hB1:=HD (hB.out.up hmb)
 go_wp2_with (first | (at_builtin;refine wpList_app_full (by rfl) (.tmp 75) (.tmp 76) rfl rfl y9.heap.size 0 4 bv [84,87,49,0] B (by simp[Act.eval]) (by simp[Act.eval]) hmk.out hB1.out (by simp only[List.length_cons,List.length_nil];omega) ?_;intro v10 y10 hby hsl hgr))
 have h9:=hmb.trans (hgr.mono hmb.size);replace hA:=HD (hA.out.up h9);replace hR0:=HD (hR0.out.up h9);replace hB:=HD (hB.out.up h9);replace hbyx:=HD (hbyx.out.up h9);replace hyY:=HD (hyY.out.up h9);replace hb:=HD (hb.out.trans (h9.mono hb.out.size));clear PCV hmk hmb hB1 h9 hgr;have P:=HD (reads_c K hby hsl)
 with_reducible refine P.out.mono ?_
 rintro e1 y11 ⟨rfl,h8⟩;replace hA:=HD (hA.out.up h8);replace hR0:=HD (hR0.out.up h8);replace hB:=HD (hB.out.up h8);replace hbyx:=HD (hbyx.out.up h8);replace hyY:=HD (hyY.out.up h8);replace hb:=HD (hb.out.trans (h8.mono hb.out.size));clear h8 P hby hsl;have hT0:=HD (byv_cap (ByV.take hbyx.out kk (by rw[← hnn.out];omega)))
 go_wp2_with (first | (at_builtin;refine wpList_app_full (by rfl) (.tmp 84) (.tmp 85) rfl rfl g 0 kk bv (X.take kk) B (by simp[Act.eval]) (by simp[Act.eval]) hT0.out hB.out (by rw[List.length_take,← hnn.out];omega) ?_;intro v12 y12 hby hsl hgr))
 replace hA:=HD (hA.out.up hgr);replace hR0:=HD (hR0.out.up hgr);replace hB:=HD (hB.out.up hgr);replace hbyx:=HD (hbyx.out.up hgr);replace hyY:=HD (hyY.out.up hgr);replace hb:=HD (hb.out.trans (hgr.mono hb.out.size));clear hT0 hgr;have P:=HD (reads_c K hby hsl)
 with_reducible refine P.out.mono ?_
 rintro e1 y13 ⟨rfl,h8⟩;replace hA:=HD (hA.out.up h8);replace hR0:=HD (hR0.out.up h8);replace hB:=HD (hB.out.up h8);replace hbyx:=HD (hbyx.out.up h8);replace hyY:=HD (hyY.out.up h8);replace hb:=HD (hb.out.trans (h8.mono hb.out.size));clear h8 P hby hsl;have hD:=HD (ByV.drop hbyx.out kk (by omega));rw[Nat.zero_add] at hD;have hne:¬ gcap=kk:=by omega
 have P:=HD (reads_c K hD.out (Or.inr ⟨_,_,_,_,rfl⟩))
 go_wp2_with fail
 with_reducible refine P.out.mono ?_
 rintro e1 y14 ⟨rfl,h8⟩;replace hA:=HD (hA.out.up h8);replace hR0:=HD (hR0.out.up h8);replace hB:=HD (hB.out.up h8);replace hbyx:=HD (hbyx.out.up h8);replace hyY:=HD (hyY.out.up h8);replace hb:=HD (hb.out.trans (h8.mono hb.out.size));clear h8 P hD
 go_wp2_with fail
 with_reducible refine (PN.out _).mono ?_
 rintro e1 y15 ⟨rfl,h8⟩;replace hA:=HD (hA.out.up h8);replace hR0:=HD (hR0.out.up h8);replace hB:=HD (hB.out.up h8);replace hbyx:=HD (hbyx.out.up h8);replace hyY:=HD (hyY.out.up h8);replace hb:=HD (hb.out.trans (h8.mono hb.out.size));clear h8
 go_wp2
 go_ret;exact⟨rfl,hb.out⟩
end Wd
end Go.Proofs.YtgfnelhbdhbklaaGreat
namespace Go.Proofs.YtgfnelhbdhbklaaGreat
open Go.RowKit
set_option linter.unusedVariables false
set_option maxRecDepth 20000
namespace Wd
structure TN (w:World) (i:Nat) (v:Value) (wr:World) (L:List Int):Prop where
 own:wr.ownsRow w.heap.size 3 1 v i (ints L)
 len:L.length=i
 bd:∀ x∈L,-9223372036854775808≤x∧x≤9223372036854775807
 bel:Below w.heap.size w wr
theorem TN.next {w wr w4:World} {i:Nat} {v v4:Value} {L:List Int} {z:Int} {o:Obj} (h:TN w i v wr L) (ho:w4.ownsRow w.heap.size 3 1 v4 (i+1) (ints L++ints [z])) (hg:(wr.alloc o).grownBy w4 v.ownBlock) (hz:-9223372036854775808≤z∧z≤9223372036854775807):TN w (i+1) v4 w4 (L++[z]):=by
 have hA:Below wr.heap.size wr (wr.alloc o):=(Below.refl _ _).alloc (Nat.le_refl _) _;refine⟨by simpa [ints] using ho,by simp[h.len],fun x hx=>?_,(h.bel.trans (hA.mono h.bel.size)).grown hg (Nat.le_trans h.bel.size hA.size) (fun k e=>(h.own.lt k e).1)⟩;rcases List.mem_append.1 hx with hx | hx
 ·exact h.bd x hx
 ·rw[List.mem_singleton.1 hx];exact hz
end Wd
end Go.Proofs.YtgfnelhbdhbklaaGreat
namespace Go.Proofs.YtgfnelhbdhbklaaGreat
open Go.RowKit
namespace Wd
theorem KR9:RdK:=⟨rread_c⟩
theorem tells_s {w:World} {raw bv:Value} {R:UnitA} {B:List Int} {ad:Option Addr} {n cap:Nat} (HA:NumA w ad n) (hn:n≤4611686018427387904) (what:Int) (hw:In64 what) (at_:Int) (ha:In64 at_) (x:Int) (hx:In64 x) (hR:UnK w raw R) (_hz:(∀ c∈R.classes,c.binds.length≤8796093022208)∧(∀ m∈R.methods,m.lits.length≤8796093022208∧m.code.length≤140737488355328)∧(∀ x∈R.objects,x.flds.length≤8796093022208)∧(∀ x∈R.names,x.size≤140737488355328)∧∀ x∈R.classes,x.nm.size≤140737488355328)
  (hB:ByV w bv B) (hf:SlF bv) (hl:B.length≤140737488351232) (tn:Int) (t1:0≤tn) (t2:tn≤255) :
  Calls Tryz.prog 4 #[.slice ad n cap,.int .i64 what,.int .i64 at_,.int .i64 x,raw,bv,.int .u8 tn] w fun e w'=>e=.returned (.bool true)∧Below w.heap.size w w':=itells_any KR9 HA hn what at_ x hw ha hx hR hB hf hl tn t1 t2
end Wd
end Go.Proofs.YtgfnelhbdhbklaaGreat
