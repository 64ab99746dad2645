/- Texts joined: OMeth, USU, SLaw, QBase, QCls. -/
import Derived.Test.YteiejjmhmmkdhaaGreatJ8
import Derived.Test.YteiejjmhmmkdhaaGreatJ9
import Derived.Deep.DeepCutAuto
/- The document's own instructions: is a method right? -/
namespace Go.Proofs.YteiejjmhmmkdhaaGreat
open Go.RowKit
set_option linter.unusedVariables false
set_option maxRecDepth 20000
namespace Wd
structure UnB (w:World) (q:Nat) (u:Value) (U:UnitA) (na ka ma oa:Option Addr) (nc kc mc oc:Nat):Prop where
 e:u=.agg #[.slice na U.names.length nc,.slice ka U.classes.length kc,.slice ma U.methods.length mc,.slice oa U.objects.length oc,.int .i64 U.main]
 c0:w.cell? ⟨q,0,none⟩=some (.slice na U.names.length nc)
 c1:w.cell? ⟨q,1,none⟩=some (.slice ka U.classes.length kc)
 c2:w.cell? ⟨q,2,none⟩=some (.slice ma U.methods.length mc)
 c3:w.cell? ⟨q,3,none⟩=some (.slice oa U.objects.length oc)
 c4:w.cell? ⟨q,4,none⟩=some (.int .i64 U.main)
 un:UnK w u U
theorem UnB.born {w:World} {U:UnitA} {na ka ma oa:Option Addr} {nc kc mc oc:Nat} (h:UnK w (.agg #[.slice na U.names.length nc,.slice ka U.classes.length kc,.slice ma U.methods.length mc,.slice oa U.objects.length oc,.int .i64 U.main]) U):UnB (w.alloc (.cells #[.slice na U.names.length nc,.slice ka U.classes.length kc,.slice ma U.methods.length mc,.slice oa U.objects.length oc,.int .i64 U.main] 32)) w.heap.size (.agg #[.slice na U.names.length nc,.slice ka U.classes.length kc,.slice ma U.methods.length mc,.slice oa U.objects.length oc,.int .i64 U.main]) U na ka ma oa nc kc mc oc :=
 ⟨rfl,by simp,by simp,by simp,by simp,by simp,h.up ((Below.refl _ _).alloc (Nat.le_refl _) _)⟩
theorem UnB.up {w w1:World} {q:Nat} {u:Value} {U:UnitA} {na ka ma oa:Option Addr} {nc kc mc oc:Nat} (h:UnB w q u U na ka ma oa nc kc mc oc) (b:Below w.heap.size w w1):UnB w1 q u U na ka ma oa nc kc mc oc :=
 ⟨h.e,cell_up b h.c0,cell_up b h.c1,cell_up b h.c2,cell_up b h.c3,cell_up b h.c4,h.un.up b⟩
def metT (m:MethA) (nn nc nm:Nat):Int:=if m.lits.all (fun x=>litR x nn nc nm)=false then 12 else if insF m (m.code.length / 2) 0=false then 12 else 0
theorem met_long {m:MethA} {nn nc nm:Nat} (h:m.code.length > 128∨m.lits.length > 16∨m.args < 0∨m.temps < 0∨m.args > 8∨m.temps > 8 - m.args):metR m nn nc nm=3:=if_pos h
theorem met_len {m:MethA} {nn nc nm:Nat} (h:¬ (m.code.length > 128∨m.lits.length > 16∨m.args < 0∨m.temps < 0∨m.args > 8∨m.temps > 8 - m.args)) (h2:m.code.length < 2∨m.code.length % 2≠0):metR m nn nc nm=12:=by
 unfold metR;rw [if_neg h,if_pos h2]
theorem met_last {m:MethA} {nn nc nm:Nat} (h:¬ (m.code.length > 128∨m.lits.length > 16∨m.args < 0∨m.temps < 0∨m.args > 8∨m.temps > 8 - m.args)) (h2:¬ (m.code.length < 2∨m.code.length % 2≠0)) (h3:byAt m.code (m.code.length - 2)≠14∧byAt m.code (m.code.length - 2)≠19∧byAt m.code (m.code.length - 2)≠16):metR m nn nc nm=12:=by
 unfold metR;rw [if_neg h,if_neg h2,if_pos h3]
theorem met_t {m:MethA} {nn nc nm:Nat} (h:¬ (m.code.length > 128∨m.lits.length > 16∨m.args < 0∨m.temps < 0∨m.args > 8∨m.temps > 8 - m.args)) (h2:¬ (m.code.length < 2∨m.code.length % 2≠0)) (h3:¬ (byAt m.code (m.code.length - 2)≠14∧byAt m.code (m.code.length - 2)≠19∧byAt m.code (m.code.length - 2)≠16)):metR m nn nc nm=metT m nn nc nm:=by
 unfold metR;rw [if_neg h,if_neg h2,if_neg h3];rfl
theorem metT_lit {m:MethA} {nn nc nm:Nat} (h:m.lits.all (fun x=>litR x nn nc nm)=false):metT m nn nc nm=12:=if_pos h
theorem metT_ins {m:MethA} {nn nc nm:Nat} (h:m.lits.all (fun x=>litR x nn nc nm)=true) (h2:insF m (m.code.length / 2) 0=false):metT m nn nc nm=12:=by
 unfold metT;rw [if_neg (by rw [h];decide),if_pos h2]
theorem metT_ok {m:MethA} {nn nc nm:Nat} (h:m.lits.all (fun x=>litR x nn nc nm)=true) (h2:insF m (m.code.length / 2) 0=true):metT m nn nc nm=0:=by
 unfold metT;rw [if_neg (by rw [h];decide),if_neg (by rw [h2];decide)]
theorem all_next {α:Type} {L:List α} {f:α→Bool} {k:Nat} {x:α} (h:L[k]?=some x):(L.drop k).all f=(f x && (L.drop (k+1)).all f):=by
 obtain⟨hk,e⟩:=List.getElem?_eq_some_iff.1 h
 rw [← e,List.drop_eq_getElem_cons hk,List.all_cons]
theorem ins_next {m:MethA} {N j:Nat} (h:j < N):insF m (N - j) (2*j)=(insR m ((2*j:Nat):Int) (byAt m.code (2*j)) (byAt m.code (2*j+1)) && insF m (N - (j+1)) (2*(j+1))):=by
 rw [show N - j=(N - (j+1))+1 by omega,insF,show 2*j+2=2*(j+1) by omega]
structure MSt (w0 wr:World) (q q2:Nat) (v u:Value) (m:MethA) (U:UnitA) (la ca na ka ma oa:Option Addr) (lc cc nc kc mc oc:Nat):Prop where
 b:MeB wr q v m la ca lc cc
 u:UnB wr q2 u U na ka ma oa nc kc mc oc
 bel:Below w0.heap.size w0 wr
theorem MSt.up {w0 w w1:World} {q q2:Nat} {v u:Value} {m:MethA} {U:UnitA} {la ca na ka ma oa:Option Addr} {lc cc nc kc mc oc:Nat} (h:MSt w0 w q q2 v u m U la ca na ka ma oa lc cc nc kc mc oc) (b:Below w.heap.size w w1):MSt w0 w1 q q2 v u m U la ca na ka ma oa lc cc nc kc mc oc :=
 ⟨h.b.up b,h.u.up b,h.bel.trans (b.mono h.bel.size)⟩
end Wd
end Go.Proofs.YteiejjmhmmkdhaaGreat

/- Is a program right? (the document's own) -/
namespace Go.Proofs.YteiejjmhmmkdhaaGreat
open Go.RowKit
set_option linter.unusedVariables false
set_option maxRecDepth 20000
namespace Wd
def firstE:List Int→Int
 | []=>0
 | e :: L=>if e=0 then firstE L else e
def eBinds (B:List (Int × Int)):Int:=if (ofD B D0).isSome=true then 0 else 14
def nmAt (L:List ByteArray) (i:Int):ByteArray:=L.getD i.toNat ⟨#[]⟩
def agAt (L:List MethA) (i:Int):Int:=match L[i.toNat]? with
 | some x=>x.args
 | none=>0
def eArg (U:UnitA) (b:Int × Int):Int:=if argsR (nmAt U.names b.1)=agAt U.methods b.2 then 0 else 15
def eArgs (U:UnitA):List ClassA→List Int
 | []=>[]
 | c :: C=>c.binds.map (eArg U)++eArgs U C
def longB (U:UnitA):Bool:=decide (48 < U.names.length) || (decide (U.methods.length < 1) || (decide (32 < U.methods.length) || (decide (U.objects.length < 1) || decide (40 < U.objects.length))))
def mainE (U:UnitA):Int:=if 0≤U.main∧U.main < (U.methods.length:Int)∧agAt U.methods U.main=0 then 0 else 15
def restO (U:UnitA) (k:Nat):List Int:=(U.objects.drop k).map (fun x=>if objB x U.classes U.objects.length=true then (0:Int) else 16)++[mainE U]
def restA (U:UnitA) (k:Nat):List Int:=eArgs U (U.classes.drop k)++restO U 0
def restM (U:UnitA) (k:Nat):List Int:=(U.methods.drop k).map (fun m=>metR m U.names.length U.classes.length U.methods.length)++restA U 0
def restC (U:UnitA) (k:Nat):List Int:=(U.classes.drop k).map (fun c=>eBinds c.binds)++restM U 0
def unitR (U:UnitA):Int:=firstE ((if longB U=true then (3:Int) else 0) :: (if namesB U.names=true then (0:Int) else 13) :: shapeR U.classes U.names.length U.methods.length :: restC U 0)
structure StU (U:UnitA) (X:List Int):Prop where
 mk ::
 eq:unitR U=firstE X
theorem StU.ok {U:UnitA} {X:List Int} {e:Int} (h:StU U (e :: X)) (he:e=0):StU U X:=⟨by rw [h.eq,firstE,if_pos he]⟩
theorem StU.bad {U:UnitA} {X:List Int} {e:Int} (h:StU U (e :: X)) (he:¬ e=0):unitR U=e:=by rw [h.eq,firstE,if_neg he]
theorem StU.start (U:UnitA):StU U ((if longB U=true then (3:Int) else 0) :: (if namesB U.names=true then (0:Int) else 13) :: shapeR U.classes U.names.length U.methods.length :: restC U 0):=⟨rfl⟩
theorem drop_all {T:Type} {L:List T} {k:Nat} (h:k=L.length):L.drop k=[]:=by subst h;exact List.drop_length
theorem from_binds {L:List ClassA} {names methods:Int}:∀ (C:List ClassA) (i:Nat),shapeFrom L names methods i C=0→∀ c∈C,bindsOk c.binds names methods=true
 | [],_,_,c,h=>by cases h
 | d :: C,i,e,c,h=>by
  rw [shapeFrom] at e
  split at e
  ·cases e
  ·split at e
   ·cases e
   ·split at e
    ·cases e
    ·split at e
     ·cases e
     ·rename_i hb
      rcases List.mem_cons.1 h with rfl | h
      ·simpa using hb
      ·exact from_binds C (i+1) e c h
theorem shape_binds {L:List ClassA} {names methods:Int} (e:shapeR L names methods=0) {k:Nat} {c:ClassA} (hc:L[k]?=some c) {j:Nat} {b:Int × Int} (hb:c.binds[j]?=some b):0≤b.1∧b.1 < names∧0≤b.2∧b.2 < methods:=by
 unfold shapeR at e
 split at e
 ·cases e
 ·split at e
  ·cases e
  ·have h1:=from_binds L 0 e c (List.mem_of_getElem? hc)
   unfold bindsOk at h1
   simp only [Bool.and_eq_true,List.all_eq_true] at h1
   have h2:=h1.1.1 b (List.mem_of_getElem? hb)
   unfold bindOk at h2
   simp only [Bool.and_eq_true,decide_eq_true_iff] at h2
   omega
theorem eBinds_14 {B:List (Int × Int)} (e:¬ eBinds B=0):eBinds B=14:=by
 unfold eBinds at e ⊢
 split
 ·rename_i h;rw [if_pos h] at e;exact absurd rfl e
 ·rfl
structure V1 (w wr:World) (U:UnitA) (na:Option Addr) (nc:Nat) (ca:Option Addr) (cc:Nat) (ma:Option Addr) (mc:Nat) (oa:Option Addr) (oc:Nat) (l1 l2 l3 l4:Nat):Prop where
 mk ::
 cells:wr.cell? ⟨w.heap.size,0,none⟩=some (.slice na l1 nc)∧wr.cell? ⟨w.heap.size,1,none⟩=some (.slice ca l2 cc)∧wr.cell? ⟨w.heap.size,2,none⟩=some (.slice ma l3 mc)∧wr.cell? ⟨w.heap.size,3,none⟩=some (.slice oa l4 oc)∧wr.cell? ⟨w.heap.size,4,none⟩=some (.int .i64 U.main)
 views:NmV wr (.slice na l1 nc) U.names∧ClV wr (.slice ca l2 cc) U.classes∧MtV wr (.slice ma l3 mc) U.methods∧ObV wr (.slice oa l4 oc) U.objects
 lens:l1=U.names.length∧l2=U.classes.length∧l3=U.methods.length∧l4=U.objects.length
 les:l1≤maxLen∧l2≤maxLen∧l3≤maxLen∧l4≤maxLen
 caps:l1≤nc∧l2≤cc∧l3≤mc∧l4≤oc
 bel:Below w.heap.size w wr
section
variable {w wr w2:World} {U:UnitA} {na ca ma oa:Option Addr} {nc cc mc oc l1 l2 l3 l4:Nat}
theorem V1.up (h:V1 w wr U na nc ca cc ma mc oa oc l1 l2 l3 l4) (b:Below wr.heap.size wr w2):V1 w w2 U na nc ca cc ma mc oa oc l1 l2 l3 l4:=by
 obtain⟨a0,a1,a2,a3,a4⟩:=h.cells
 obtain⟨v0,v1,v2,v3⟩:=h.views
 exact⟨⟨cell_up b a0,cell_up b a1,cell_up b a2,cell_up b a3,cell_up b a4⟩,⟨v0.up b,v1.up b,v2.up b,v3.up b⟩,h.lens,h.les,h.caps,h.bel.trans (b.mono h.bel.size)⟩
theorem V1.drew (h:V1 w wr U na nc ca cc ma mc oa oc l1 l2 l3 l4):V1 w wr.drew U na nc ca cc ma mc oa oc l1 l2 l3 l4:=h.up ((Below.refl _ _).drew)
theorem V1.unk (h:V1 w wr U na nc ca cc ma mc oa oc l1 l2 l3 l4):UnK wr (.agg #[.slice na l1 nc,.slice ca l2 cc,.slice ma l3 mc,.slice oa l4 oc,.int .i64 U.main]) U:=by
 obtain⟨v0,v1,v2,v3⟩:=h.views
 obtain⟨e1,e2,e3,e4⟩:=h.lens
 subst e1;subst e2;subst e3;subst e4
 exact⟨⟨na,nc,ca,cc,ma,mc,oa,oc,rfl,⟨v0,v1,v2,v3⟩⟩⟩
end
end Wd
end Go.Proofs.YteiejjmhmmkdhaaGreat

/- What the laws ask of the package's judgement of classes. -/
namespace Go.Proofs.YteiejjmhmmkdhaaGreat
open Go.RowKit
set_option linter.unusedVariables false
set_option maxRecDepth 20000
namespace Wd
theorem SL.up {w w':World} {e:TypeId} {v:Value} {L:List Int} (h:SL w e v L) (b:Below w.heap.size w w'):SL w' e v L:=SL.keep h b
theorem SL.at {w:World} {e:TypeId} {a:Option Addr} {n c:Nat} {L:List Int} (h:SL w e (.slice a n c) L) {k:Nat} {x:Int} (hx:L[k]?=some x):∃ g,a=some ⟨g,0,none⟩∧w.cell? ⟨g,k,none⟩=some (.int .i64 x):=by
 have hk:=(List.getElem?_eq_some_iff.1 hx).1
 rcases h.cases with ⟨e1,e2⟩ | ⟨g,cap,e1,_,_,_,ho⟩
 ·subst e2;simp at hx
 ·cases e1
  exact⟨g,rfl,row_cell ho hx⟩
end Wd
end Go.Proofs.YteiejjmhmmkdhaaGreat

/- The landed package's chains. -/
namespace Go.Proofs.YteiejjmhmmkdhaaGreat
open Go.RowKit
set_option linter.unusedVariables false
set_option maxRecDepth 20000
namespace Wd
theorem isc_y (ad:Option Addr) (n cap:Nat) (i:Int) (h0:0≤i) (h1:i < n) (w:World) :
  Calls Tryz.prog 108 #[.slice ad n cap,.int .i64 i] w fun e w'=>e=.returned (.bool true)∧w'=w:=by
 have h0':decide (i ≥ 0)=true:=by simpa using h0
 have h1':decide (i < (n:Int))=true:=by simpa using h1
 go_enter Tryz.func108,Tryz.ntmps108
 go_wp2
 go_ret
 exact⟨rfl,rfl⟩
theorem isc_n (ad:Option Addr) (n cap:Nat) (i:Int) (h:i < 0∨(n:Int)≤i) (w:World) :
  Calls Tryz.prog 108 #[.slice ad n cap,.int .i64 i] w fun e w'=>e=.returned (.bool false)∧w'=w:=by
 by_cases h0:0≤i
 ·have h0':decide (i ≥ 0)=true:=by simpa using h0
  have h1':decide (i < (n:Int))=false:=by simp;omega
  go_enter Tryz.func108,Tryz.ntmps108
  go_wp2
  go_ret
  exact⟨rfl,rfl⟩
 ·have h0':decide (i ≥ 0)=false:=by simp;omega
  go_enter Tryz.func108,Tryz.ntmps108
  go_wp2
  go_ret
  exact⟨rfl,rfl⟩
set_option maxHeartbeats 16000000 in
theorem kchain {w:World} {v:Value} {L:List ClassA} (h:ClV w v L) (i:Int) (hi:In64 i) :
  Calls Tryz.prog 116 #[v,.int .i64 i] w fun e w'=>∃ v',e=.returned v'∧SL w' 3 v' (chain L i)∧Below w.heap.size w w':=by
 obtain⟨i0,hi0,hz0,hz1,hz2⟩:=info_parts info3
 have hmx:100000≤maxLen:=by decide
 obtain⟨ad,cap,rfl,hcap,hm⟩:=h.form
 obtain⟨n,hn⟩:∃ n,n=L.length:=⟨_,rfl⟩
 rw [← hn] at h hcap ⊢
 replace h:=Lib.hid h
 have hn':=Lib.hid hn
 have hnm:n≤maxLen:=by omega
 have hst:Hid (ChR w w L i i (.slice none 0 0) 0 []):=Lib.hid ⟨World.ownsRow_nil _ _ _ _,by simp,by simp,by simp [chain],Below.refl _ _,hi⟩
 clear hcap hm hi hn
 go_enter Tryz.func116,Tryz.ntmps116
 go_wp2
 go_loopw [1,5] (fun i1 v5 wr=>∃ (j:Int) (C:List Int) (a:Option Addr) (m c:Nat),i1=.int .i64 j∧v5=.slice a m c∧Hid (ChR w wr L i j (.slice a m c) m C)) (fun i1 v5 _=>match v5 with | .slice _ m _=>8 - m | _=>0)
 case atStart=>exact⟨i,[],none,0,0,rfl,rfl,hst⟩
 case round =>
  obtain⟨j,C,a,m,c,rfl,rfl,hR⟩:=hrel
  have hle:m≤8:=hR.out.le
  obtain⟨b0,b1⟩:=hR.out.ij
  by_cases h0:0≤j∧j < n
  ·obtain⟨h0,h1⟩:=h0
   have PI:=Lib.hid (isc_y ad n cap j h0 h1)
   by_cases h2:m < 8
   ·obtain⟨k,rfl⟩:∃ k:Nat,j=k:=⟨j.toNat,by omega⟩
    obtain⟨x,hx⟩:∃ x,L[k]?=some x:=⟨L[k]'(by have:=hn'.out;omega),by simp⟩
    obtain⟨s0,s1,g,off,bv,rfl,c0,c1,c2,c3,_⟩:=h.out.at hx
    have hx':=Lib.hid hx
    have h2':decide (((m:Nat):Int) < 8)=true:=by simp;omega
    have hown:=Lib.hid hR.out.own
    have hsz:Hid (w.heap.size≤wr.heap.size):=Lib.hid hR.out.bel.size
    have hk1:=Lib.hid c1
    have hs0:=Lib.hid s0
    clear c0 c1 c2 c3 s1 hx s0
    go_wp2_with (first | (go_at_call 108;((with_reducible refine (PI.out _).mono ?_);rintro e1 w2 ⟨rfl,hw2⟩;subst w2)) | (at_builtin;refine wpList_append_lies _ rfl (.tmp 14) (.tmp 16) 34 rfl w.heap.size 3 i0 (.int .i64 0) 1 8 Tryz.underlying34 hi0 hz0 hz1 hz2 rfl (by decide) _ m _ (by simp [Act.eval]) (hown.out.alloc _) ⟨wr.heap.size,0,none⟩ 1 1 (ints [(k:Int)]) (by simp [Act.eval]) (by simp) (one_at ((World.cell?_alloc_new _ _ _ 0).trans rfl)) (ints_one _) (by omega) (by omega) (by omega) (by have:=hsz.out;simp;omega) _ rfl ?_;intro g1 cap1 w1 hown1 hgrow1 hat1 hlt1;have hR1:=Lib.hid (hR.out.more hx'.out h2 rfl hown1 hgrow1 hs0.out);have hc1:=cell_up hR1.out.bel hk1.out;clear hgrow1 hat1 hlt1 hown1))
    go_roundw
    case rel=>exact⟨_,_,_,_,_,rfl,rfl,hR1⟩
    case measure=>simp;omega
   ·have h2':decide (((m:Nat):Int) < 8)=false:=by simp;omega
    have he:chainR L j (8 - m)=[]:=by rw [show 8 - m=0 by omega];rfl
    have hf:=Lib.hid (hR.out.last he)
    clear he
    go_wp2_with (first | (go_at_call 108;((with_reducible refine (PI.out _).mono ?_);rintro e1 w2 ⟨rfl,hw2⟩;subst w2)))
    go_ret
    exact⟨_,rfl,hf.out,hR.out.bel⟩
  ·have PI:=Lib.hid (isc_n ad n cap j (by omega))
   have he:chainR L j (8 - m)=[]:=by
    rcases (show j < 0∨(L.length:Int)≤j by have:=hn'.out;omega) with h | h
    ·exact chainR_neg _ h
    ·exact chainR_over _ h
   have hf:=Lib.hid (hR.out.last he)
   clear he
   go_wp2_with (first | (go_at_call 108;((with_reducible refine (PI.out _).mono ?_);rintro e1 w2 ⟨rfl,hw2⟩;subst w2)))
   go_ret
   exact⟨_,rfl,hf.out,hR.out.bel⟩
theorem kdepth {w:World} {v:Value} {L:List ClassA} (h:ClV w v L) (i:Int) (hi:In64 i) :
  Calls Tryz.prog 109 #[v,.int .i64 i] w fun e w'=>e=.returned (.int .i64 ((chain L i).length:Nat))∧Below w.heap.size w w':=by
 have P:=kchain h i hi
 generalize chain L i=C at *
 go_enter Tryz.func109,Tryz.ntmps109
 go_wp2_with fail
 refine P.mono ?_
 clear P
 rintro e w1 ⟨v1,rfl,hS,hB⟩
 obtain⟨a,c,rfl⟩:=hS.form
 obtain⟨n,hn⟩:∃ n,n=C.length:=⟨_,rfl⟩
 have hn':=Lib.hid hn
 rw [← hn]
 clear hS h hi hn
 go_wp2
 go_ret
 exact⟨by rw [← hn'.out];rfl,hB⟩
end Wd
end Go.Proofs.YteiejjmhmmkdhaaGreat

/- The landed package's judgement of one class. -/
namespace Go.Proofs.YteiejjmhmmkdhaaGreat
open Go.RowKit
set_option linter.unusedVariables false
set_option maxRecDepth 20000
namespace Wd
def nameR (A:List ClassA) (nm:ByteArray):Bool:=textOk nm && !(A.any (fun x=>decide (x.nm=nm)))
def supR (A:List ClassA) (s f:Int):Bool:=decide (0≤f) && decide (f≤62) && (decide (s=-1) || (decide (0≤s) && decide (s < A.length) && decide ((chain A s).length < 8) && decide (superF A s≤f)))
theorem chain_deepQ {L:List ClassA} {k:Nat} (hD:Down L k) (hk:k≤L.length):∀ (f g:Nat) (s:Int),s < k→s < g→(chainR (L.take k) s f).length=min f (deep L g s)
 | 0,_,_,_,_=>by simp [chainR]
 | f+1,g,s,h1,h2=>by
  by_cases h0:s < 0
  ·rw [chainR_neg _ h0,deep_neg _ h0];simp
  ·obtain⟨j,rfl⟩:∃ j:Nat,s=j:=⟨s.toNat,by omega⟩
   obtain⟨g',rfl⟩:∃ g',g=g'+1:=⟨g - 1,by omega⟩
   have hx:L[j]?=some (L[j]'(by omega)):=by simp
   generalize L[j]'(by omega)=x at hx
   have hy:(L.take k)[j]?=some x:=by rw [List.getElem?_take,if_pos (by omega)];exact hx
   obtain⟨d1,d2⟩:=hD j x (by omega) hx
   rw [chainR_on hy,deep_on hx,List.length_cons,chain_deepQ hD hk f g' x.super (by omega) (by omega)]
   omega
theorem sup_eq {L:List ClassA} {k:Nat} {c:ClassA} (hD:Down L k) (hk:k≤L.length):classOk L k c=supR (L.take k) c.super c.fields:=by
 have hl:(L.take k).length=k:=by rw [List.length_take];omega
 unfold classOk supR
 rw [hl]
 by_cases h1:c.super < -1
 ·rw [decide_eq_false (p:=-1≤c.super) (by omega),decide_eq_false (p:=c.super=-1) (by omega),decide_eq_false (p:=0≤c.super) (by omega)]
  simp
 by_cases h2:(k:Int)≤c.super
 ·rw [decide_eq_false (p:=c.super < k) (by omega),decide_eq_false (p:=c.super=-1) (by omega)]
  simp
 rw [decide_eq_true (p:=-1≤c.super) (by omega),decide_eq_true (p:=c.super < k) (by omega)]
 by_cases h3:c.super=-1
 ·rw [decide_eq_true h3,h3,deep_neg _ (by omega),decide_eq_true (p:=(-1:Int) < 0) (by omega)]
  simp
 ·have hd:=chain_deepQ hD hk 8 (k+1) c.super (by omega) (by omega)
  have e1:decide ((chain (L.take k) c.super).length < 8)=decide (deep L (k+1) c.super+1≤8):=by
   rw [decide_eq_decide];unfold chain;omega
  have e2:superF (L.take k) c.super=superF L c.super:=by
   unfold superF
   rw [List.getElem?_take,if_pos (by omega)]
  rw [e1,e2,decide_eq_false h3,decide_eq_true (p:=0≤c.super) (by omega),decide_eq_false (p:=c.super < 0) (by omega)]
  simp [Bool.and_assoc]
theorem isroot_c (nm:ByteArray) (s f:Int) (bv:Value) (x:Int) (w:World) (b:Bool) (hb:b=(decide (s=-1) && decide (f=x))) :
  Calls Tryz.prog 92 #[.agg #[.string nm,.int .i64 s,.int .i64 f,bv],.int .i64 x] w fun e w'=>e=.returned (.bool b)∧Below w.heap.size w w':=by
 have hB:=Lib.hid ((Below.refl w.heap.size w).alloc (Nat.le_refl _) (.cells #[.string nm,.int .i64 s,.int .i64 f,bv] 72))
 by_cases h1:s=-1
 ·have h1':(s == -1)=true:=by simpa using h1
  by_cases h2:f=x
  ·have h2':(f == x)=true:=by simpa using h2
   rw [decide_eq_true h1,decide_eq_true h2] at hb
   subst hb
   clear h1 h2
   go_enter Tryz.func92,Tryz.ntmps92
   go_wp2
   go_ret
   exact⟨rfl,hB.out⟩
  ·have h2':(f == x)=false:=by simpa using h2
   rw [decide_eq_true h1,decide_eq_false h2] at hb
   subst hb
   clear h1 h2
   go_enter Tryz.func92,Tryz.ntmps92
   go_wp2
   go_ret
   exact⟨rfl,hB.out⟩
 ·have h1':(s == -1)=false:=by simpa using h1
  rw [decide_eq_false h1] at hb
  subst hb
  clear h1
  go_enter Tryz.func92,Tryz.ntmps92
  go_wp2
  go_ret
  exact⟨rfl,hB.out⟩
theorem name_over {A:List ClassA} {nm:ByteArray} (h:nm.size < 1∨16 < nm.size):nameR A nm=false:=by
 unfold nameR textOk
 rcases h with h | h
 ·rw [decide_eq_false (p:=1≤nm.size) (by omega)];rfl
 ·rw [decide_eq_false (p:=nm.size≤16) (by omega)];simp
theorem name_twice {A:List ClassA} {nm:ByteArray} {j:Nat} {x:ClassA} (h:A[j]?=some x) (e:x.nm=nm):nameR A nm=false:=by
 have:A.any (fun x=>decide (x.nm=nm))=true:=List.any_eq_true.2 ⟨x,List.mem_of_getElem? h,by simpa using e⟩
 unfold nameR;rw [this];simp
theorem name_once {A:List ClassA} {nm:ByteArray} (h1:1≤nm.size) (h2:nm.size≤16) (h:∀ x∈A,x.nm≠nm):nameR A nm=true:=by
 have:A.any (fun x=>decide (x.nm=nm))=false:=by
  rw [Bool.eq_false_iff]
  intro ha
  obtain⟨x,hx,e⟩:=List.any_eq_true.1 ha
  exact h x hx (by simpa using e)
 unfold nameR textOk
 rw [this,decide_eq_true h1,decide_eq_true h2];rfl
set_option maxHeartbeats 8000000 in
theorem kname {w:World} {v:Value} {A:List ClassA} (h:ClV w v A) (nm:ByteArray) :
  Calls Tryz.prog 93 #[v,.string nm] w fun e w'=>e=.returned (.bool (nameR A nm))∧Below w.heap.size w w':=by
 obtain⟨ad,cap,rfl,hcap,hmx⟩:=h.form
 obtain⟨n,hn⟩:∃ n,n=A.length:=⟨_,rfl⟩
 rw [← hn] at h hcap ⊢
 replace h:=Lib.hid h
 have hn':=Lib.hid hn
 have hnm:n≤9223372036854775807:=by have:maxLen≤9223372036854775807:=by decide
                                    omega
 clear hmx hn
 by_cases q0:nm.size < 1
 ·have e:=Lib.hid (name_over (A:=A) (Or.inl q0))
  have q0':decide ((nm.size:Int) < 1)=true:=by simp;omega
  go_enter Tryz.func93,Tryz.ntmps93
  go_wp2
  go_ret
  exact⟨congrArg (fun b=>Ending.returned (Value.bool b)) e.out.symm,Below.refl _ _⟩
 have q0':decide ((nm.size:Int) < 1)=false:=by simp;omega
 by_cases q1:16 < nm.size
 ·have e:=Lib.hid (name_over (A:=A) (Or.inr q1))
  have q1':decide ((nm.size:Int) > 16)=true:=by simp;omega
  go_enter Tryz.func93,Tryz.ntmps93
  go_wp2
  go_ret
  exact⟨congrArg (fun b=>Ending.returned (Value.bool b)) e.out.symm,Below.refl _ _⟩
 have q1':decide ((nm.size:Int) > 16)=false:=by simp;omega
 have hsz:=Lib.hid (show 1≤nm.size∧nm.size≤16 by omega)
 have hst:Hid (∀ x∈A.take 0,x.nm≠nm):=Lib.hid (by simp)
 go_enter Tryz.func93,Tryz.ntmps93
 go_wp2
 go_loopw [17] (fun i17 wr=>∃ (j:Nat),j≤n∧i17=.int .i64 j∧Hid (∀ x∈A.take j,x.nm≠nm)∧Hid (Below w.heap.size w wr)) (fun i17 _=>n - (intOf i17).toNat)
 case atStart=>exact⟨0,by omega,rfl,hst,Lib.hid (Below.refl _ _)⟩
 case round =>
  obtain⟨j,hj,rfl,hD,hB⟩:=hrel
  by_cases hlt:j < n
  ·have hlt':decide ((j:Int) < (n:Int))=true:=by simp;omega
   have p0:(0:Int)≤(j:Int):=by omega
   have p1:(j:Int) < (n:Int):=by omega
   obtain⟨⟨xn,xs,xf,xb⟩,hx⟩:∃ x,A[j]?=some x:=⟨A[j]'(by have:=hn'.out;omega),by simp⟩
   obtain⟨_,_,g',off',xv,rfl,d0,d1,d2,d3,xbv⟩:=(h.out.up hB.out).at hx
   obtain⟨xa,xc,rfl,_⟩:=xbv.form
   simp only at d0 d1 d2 d3 xbv
   generalize xb.length=xm at *
   have hx':=Lib.hid hx
   clear hx xbv
   by_cases he:xn=nm
   ·have e:=Lib.hid (name_twice hx'.out he)
    have he':(xn.toList == nm.toList)=true:=bl_eq he
    clear he
    go_wp2
    go_ret
    exact⟨congrArg (fun b=>Ending.returned (Value.bool b)) e.out.symm,hB.out.alloc hB.out.size _⟩
   ·have he':(xn.toList == nm.toList)=false:=bl_ne he
    have hD':Hid (∀ x∈A.take (j+1),x.nm≠nm):=Lib.hid (fun x hx=>by
     rw [take_next hx'.out] at hx
     rcases List.mem_append.1 hx with hx | hx
     ·exact hD.out x hx
     ·rw [List.mem_singleton.1 hx];exact he)
    go_wp2
    go_roundw
    case rel=>exact⟨j+1,by omega,by go_num,hD',Lib.hid (hB.out.alloc hB.out.size _)⟩
    case measure=>simp [intOf];omega
  ·have hlt':decide ((j:Int) < (n:Int))=false:=by simp;omega
   have e:=Lib.hid (name_once (A:=A) hsz.out.1 hsz.out.2 (by have:=hD.out;rw [show j=A.length by have:=hn'.out;omega,List.take_length] at this;exact this))
   go_wp2
   go_ret
   exact⟨congrArg (fun b=>Ending.returned (Value.bool b)) e.out.symm,hB.out⟩
theorem sup_f {A:List ClassA} {s f:Int} (h:f < 0∨62 < f):supR A s f=false:=by
 unfold supR
 rcases h with h | h
 ·rw [decide_eq_false (p:=0≤f) (by omega)];rfl
 ·rw [decide_eq_false (p:=f≤62) (by omega)];simp
theorem sup_n {A:List ClassA} {s f:Int} (h1:0≤f) (h2:f≤62) (h:s=-1):supR A s f=true:=by
 unfold supR;rw [decide_eq_true h1,decide_eq_true h2,decide_eq_true h];rfl
theorem sup_o {A:List ClassA} {s f:Int} (h:¬ s=-1) (h':s < 0∨(A.length:Int)≤s):supR A s f=false:=by
 unfold supR
 rw [decide_eq_false h]
 rcases h' with h | h
 ·rw [decide_eq_false (p:=0≤s) (by omega)];simp
 ·rw [decide_eq_false (p:=s < A.length) (by omega)];simp
theorem sup_i {A:List ClassA} {s f:Int} (h1:0≤f) (h2:f≤62) (h3:0≤s) (h4:s < A.length):supR A s f=(decide ((chain A s).length < 8) && decide (superF A s≤f)):=by
 unfold supR;rw [decide_eq_true h1,decide_eq_true h2,decide_eq_true h3,decide_eq_true h4,decide_eq_false (p:=s=-1) (by omega)];rfl
set_option maxHeartbeats 16000000 in
theorem ksuper {w:World} {v:Value} {A:List ClassA} (h:ClV w v A) (nm:ByteArray) (s f:Int) (bv:Value) (hs:In64 s) (hf:In64 f) :
  Calls Tryz.prog 94 #[v,.agg #[.string nm,.int .i64 s,.int .i64 f,bv]] w fun e w'=>e=.returned (.bool (supR A s f))∧Below w.heap.size w w':=by
 obtain⟨ad,cap,rfl,hcap,hmx⟩:=h.form
 obtain⟨n,hn⟩:∃ n,n=A.length:=⟨_,rfl⟩
 rw [← hn] at h hcap ⊢
 replace h:=Lib.hid h
 have hn':=Lib.hid hn
 have hB:=Lib.hid ((Below.refl w.heap.size w).alloc (Nat.le_refl _) (.cells #[.string nm,.int .i64 s,.int .i64 f,bv] 72))
 obtain⟨f0,f1⟩:=hf
 clear hmx hn
 by_cases q0:f < 0
 ·have e:=Lib.hid (sup_f (A:=A) (s:=s) (Or.inl q0))
  have q0':decide (f < 0)=true:=by simpa using q0
  go_enter Tryz.func94,Tryz.ntmps94
  go_wp2
  go_ret
  exact⟨congrArg (fun b=>Ending.returned (Value.bool b)) e.out.symm,hB.out⟩
 have q0':decide (f < 0)=false:=by simpa using q0
 by_cases q1:62 < f
 ·have e:=Lib.hid (sup_f (A:=A) (s:=s) (Or.inr q1))
  have q1':decide (f > 62)=true:=by simpa using q1
  go_enter Tryz.func94,Tryz.ntmps94
  go_wp2
  go_ret
  exact⟨congrArg (fun b=>Ending.returned (Value.bool b)) e.out.symm,hB.out⟩
 have q1':decide (f > 62)=false:=by simpa using q1
 by_cases q2:s=-1
 ·have e:=Lib.hid (sup_n (A:=A) (f:=f) (by omega) (by omega) q2)
  have q2':(s == -1)=true:=by simpa using q2
  clear q2
  go_enter Tryz.func94,Tryz.ntmps94
  go_wp2
  go_ret
  exact⟨congrArg (fun b=>Ending.returned (Value.bool b)) e.out.symm,hB.out⟩
 have q2':(s == -1)=false:=by simpa using q2
 by_cases q3:s < 0∨(n:Int)≤s
 ·have e:=Lib.hid (sup_o (A:=A) (f:=f) q2 (by have:=hn'.out;omega))
  have PI:=Lib.hid (isc_n ad n cap s q3)
  have c1':Hid ((w.alloc (.cells #[.string nm,.int .i64 s,.int .i64 f,bv] 72)).cell? ⟨w.heap.size,1,none⟩=some (.int .i64 s)):=Lib.hid (by simp)
  have c2':Hid ((w.alloc (.cells #[.string nm,.int .i64 s,.int .i64 f,bv] 72)).cell? ⟨w.heap.size,2,none⟩=some (.int .i64 f)):=Lib.hid (by simp)
  go_enter Tryz.func94,Tryz.ntmps94
  go_wp2
  refine wp_region_held_drew (S:=(fun wr'=>wr'.cell? ⟨w.heap.size,1,none⟩=some (.int .i64 s)∧wr'.cell? ⟨w.heap.size,2,none⟩=some (.int .i64 f))) (by kernel_rfl) ?_ (fun hHeld=>?_)
  ·(try dsimp only);exact⟨c1'.out,c2'.out⟩
  try simp only [Act.put,List.setIfInBounds_toArray,List.set_cons_zero,List.set_cons_succ]
  refine wpAnyH_take (i:=0) (oi:={ dst:=some 16,op:=Op.move (Operand.tmp 0),type:=28,pos:= "shape.go:83",after:=#[],guard:=none }) (v:=?_) rfl (by kernel_rfl) (by kernel_rfl) (by kernel_rfl) (fun _ _ _ h=>h) (Or.inl ⟨by rfl,?_⟩) (by assumption) ?_
  rotate_left 1
  ·intro w hSw;(try dsimp only at hSw);go_simp <;> with_reducible rfl
  try simp only [Act.put,List.setIfInBounds_toArray,List.set_cons_zero,List.set_cons_succ]
  refine wpAnyH_take (i:=1) (oi:={ dst:=some 17,op:=Op.fieldAddr 72 (Operand.tmp 3) 1,type:=0,pos:= "shape.go:83",after:=#[],guard:=none }) (v:=?_) rfl (by kernel_rfl) (by kernel_rfl) (by kernel_rfl) (fun _ _ _ h=>h) (Or.inl ⟨by rfl,?_⟩) (by assumption) ?_
  rotate_left 1
  ·intro w hSw;(try dsimp only at hSw);go_simp <;> with_reducible rfl
  try simp only [Act.put,List.setIfInBounds_toArray,List.set_cons_zero,List.set_cons_succ]
  refine wpAnyH_take (i:=2) (oi:={ dst:=some 18,op:=Op.load 3 (Operand.tmp 17),type:=3,pos:= "shape.go:83",after:=#[{ on:=1,ground:=Ground.data }],guard:=none }) (v:=?_) rfl (by kernel_rfl) (by kernel_rfl) (by kernel_rfl) (fun _ _ _ h=>h) (Or.inl ⟨by rfl,?_⟩) (by assumption) ?_
  rotate_left 1
  ·intro w hSw;(try dsimp only at hSw);go_simp <;> with_reducible rfl
  try simp only [Act.put,List.setIfInBounds_toArray,List.set_cons_zero,List.set_cons_succ]
  refine wpAnyH_ready (rs:=[3]) (by kernel_rfl) (by simp) ?_
  refine AllReadyH.cons (o:={ dst:=some 19,op:=Op.call { callee:=Callee.value (Operand.func 108),args:=#[Operand.tmp 16,Operand.tmp 18],argTypes:=#[28,3] },type:=4,pos:= "shape.go:83",after:=#[{ on:=0,ground:=Ground.data },{ on:=2,ground:=Ground.data }],guard:=none }) rfl (fun K9 hK=>?_) ?_
  ·go_simp
   with_reducible refine (PI.out _).mono ?_
   rintro e1 y ⟨rfl,hy⟩
   subst hy
   go_wp2_with fail
   refine hK.out _ _ ?_ ?_
   ·(try dsimp only);exact⟨c1'.out,c2'.out⟩
   clear hK K9 hHeld;intro hHeld
   try simp only [Act.put,List.setIfInBounds_toArray,List.set_cons_zero,List.set_cons_succ]
   refine wpAnyH_take (i:=4) (oi:={ dst:=some 20,op:=Op.move (Operand.tmp 19),type:=4,pos:= "shape.go:83",after:=#[{ on:=3,ground:=Ground.data },{ on:=3,ground:=Ground.chain }],guard:=none }) (v:=?_) rfl (by kernel_rfl) (by kernel_rfl) (by kernel_rfl) (fun _ _ _ h=>h) (Or.inl ⟨by rfl,?_⟩) (by assumption) ?_
   rotate_left 1
   ·intro w hSw;(try dsimp only at hSw);go_simp <;> with_reducible rfl
   try simp only [Act.put,List.setIfInBounds_toArray,List.set_cons_zero,List.set_cons_succ]
   refine wpAnyH_take (i:=5) (oi:={ dst:=some 21,op:=Op.move (Operand.tmp 0),type:=28,pos:= "shape.go:83",after:=#[{ on:=4,ground:=Ground.guard }],guard:=some (4,true) }) (v:=undef) rfl (by kernel_rfl) (by kernel_rfl) (by kernel_rfl) (fun _ _ _ h=>h) (Or.inr ⟨by rfl,rfl⟩) (by assumption) ?_
   try simp only [Act.put,List.setIfInBounds_toArray,List.set_cons_zero,List.set_cons_succ]
   refine wpAnyH_take (i:=6) (oi:={ dst:=some 22,op:=Op.fieldAddr 72 (Operand.tmp 3) 1,type:=0,pos:= "shape.go:83",after:=#[{ on:=4,ground:=Ground.guard }],guard:=some (4,true) }) (v:=undef) rfl (by kernel_rfl) (by kernel_rfl) (by kernel_rfl) (fun _ _ _ h=>h) (Or.inr ⟨by rfl,rfl⟩) (by assumption) ?_
   try simp only [Act.put,List.setIfInBounds_toArray,List.set_cons_zero,List.set_cons_succ]
   refine wpAnyH_take (i:=7) (oi:={ dst:=some 23,op:=Op.load 3 (Operand.tmp 22),type:=3,pos:= "shape.go:83",after:=#[{ on:=6,ground:=Ground.data },{ on:=4,ground:=Ground.guard }],guard:=some (4,true) }) (v:=undef) rfl (by kernel_rfl) (by kernel_rfl) (by kernel_rfl) (fun _ _ _ h=>h) (Or.inr ⟨by rfl,rfl⟩) (by assumption) ?_
   try simp only [Act.put,List.setIfInBounds_toArray,List.set_cons_zero,List.set_cons_succ]
   refine wpAnyH_take (i:=8) (oi:={ dst:=some 24,op:=Op.call { callee:=Callee.value (Operand.func 109),args:=#[Operand.tmp 21,Operand.tmp 23],argTypes:=#[28,3] },type:=3,pos:= "shape.go:83",after:=#[{ on:=5,ground:=Ground.data },{ on:=7,ground:=Ground.data },{ on:=4,ground:=Ground.chain },{ on:=4,ground:=Ground.guard }],guard:=some (4,true) }) (v:=undef) rfl (by kernel_rfl) (by kernel_rfl) (by kernel_rfl) (fun _ _ _ h=>h) (Or.inr ⟨by rfl,rfl⟩) (by assumption) ?_
   try simp only [Act.put,List.setIfInBounds_toArray,List.set_cons_zero,List.set_cons_succ]
   refine wpAnyH_take (i:=9) (oi:={ dst:=some 25,op:=Op.binOp BinOp.lss 3 (Operand.tmp 24) (Operand.const (Value.int IntKind.i64 8)) 3,type:=4,pos:= "shape.go:83",after:=#[{ on:=8,ground:=Ground.data },{ on:=4,ground:=Ground.guard }],guard:=some (4,true) }) (v:=undef) rfl (by kernel_rfl) (by kernel_rfl) (by kernel_rfl) (fun _ _ _ h=>h) (Or.inr ⟨by rfl,rfl⟩) (by assumption) ?_
   try simp only [Act.put,List.setIfInBounds_toArray,List.set_cons_zero,List.set_cons_succ]
   refine wpAnyH_take (i:=10) (oi:={ dst:=some 26,op:=Op.pick (Operand.tmp 20) (Operand.tmp 25) (Operand.const (Value.bool false)),type:=4,pos:= "shape.go:83",after:=#[{ on:=4,ground:=Ground.data },{ on:=9,ground:=Ground.data }],guard:=none }) (v:=?_) rfl (by kernel_rfl) (by kernel_rfl) (by kernel_rfl) (fun _ _ _ h=>h) (Or.inl ⟨by rfl,?_⟩) (by assumption) ?_
   rotate_left 1
   ·intro w hSw;(try dsimp only at hSw);go_simp <;> with_reducible rfl
   try simp only [Act.put,List.setIfInBounds_toArray,List.set_cons_zero,List.set_cons_succ]
   refine wpAnyH_take (i:=11) (oi:={ dst:=some 27,op:=Op.move (Operand.tmp 26),type:=4,pos:= "shape.go:83",after:=#[{ on:=10,ground:=Ground.data },{ on:=8,ground:=Ground.chain }],guard:=none }) (v:=?_) rfl (by kernel_rfl) (by kernel_rfl) (by kernel_rfl) (fun _ _ _ h=>h) (Or.inl ⟨by rfl,?_⟩) (by assumption) ?_
   rotate_left 1
   ·intro w hSw;(try dsimp only at hSw);go_simp <;> with_reducible rfl
   try simp only [Act.put,List.setIfInBounds_toArray,List.set_cons_zero,List.set_cons_succ]
   refine wpAnyH_take (i:=12) (oi:={ dst:=some 28,op:=Op.fieldAddr 72 (Operand.tmp 3) 2,type:=0,pos:= "shape.go:83",after:=#[{ on:=11,ground:=Ground.guard }],guard:=some (11,true) }) (v:=undef) rfl (by kernel_rfl) (by kernel_rfl) (by kernel_rfl) (fun _ _ _ h=>h) (Or.inr ⟨by rfl,rfl⟩) (by assumption) ?_
   try simp only [Act.put,List.setIfInBounds_toArray,List.set_cons_zero,List.set_cons_succ]
   refine wpAnyH_take (i:=13) (oi:={ dst:=some 29,op:=Op.load 3 (Operand.tmp 28),type:=3,pos:= "shape.go:83",after:=#[{ on:=12,ground:=Ground.data },{ on:=11,ground:=Ground.guard }],guard:=some (11,true) }) (v:=undef) rfl (by kernel_rfl) (by kernel_rfl) (by kernel_rfl) (fun _ _ _ h=>h) (Or.inr ⟨by rfl,rfl⟩) (by assumption) ?_
   try simp only [Act.put,List.setIfInBounds_toArray,List.set_cons_zero,List.set_cons_succ]
   refine wpAnyH_take (i:=14) (oi:={ dst:=some 30,op:=Op.move (Operand.tmp 0),type:=28,pos:= "shape.go:83",after:=#[{ on:=11,ground:=Ground.guard }],guard:=some (11,true) }) (v:=undef) rfl (by kernel_rfl) (by kernel_rfl) (by kernel_rfl) (fun _ _ _ h=>h) (Or.inr ⟨by rfl,rfl⟩) (by assumption) ?_
   try simp only [Act.put,List.setIfInBounds_toArray,List.set_cons_zero,List.set_cons_succ]
   refine wpAnyH_take (i:=15) (oi:={ dst:=some 31,op:=Op.fieldAddr 72 (Operand.tmp 3) 1,type:=0,pos:= "shape.go:83",after:=#[{ on:=11,ground:=Ground.guard }],guard:=some (11,true) }) (v:=undef) rfl (by kernel_rfl) (by kernel_rfl) (by kernel_rfl) (fun _ _ _ h=>h) (Or.inr ⟨by rfl,rfl⟩) (by assumption) ?_
   try simp only [Act.put,List.setIfInBounds_toArray,List.set_cons_zero,List.set_cons_succ]
   refine wpAnyH_take (i:=16) (oi:={ dst:=some 32,op:=Op.load 3 (Operand.tmp 31),type:=3,pos:= "shape.go:83",after:=#[{ on:=15,ground:=Ground.data },{ on:=11,ground:=Ground.guard }],guard:=some (11,true) }) (v:=undef) rfl (by kernel_rfl) (by kernel_rfl) (by kernel_rfl) (fun _ _ _ h=>h) (Or.inr ⟨by rfl,rfl⟩) (by assumption) ?_
   try simp only [Act.put,List.setIfInBounds_toArray,List.set_cons_zero,List.set_cons_succ]
   refine wpAnyH_take (i:=17) (oi:={ dst:=some 33,op:=Op.indexAddr 28 (Operand.tmp 30) (Operand.tmp 32),type:=0,pos:= "shape.go:83",after:=#[{ on:=14,ground:=Ground.data },{ on:=16,ground:=Ground.data },{ on:=11,ground:=Ground.guard }],guard:=some (11,true) }) (v:=undef) rfl (by kernel_rfl) (by kernel_rfl) (by kernel_rfl) (fun _ _ _ h=>h) (Or.inr ⟨by rfl,rfl⟩) (by assumption) ?_
   try simp only [Act.put,List.setIfInBounds_toArray,List.set_cons_zero,List.set_cons_succ]
   refine wpAnyH_take (i:=18) (oi:={ dst:=some 34,op:=Op.fieldAddr 72 (Operand.tmp 33) 2,type:=0,pos:= "shape.go:83",after:=#[{ on:=17,ground:=Ground.data },{ on:=11,ground:=Ground.guard }],guard:=some (11,true) }) (v:=undef) rfl (by kernel_rfl) (by kernel_rfl) (by kernel_rfl) (fun _ _ _ h=>h) (Or.inr ⟨by rfl,rfl⟩) (by assumption) ?_
   try simp only [Act.put,List.setIfInBounds_toArray,List.set_cons_zero,List.set_cons_succ]
   refine wpAnyH_take (i:=19) (oi:={ dst:=some 35,op:=Op.load 3 (Operand.tmp 34),type:=3,pos:= "shape.go:83",after:=#[{ on:=18,ground:=Ground.data },{ on:=11,ground:=Ground.guard }],guard:=some (11,true) }) (v:=undef) rfl (by kernel_rfl) (by kernel_rfl) (by kernel_rfl) (fun _ _ _ h=>h) (Or.inr ⟨by rfl,rfl⟩) (by assumption) ?_
   try simp only [Act.put,List.setIfInBounds_toArray,List.set_cons_zero,List.set_cons_succ]
   refine wpAnyH_take (i:=20) (oi:={ dst:=some 36,op:=Op.binOp BinOp.geq 3 (Operand.tmp 29) (Operand.tmp 35) 3,type:=4,pos:= "shape.go:83",after:=#[{ on:=13,ground:=Ground.data },{ on:=19,ground:=Ground.data },{ on:=11,ground:=Ground.guard }],guard:=some (11,true) }) (v:=undef) rfl (by kernel_rfl) (by kernel_rfl) (by kernel_rfl) (fun _ _ _ h=>h) (Or.inr ⟨by rfl,rfl⟩) (by assumption) ?_
   try simp only [Act.put,List.setIfInBounds_toArray,List.set_cons_zero,List.set_cons_succ]
   refine wpAnyH_take (i:=21) (oi:={ dst:=some 37,op:=Op.pick (Operand.tmp 27) (Operand.tmp 36) (Operand.const (Value.bool false)),type:=4,pos:= "shape.go:83",after:=#[{ on:=11,ground:=Ground.data },{ on:=20,ground:=Ground.data }],guard:=none }) (v:=?_) rfl (by kernel_rfl) (by kernel_rfl) (by kernel_rfl) (fun _ _ _ h=>h) (Or.inl ⟨by rfl,?_⟩) (by assumption) ?_
   rotate_left 1
   ·intro w hSw;(try dsimp only at hSw);go_simp <;> with_reducible rfl
   try simp only [Act.put,List.setIfInBounds_toArray,List.set_cons_zero,List.set_cons_succ]
   refine wpAnyH_take (i:=22) (oi:={ dst:=some 4,op:=Op.assign (Operand.tmp 37),type:=4,pos:= "shape.go:83",after:=#[{ on:=21,ground:=Ground.data },{ on:=11,ground:=Ground.chain },{ on:=0,ground:=Ground.phase },{ on:=1,ground:=Ground.phase },{ on:=2,ground:=Ground.phase },{ on:=3,ground:=Ground.phase },{ on:=4,ground:=Ground.phase },{ on:=5,ground:=Ground.phase },{ on:=6,ground:=Ground.phase },{ on:=7,ground:=Ground.phase },{ on:=8,ground:=Ground.phase },{ on:=9,ground:=Ground.phase },{ on:=10,ground:=Ground.phase },{ on:=11,ground:=Ground.phase },{ on:=12,ground:=Ground.phase },{ on:=13,ground:=Ground.phase },{ on:=14,ground:=Ground.phase },{ on:=15,ground:=Ground.phase },{ on:=16,ground:=Ground.phase },{ on:=17,ground:=Ground.phase },{ on:=18,ground:=Ground.phase },{ on:=19,ground:=Ground.phase },{ on:=20,ground:=Ground.phase },{ on:=21,ground:=Ground.phase }],guard:=none }) (v:=?_) rfl (by kernel_rfl) (by kernel_rfl) (by kernel_rfl) (fun _ _ _ h=>h) (Or.inl ⟨by rfl,?_⟩) (by assumption) ?_
   rotate_left 1
   ·intro w hSw;(try dsimp only at hSw);go_simp <;> with_reducible rfl
   try simp only [Act.put,List.setIfInBounds_toArray,List.set_cons_zero,List.set_cons_succ]
   refine wpAnyH_done (by kernel_rfl) ?_ _
   go_wp2_with fail
   go_ret
   exact⟨congrArg (fun b=>Ending.returned (Value.bool b)) e.out.symm,hB.out.drew⟩
  exact AllReadyH.nil
 have PI:=Lib.hid (isc_y ad n cap s (by omega) (by omega))
 obtain⟨k,rfl⟩:∃ k:Nat,s=k:=⟨s.toNat,by omega⟩
 obtain⟨⟨xn,xs,xf,xb⟩,hx⟩:∃ x,A[k]?=some x:=⟨A[k]'(by have:=hn'.out;omega),by simp⟩
 have he:=sup_i (A:=A) (s:=k) (f:=f) (by omega) (by omega) (by omega) (by have:=hn'.out;omega)
 have hsf:superF A (k:Int)=xf:=by unfold superF;rw [Int.toNat_natCast,hx]
 rw [hsf] at he
 clear hsf
 have p0:(0:Int)≤(k:Int):=by omega
 have p1:(k:Int) < (n:Int):=by omega
 have h1:=Lib.hid (h.out.up hB.out)
 obtain⟨_,_,g',off',xv,rfl,d0,d1,d2,d3,xbv⟩:=h1.out.at hx
 simp only at d2
 have d2':=Lib.hid d2
 have c1:(w.alloc (.cells #[.string nm,.int .i64 (k:Int),.int .i64 f,bv] 72)).cell? ⟨w.heap.size,1,none⟩=some (.int .i64 (k:Int)):=by simp
 have c2:(w.alloc (.cells #[.string nm,.int .i64 (k:Int),.int .i64 f,bv] 72)).cell? ⟨w.heap.size,2,none⟩=some (.int .i64 f):=by simp
 have c1':=Lib.hid c1
 have c2':=Lib.hid c2
 clear d0 d1 d3 xbv hx c1 c2 d2
 have hlen:(chain A (k:Int)).length≤8:=chain_len _ _
 have PD:=Lib.hid (fun w' (b:Below (w.alloc (.cells #[.string nm,.int .i64 (k:Int),.int .i64 f,bv] 72)).heap.size (w.alloc (.cells #[.string nm,.int .i64 (k:Int),.int .i64 f,bv] 72)) w')=>kdepth (h1.out.up b) (k:Int) hs)
 obtain⟨d,hd⟩:∃ d,d=(chain A (k:Int)).length:=⟨_,rfl⟩
 rw [← hd] at PD he hlen
 clear hd
 by_cases q4:d < 8
 ·have q4':decide ((d:Int) < 8)=true:=by simp;omega
  by_cases q5:xf≤f
  ·have e:=Lib.hid (he.trans (by simp [q4,q5]:_=true))
   have q5':decide (f ≥ xf)=true:=by simpa using q5
   clear he
   go_enter Tryz.func94,Tryz.ntmps94
   go_wp2
   refine wp_region_held_drew (S:=(fun wr'=>wr'.cell? ⟨w.heap.size,1,none⟩=some (.int .i64 (k:Int))∧wr'.cell? ⟨w.heap.size,2,none⟩=some (.int .i64 f)∧wr'.cell? ⟨g',off'+k*4+2,none⟩=some (.int .i64 xf))) (by kernel_rfl) ?_ (fun hHeld=>?_)
   ·(try dsimp only);exact⟨c1'.out,c2'.out,d2'.out⟩
   try simp only [Act.put,List.setIfInBounds_toArray,List.set_cons_zero,List.set_cons_succ]
   refine wpAnyH_take (i:=0) (oi:={ dst:=some 16,op:=Op.move (Operand.tmp 0),type:=28,pos:= "shape.go:83",after:=#[],guard:=none }) (v:=?_) rfl (by kernel_rfl) (by kernel_rfl) (by kernel_rfl) (fun _ _ _ h=>h) (Or.inl ⟨by rfl,?_⟩) (by assumption) ?_
   rotate_left 1
   ·intro w hSw;(try dsimp only at hSw);go_simp <;> with_reducible rfl
   try simp only [Act.put,List.setIfInBounds_toArray,List.set_cons_zero,List.set_cons_succ]
   refine wpAnyH_take (i:=1) (oi:={ dst:=some 17,op:=Op.fieldAddr 72 (Operand.tmp 3) 1,type:=0,pos:= "shape.go:83",after:=#[],guard:=none }) (v:=?_) rfl (by kernel_rfl) (by kernel_rfl) (by kernel_rfl) (fun _ _ _ h=>h) (Or.inl ⟨by rfl,?_⟩) (by assumption) ?_
   rotate_left 1
   ·intro w hSw;(try dsimp only at hSw);go_simp <;> with_reducible rfl
   try simp only [Act.put,List.setIfInBounds_toArray,List.set_cons_zero,List.set_cons_succ]
   refine wpAnyH_take (i:=2) (oi:={ dst:=some 18,op:=Op.load 3 (Operand.tmp 17),type:=3,pos:= "shape.go:83",after:=#[{ on:=1,ground:=Ground.data }],guard:=none }) (v:=?_) rfl (by kernel_rfl) (by kernel_rfl) (by kernel_rfl) (fun _ _ _ h=>h) (Or.inl ⟨by rfl,?_⟩) (by assumption) ?_
   rotate_left 1
   ·intro w hSw;(try dsimp only at hSw);go_simp <;> with_reducible rfl
   try simp only [Act.put,List.setIfInBounds_toArray,List.set_cons_zero,List.set_cons_succ]
   refine wpAnyH_ready (rs:=[3]) (by kernel_rfl) (by simp) ?_
   refine AllReadyH.cons (o:={ dst:=some 19,op:=Op.call { callee:=Callee.value (Operand.func 108),args:=#[Operand.tmp 16,Operand.tmp 18],argTypes:=#[28,3] },type:=4,pos:= "shape.go:83",after:=#[{ on:=0,ground:=Ground.data },{ on:=2,ground:=Ground.data }],guard:=none }) rfl (fun K9 hK=>?_) ?_
   ·go_simp
    with_reducible refine (PI.out _).mono ?_
    rintro e1 y ⟨rfl,hy⟩
    subst hy
    go_wp2_with fail
    refine hK.out _ _ ?_ ?_
    ·(try dsimp only);exact⟨c1'.out,c2'.out,d2'.out⟩
    clear hK K9 hHeld;intro hHeld
    try simp only [Act.put,List.setIfInBounds_toArray,List.set_cons_zero,List.set_cons_succ]
    refine wpAnyH_take (i:=4) (oi:={ dst:=some 20,op:=Op.move (Operand.tmp 19),type:=4,pos:= "shape.go:83",after:=#[{ on:=3,ground:=Ground.data },{ on:=3,ground:=Ground.chain }],guard:=none }) (v:=?_) rfl (by kernel_rfl) (by kernel_rfl) (by kernel_rfl) (fun _ _ _ h=>h) (Or.inl ⟨by rfl,?_⟩) (by assumption) ?_
    rotate_left 1
    ·intro w hSw;(try dsimp only at hSw);go_simp <;> with_reducible rfl
    try simp only [Act.put,List.setIfInBounds_toArray,List.set_cons_zero,List.set_cons_succ]
    refine wpAnyH_take (i:=5) (oi:={ dst:=some 21,op:=Op.move (Operand.tmp 0),type:=28,pos:= "shape.go:83",after:=#[{ on:=4,ground:=Ground.guard }],guard:=some (4,true) }) (v:=?_) rfl (by kernel_rfl) (by kernel_rfl) (by kernel_rfl) (fun _ _ _ h=>h) (Or.inl ⟨by rfl,?_⟩) (by assumption) ?_
    rotate_left 1
    ·intro w hSw;(try dsimp only at hSw);go_simp <;> with_reducible rfl
    try simp only [Act.put,List.setIfInBounds_toArray,List.set_cons_zero,List.set_cons_succ]
    refine wpAnyH_take (i:=6) (oi:={ dst:=some 22,op:=Op.fieldAddr 72 (Operand.tmp 3) 1,type:=0,pos:= "shape.go:83",after:=#[{ on:=4,ground:=Ground.guard }],guard:=some (4,true) }) (v:=?_) rfl (by kernel_rfl) (by kernel_rfl) (by kernel_rfl) (fun _ _ _ h=>h) (Or.inl ⟨by rfl,?_⟩) (by assumption) ?_
    rotate_left 1
    ·intro w hSw;(try dsimp only at hSw);go_simp <;> with_reducible rfl
    try simp only [Act.put,List.setIfInBounds_toArray,List.set_cons_zero,List.set_cons_succ]
    refine wpAnyH_take (i:=7) (oi:={ dst:=some 23,op:=Op.load 3 (Operand.tmp 22),type:=3,pos:= "shape.go:83",after:=#[{ on:=6,ground:=Ground.data },{ on:=4,ground:=Ground.guard }],guard:=some (4,true) }) (v:=?_) rfl (by kernel_rfl) (by kernel_rfl) (by kernel_rfl) (fun _ _ _ h=>h) (Or.inl ⟨by rfl,?_⟩) (by assumption) ?_
    rotate_left 1
    ·intro w hSw;(try dsimp only at hSw);go_simp <;> with_reducible rfl
    try simp only [Act.put,List.setIfInBounds_toArray,List.set_cons_zero,List.set_cons_succ]
    refine wpAnyH_ready (rs:=[8]) (by kernel_rfl) (by simp) ?_
    refine AllReadyH.cons (o:={ dst:=some 24,op:=Op.call { callee:=Callee.value (Operand.func 109),args:=#[Operand.tmp 21,Operand.tmp 23],argTypes:=#[28,3] },type:=3,pos:= "shape.go:83",after:=#[{ on:=5,ground:=Ground.data },{ on:=7,ground:=Ground.data },{ on:=4,ground:=Ground.chain },{ on:=4,ground:=Ground.guard }],guard:=some (4,true) }) rfl (fun K9 hK=>?_) ?_
    ·go_simp
     with_reducible refine (PD.out _ (Below.refl _ _).drew).mono ?_
     rintro e1 y2 ⟨rfl,hw2⟩
     have hq:Below (w.alloc (.cells #[.string nm,.int .i64 (k:Int),.int .i64 f,bv] 72)).heap.size (w.alloc (.cells #[.string nm,.int .i64 (k:Int),.int .i64 f,bv] 72)) y2:=((Below.refl _ _).drew).trans hw2
     have hB2:=Lib.hid (hB.out.trans (hq.mono hB.out.size))
     have hk:=And.intro (cell_up hq c1'.out) (And.intro (cell_up hq c2'.out) (cell_up hq d2'.out))
     clear hw2 hq
     go_wp2_with fail
     refine hK.out _ _ ?_ ?_
     ·(try dsimp only);exact hk
     clear hK K9 hHeld;intro hHeld
     try simp only [Act.put,List.setIfInBounds_toArray,List.set_cons_zero,List.set_cons_succ]
     refine wpAnyH_take (i:=9) (oi:={ dst:=some 25,op:=Op.binOp BinOp.lss 3 (Operand.tmp 24) (Operand.const (Value.int IntKind.i64 8)) 3,type:=4,pos:= "shape.go:83",after:=#[{ on:=8,ground:=Ground.data },{ on:=4,ground:=Ground.guard }],guard:=some (4,true) }) (v:=?_) rfl (by kernel_rfl) (by kernel_rfl) (by kernel_rfl) (fun _ _ _ h=>h) (Or.inl ⟨by rfl,?_⟩) (by assumption) ?_
     rotate_left 1
     ·intro w hSw;(try dsimp only at hSw);go_simp <;> with_reducible rfl
     try simp only [Act.put,List.setIfInBounds_toArray,List.set_cons_zero,List.set_cons_succ]
     refine wpAnyH_take (i:=10) (oi:={ dst:=some 26,op:=Op.pick (Operand.tmp 20) (Operand.tmp 25) (Operand.const (Value.bool false)),type:=4,pos:= "shape.go:83",after:=#[{ on:=4,ground:=Ground.data },{ on:=9,ground:=Ground.data }],guard:=none }) (v:=?_) rfl (by kernel_rfl) (by kernel_rfl) (by kernel_rfl) (fun _ _ _ h=>h) (Or.inl ⟨by rfl,?_⟩) (by assumption) ?_
     rotate_left 1
     ·intro w hSw;(try dsimp only at hSw);go_simp <;> with_reducible rfl
     try simp only [Act.put,List.setIfInBounds_toArray,List.set_cons_zero,List.set_cons_succ]
     refine wpAnyH_take (i:=11) (oi:={ dst:=some 27,op:=Op.move (Operand.tmp 26),type:=4,pos:= "shape.go:83",after:=#[{ on:=10,ground:=Ground.data },{ on:=8,ground:=Ground.chain }],guard:=none }) (v:=?_) rfl (by kernel_rfl) (by kernel_rfl) (by kernel_rfl) (fun _ _ _ h=>h) (Or.inl ⟨by rfl,?_⟩) (by assumption) ?_
     rotate_left 1
     ·intro w hSw;(try dsimp only at hSw);go_simp <;> with_reducible rfl
     try simp only [Act.put,List.setIfInBounds_toArray,List.set_cons_zero,List.set_cons_succ]
     refine wpAnyH_take (i:=12) (oi:={ dst:=some 28,op:=Op.fieldAddr 72 (Operand.tmp 3) 2,type:=0,pos:= "shape.go:83",after:=#[{ on:=11,ground:=Ground.guard }],guard:=some (11,true) }) (v:=?_) rfl (by kernel_rfl) (by kernel_rfl) (by kernel_rfl) (fun _ _ _ h=>h) (Or.inl ⟨by rfl,?_⟩) (by assumption) ?_
     rotate_left 1
     ·intro w hSw;(try dsimp only at hSw);go_simp <;> with_reducible rfl
     try simp only [Act.put,List.setIfInBounds_toArray,List.set_cons_zero,List.set_cons_succ]
     refine wpAnyH_take (i:=13) (oi:={ dst:=some 29,op:=Op.load 3 (Operand.tmp 28),type:=3,pos:= "shape.go:83",after:=#[{ on:=12,ground:=Ground.data },{ on:=11,ground:=Ground.guard }],guard:=some (11,true) }) (v:=?_) rfl (by kernel_rfl) (by kernel_rfl) (by kernel_rfl) (fun _ _ _ h=>h) (Or.inl ⟨by rfl,?_⟩) (by assumption) ?_
     rotate_left 1
     ·intro w hSw;(try dsimp only at hSw);go_simp <;> with_reducible rfl
     try simp only [Act.put,List.setIfInBounds_toArray,List.set_cons_zero,List.set_cons_succ]
     refine wpAnyH_take (i:=14) (oi:={ dst:=some 30,op:=Op.move (Operand.tmp 0),type:=28,pos:= "shape.go:83",after:=#[{ on:=11,ground:=Ground.guard }],guard:=some (11,true) }) (v:=?_) rfl (by kernel_rfl) (by kernel_rfl) (by kernel_rfl) (fun _ _ _ h=>h) (Or.inl ⟨by rfl,?_⟩) (by assumption) ?_
     rotate_left 1
     ·intro w hSw;(try dsimp only at hSw);go_simp <;> with_reducible rfl
     try simp only [Act.put,List.setIfInBounds_toArray,List.set_cons_zero,List.set_cons_succ]
     refine wpAnyH_take (i:=15) (oi:={ dst:=some 31,op:=Op.fieldAddr 72 (Operand.tmp 3) 1,type:=0,pos:= "shape.go:83",after:=#[{ on:=11,ground:=Ground.guard }],guard:=some (11,true) }) (v:=?_) rfl (by kernel_rfl) (by kernel_rfl) (by kernel_rfl) (fun _ _ _ h=>h) (Or.inl ⟨by rfl,?_⟩) (by assumption) ?_
     rotate_left 1
     ·intro w hSw;(try dsimp only at hSw);go_simp <;> with_reducible rfl
     try simp only [Act.put,List.setIfInBounds_toArray,List.set_cons_zero,List.set_cons_succ]
     refine wpAnyH_take (i:=16) (oi:={ dst:=some 32,op:=Op.load 3 (Operand.tmp 31),type:=3,pos:= "shape.go:83",after:=#[{ on:=15,ground:=Ground.data },{ on:=11,ground:=Ground.guard }],guard:=some (11,true) }) (v:=?_) rfl (by kernel_rfl) (by kernel_rfl) (by kernel_rfl) (fun _ _ _ h=>h) (Or.inl ⟨by rfl,?_⟩) (by assumption) ?_
     rotate_left 1
     ·intro w hSw;(try dsimp only at hSw);go_simp <;> with_reducible rfl
     try simp only [Act.put,List.setIfInBounds_toArray,List.set_cons_zero,List.set_cons_succ]
     refine wpAnyH_take (i:=17) (oi:={ dst:=some 33,op:=Op.indexAddr 28 (Operand.tmp 30) (Operand.tmp 32),type:=0,pos:= "shape.go:83",after:=#[{ on:=14,ground:=Ground.data },{ on:=16,ground:=Ground.data },{ on:=11,ground:=Ground.guard }],guard:=some (11,true) }) (v:=?_) rfl (by kernel_rfl) (by kernel_rfl) (by kernel_rfl) (fun _ _ _ h=>h) (Or.inl ⟨by rfl,?_⟩) (by assumption) ?_
     rotate_left 1
     ·intro w hSw;(try dsimp only at hSw);go_simp <;> with_reducible rfl
     try simp only [Act.put,List.setIfInBounds_toArray,List.set_cons_zero,List.set_cons_succ]
     refine wpAnyH_take (i:=18) (oi:={ dst:=some 34,op:=Op.fieldAddr 72 (Operand.tmp 33) 2,type:=0,pos:= "shape.go:83",after:=#[{ on:=17,ground:=Ground.data },{ on:=11,ground:=Ground.guard }],guard:=some (11,true) }) (v:=?_) rfl (by kernel_rfl) (by kernel_rfl) (by kernel_rfl) (fun _ _ _ h=>h) (Or.inl ⟨by rfl,?_⟩) (by assumption) ?_
     rotate_left 1
     ·intro w hSw;(try dsimp only at hSw);go_simp <;> with_reducible rfl
     try simp only [Act.put,List.setIfInBounds_toArray,List.set_cons_zero,List.set_cons_succ]
     refine wpAnyH_take (i:=19) (oi:={ dst:=some 35,op:=Op.load 3 (Operand.tmp 34),type:=3,pos:= "shape.go:83",after:=#[{ on:=18,ground:=Ground.data },{ on:=11,ground:=Ground.guard }],guard:=some (11,true) }) (v:=?_) rfl (by kernel_rfl) (by kernel_rfl) (by kernel_rfl) (fun _ _ _ h=>h) (Or.inl ⟨by rfl,?_⟩) (by assumption) ?_
     rotate_left 1
     ·intro w hSw;(try dsimp only at hSw);go_simp <;> with_reducible rfl
     try simp only [Act.put,List.setIfInBounds_toArray,List.set_cons_zero,List.set_cons_succ]
     refine wpAnyH_take (i:=20) (oi:={ dst:=some 36,op:=Op.binOp BinOp.geq 3 (Operand.tmp 29) (Operand.tmp 35) 3,type:=4,pos:= "shape.go:83",after:=#[{ on:=13,ground:=Ground.data },{ on:=19,ground:=Ground.data },{ on:=11,ground:=Ground.guard }],guard:=some (11,true) }) (v:=?_) rfl (by kernel_rfl) (by kernel_rfl) (by kernel_rfl) (fun _ _ _ h=>h) (Or.inl ⟨by rfl,?_⟩) (by assumption) ?_
     rotate_left 1
     ·intro w hSw;(try dsimp only at hSw);go_simp <;> with_reducible rfl
     try simp only [Act.put,List.setIfInBounds_toArray,List.set_cons_zero,List.set_cons_succ]
     refine wpAnyH_take (i:=21) (oi:={ dst:=some 37,op:=Op.pick (Operand.tmp 27) (Operand.tmp 36) (Operand.const (Value.bool false)),type:=4,pos:= "shape.go:83",after:=#[{ on:=11,ground:=Ground.data },{ on:=20,ground:=Ground.data }],guard:=none }) (v:=?_) rfl (by kernel_rfl) (by kernel_rfl) (by kernel_rfl) (fun _ _ _ h=>h) (Or.inl ⟨by rfl,?_⟩) (by assumption) ?_
     rotate_left 1
     ·intro w hSw;(try dsimp only at hSw);go_simp <;> with_reducible rfl
     try simp only [Act.put,List.setIfInBounds_toArray,List.set_cons_zero,List.set_cons_succ]
     refine wpAnyH_take (i:=22) (oi:={ dst:=some 4,op:=Op.assign (Operand.tmp 37),type:=4,pos:= "shape.go:83",after:=#[{ on:=21,ground:=Ground.data },{ on:=11,ground:=Ground.chain },{ on:=0,ground:=Ground.phase },{ on:=1,ground:=Ground.phase },{ on:=2,ground:=Ground.phase },{ on:=3,ground:=Ground.phase },{ on:=4,ground:=Ground.phase },{ on:=5,ground:=Ground.phase },{ on:=6,ground:=Ground.phase },{ on:=7,ground:=Ground.phase },{ on:=8,ground:=Ground.phase },{ on:=9,ground:=Ground.phase },{ on:=10,ground:=Ground.phase },{ on:=11,ground:=Ground.phase },{ on:=12,ground:=Ground.phase },{ on:=13,ground:=Ground.phase },{ on:=14,ground:=Ground.phase },{ on:=15,ground:=Ground.phase },{ on:=16,ground:=Ground.phase },{ on:=17,ground:=Ground.phase },{ on:=18,ground:=Ground.phase },{ on:=19,ground:=Ground.phase },{ on:=20,ground:=Ground.phase },{ on:=21,ground:=Ground.phase }],guard:=none }) (v:=?_) rfl (by kernel_rfl) (by kernel_rfl) (by kernel_rfl) (fun _ _ _ h=>h) (Or.inl ⟨by rfl,?_⟩) (by assumption) ?_
     rotate_left 1
     ·intro w hSw;(try dsimp only at hSw);go_simp <;> with_reducible rfl
     try simp only [Act.put,List.setIfInBounds_toArray,List.set_cons_zero,List.set_cons_succ]
     refine wpAnyH_done (by kernel_rfl) ?_ _
     go_wp2_with fail
     go_ret
     exact⟨congrArg (fun b=>Ending.returned (Value.bool b)) e.out.symm,hB2.out⟩
    exact AllReadyH.nil
   exact AllReadyH.nil
  ·have e:=Lib.hid (he.trans (by simp [q4,q5]:_=false))
   have q5':decide (f ≥ xf)=false:=by simpa using q5
   clear he
   go_enter Tryz.func94,Tryz.ntmps94
   go_wp2
   refine wp_region_held_drew (S:=(fun wr'=>wr'.cell? ⟨w.heap.size,1,none⟩=some (.int .i64 (k:Int))∧wr'.cell? ⟨w.heap.size,2,none⟩=some (.int .i64 f)∧wr'.cell? ⟨g',off'+k*4+2,none⟩=some (.int .i64 xf))) (by kernel_rfl) ?_ (fun hHeld=>?_)
   ·(try dsimp only);exact⟨c1'.out,c2'.out,d2'.out⟩
   try simp only [Act.put,List.setIfInBounds_toArray,List.set_cons_zero,List.set_cons_succ]
   refine wpAnyH_take (i:=0) (oi:={ dst:=some 16,op:=Op.move (Operand.tmp 0),type:=28,pos:= "shape.go:83",after:=#[],guard:=none }) (v:=?_) rfl (by kernel_rfl) (by kernel_rfl) (by kernel_rfl) (fun _ _ _ h=>h) (Or.inl ⟨by rfl,?_⟩) (by assumption) ?_
   rotate_left 1
   ·intro w hSw;(try dsimp only at hSw);go_simp <;> with_reducible rfl
   try simp only [Act.put,List.setIfInBounds_toArray,List.set_cons_zero,List.set_cons_succ]
   refine wpAnyH_take (i:=1) (oi:={ dst:=some 17,op:=Op.fieldAddr 72 (Operand.tmp 3) 1,type:=0,pos:= "shape.go:83",after:=#[],guard:=none }) (v:=?_) rfl (by kernel_rfl) (by kernel_rfl) (by kernel_rfl) (fun _ _ _ h=>h) (Or.inl ⟨by rfl,?_⟩) (by assumption) ?_
   rotate_left 1
   ·intro w hSw;(try dsimp only at hSw);go_simp <;> with_reducible rfl
   try simp only [Act.put,List.setIfInBounds_toArray,List.set_cons_zero,List.set_cons_succ]
   refine wpAnyH_take (i:=2) (oi:={ dst:=some 18,op:=Op.load 3 (Operand.tmp 17),type:=3,pos:= "shape.go:83",after:=#[{ on:=1,ground:=Ground.data }],guard:=none }) (v:=?_) rfl (by kernel_rfl) (by kernel_rfl) (by kernel_rfl) (fun _ _ _ h=>h) (Or.inl ⟨by rfl,?_⟩) (by assumption) ?_
   rotate_left 1
   ·intro w hSw;(try dsimp only at hSw);go_simp <;> with_reducible rfl
   try simp only [Act.put,List.setIfInBounds_toArray,List.set_cons_zero,List.set_cons_succ]
   refine wpAnyH_ready (rs:=[3]) (by kernel_rfl) (by simp) ?_
   refine AllReadyH.cons (o:={ dst:=some 19,op:=Op.call { callee:=Callee.value (Operand.func 108),args:=#[Operand.tmp 16,Operand.tmp 18],argTypes:=#[28,3] },type:=4,pos:= "shape.go:83",after:=#[{ on:=0,ground:=Ground.data },{ on:=2,ground:=Ground.data }],guard:=none }) rfl (fun K9 hK=>?_) ?_
   ·go_simp
    with_reducible refine (PI.out _).mono ?_
    rintro e1 y ⟨rfl,hy⟩
    subst hy
    go_wp2_with fail
    refine hK.out _ _ ?_ ?_
    ·(try dsimp only);exact⟨c1'.out,c2'.out,d2'.out⟩
    clear hK K9 hHeld;intro hHeld
    try simp only [Act.put,List.setIfInBounds_toArray,List.set_cons_zero,List.set_cons_succ]
    refine wpAnyH_take (i:=4) (oi:={ dst:=some 20,op:=Op.move (Operand.tmp 19),type:=4,pos:= "shape.go:83",after:=#[{ on:=3,ground:=Ground.data },{ on:=3,ground:=Ground.chain }],guard:=none }) (v:=?_) rfl (by kernel_rfl) (by kernel_rfl) (by kernel_rfl) (fun _ _ _ h=>h) (Or.inl ⟨by rfl,?_⟩) (by assumption) ?_
    rotate_left 1
    ·intro w hSw;(try dsimp only at hSw);go_simp <;> with_reducible rfl
    try simp only [Act.put,List.setIfInBounds_toArray,List.set_cons_zero,List.set_cons_succ]
    refine wpAnyH_take (i:=5) (oi:={ dst:=some 21,op:=Op.move (Operand.tmp 0),type:=28,pos:= "shape.go:83",after:=#[{ on:=4,ground:=Ground.guard }],guard:=some (4,true) }) (v:=?_) rfl (by kernel_rfl) (by kernel_rfl) (by kernel_rfl) (fun _ _ _ h=>h) (Or.inl ⟨by rfl,?_⟩) (by assumption) ?_
    rotate_left 1
    ·intro w hSw;(try dsimp only at hSw);go_simp <;> with_reducible rfl
    try simp only [Act.put,List.setIfInBounds_toArray,List.set_cons_zero,List.set_cons_succ]
    refine wpAnyH_take (i:=6) (oi:={ dst:=some 22,op:=Op.fieldAddr 72 (Operand.tmp 3) 1,type:=0,pos:= "shape.go:83",after:=#[{ on:=4,ground:=Ground.guard }],guard:=some (4,true) }) (v:=?_) rfl (by kernel_rfl) (by kernel_rfl) (by kernel_rfl) (fun _ _ _ h=>h) (Or.inl ⟨by rfl,?_⟩) (by assumption) ?_
    rotate_left 1
    ·intro w hSw;(try dsimp only at hSw);go_simp <;> with_reducible rfl
    try simp only [Act.put,List.setIfInBounds_toArray,List.set_cons_zero,List.set_cons_succ]
    refine wpAnyH_take (i:=7) (oi:={ dst:=some 23,op:=Op.load 3 (Operand.tmp 22),type:=3,pos:= "shape.go:83",after:=#[{ on:=6,ground:=Ground.data },{ on:=4,ground:=Ground.guard }],guard:=some (4,true) }) (v:=?_) rfl (by kernel_rfl) (by kernel_rfl) (by kernel_rfl) (fun _ _ _ h=>h) (Or.inl ⟨by rfl,?_⟩) (by assumption) ?_
    rotate_left 1
    ·intro w hSw;(try dsimp only at hSw);go_simp <;> with_reducible rfl
    try simp only [Act.put,List.setIfInBounds_toArray,List.set_cons_zero,List.set_cons_succ]
    refine wpAnyH_ready (rs:=[8]) (by kernel_rfl) (by simp) ?_
    refine AllReadyH.cons (o:={ dst:=some 24,op:=Op.call { callee:=Callee.value (Operand.func 109),args:=#[Operand.tmp 21,Operand.tmp 23],argTypes:=#[28,3] },type:=3,pos:= "shape.go:83",after:=#[{ on:=5,ground:=Ground.data },{ on:=7,ground:=Ground.data },{ on:=4,ground:=Ground.chain },{ on:=4,ground:=Ground.guard }],guard:=some (4,true) }) rfl (fun K9 hK=>?_) ?_
    ·go_simp
     with_reducible refine (PD.out _ (Below.refl _ _).drew).mono ?_
     rintro e1 y2 ⟨rfl,hw2⟩
     have hq:Below (w.alloc (.cells #[.string nm,.int .i64 (k:Int),.int .i64 f,bv] 72)).heap.size (w.alloc (.cells #[.string nm,.int .i64 (k:Int),.int .i64 f,bv] 72)) y2:=((Below.refl _ _).drew).trans hw2
     have hB2:=Lib.hid (hB.out.trans (hq.mono hB.out.size))
     have hk:=And.intro (cell_up hq c1'.out) (And.intro (cell_up hq c2'.out) (cell_up hq d2'.out))
     clear hw2 hq
     go_wp2_with fail
     refine hK.out _ _ ?_ ?_
     ·(try dsimp only);exact hk
     clear hK K9 hHeld;intro hHeld
     try simp only [Act.put,List.setIfInBounds_toArray,List.set_cons_zero,List.set_cons_succ]
     refine wpAnyH_take (i:=9) (oi:={ dst:=some 25,op:=Op.binOp BinOp.lss 3 (Operand.tmp 24) (Operand.const (Value.int IntKind.i64 8)) 3,type:=4,pos:= "shape.go:83",after:=#[{ on:=8,ground:=Ground.data },{ on:=4,ground:=Ground.guard }],guard:=some (4,true) }) (v:=?_) rfl (by kernel_rfl) (by kernel_rfl) (by kernel_rfl) (fun _ _ _ h=>h) (Or.inl ⟨by rfl,?_⟩) (by assumption) ?_
     rotate_left 1
     ·intro w hSw;(try dsimp only at hSw);go_simp <;> with_reducible rfl
     try simp only [Act.put,List.setIfInBounds_toArray,List.set_cons_zero,List.set_cons_succ]
     refine wpAnyH_take (i:=10) (oi:={ dst:=some 26,op:=Op.pick (Operand.tmp 20) (Operand.tmp 25) (Operand.const (Value.bool false)),type:=4,pos:= "shape.go:83",after:=#[{ on:=4,ground:=Ground.data },{ on:=9,ground:=Ground.data }],guard:=none }) (v:=?_) rfl (by kernel_rfl) (by kernel_rfl) (by kernel_rfl) (fun _ _ _ h=>h) (Or.inl ⟨by rfl,?_⟩) (by assumption) ?_
     rotate_left 1
     ·intro w hSw;(try dsimp only at hSw);go_simp <;> with_reducible rfl
     try simp only [Act.put,List.setIfInBounds_toArray,List.set_cons_zero,List.set_cons_succ]
     refine wpAnyH_take (i:=11) (oi:={ dst:=some 27,op:=Op.move (Operand.tmp 26),type:=4,pos:= "shape.go:83",after:=#[{ on:=10,ground:=Ground.data },{ on:=8,ground:=Ground.chain }],guard:=none }) (v:=?_) rfl (by kernel_rfl) (by kernel_rfl) (by kernel_rfl) (fun _ _ _ h=>h) (Or.inl ⟨by rfl,?_⟩) (by assumption) ?_
     rotate_left 1
     ·intro w hSw;(try dsimp only at hSw);go_simp <;> with_reducible rfl
     try simp only [Act.put,List.setIfInBounds_toArray,List.set_cons_zero,List.set_cons_succ]
     refine wpAnyH_take (i:=12) (oi:={ dst:=some 28,op:=Op.fieldAddr 72 (Operand.tmp 3) 2,type:=0,pos:= "shape.go:83",after:=#[{ on:=11,ground:=Ground.guard }],guard:=some (11,true) }) (v:=?_) rfl (by kernel_rfl) (by kernel_rfl) (by kernel_rfl) (fun _ _ _ h=>h) (Or.inl ⟨by rfl,?_⟩) (by assumption) ?_
     rotate_left 1
     ·intro w hSw;(try dsimp only at hSw);go_simp <;> with_reducible rfl
     try simp only [Act.put,List.setIfInBounds_toArray,List.set_cons_zero,List.set_cons_succ]
     refine wpAnyH_take (i:=13) (oi:={ dst:=some 29,op:=Op.load 3 (Operand.tmp 28),type:=3,pos:= "shape.go:83",after:=#[{ on:=12,ground:=Ground.data },{ on:=11,ground:=Ground.guard }],guard:=some (11,true) }) (v:=?_) rfl (by kernel_rfl) (by kernel_rfl) (by kernel_rfl) (fun _ _ _ h=>h) (Or.inl ⟨by rfl,?_⟩) (by assumption) ?_
     rotate_left 1
     ·intro w hSw;(try dsimp only at hSw);go_simp <;> with_reducible rfl
     try simp only [Act.put,List.setIfInBounds_toArray,List.set_cons_zero,List.set_cons_succ]
     refine wpAnyH_take (i:=14) (oi:={ dst:=some 30,op:=Op.move (Operand.tmp 0),type:=28,pos:= "shape.go:83",after:=#[{ on:=11,ground:=Ground.guard }],guard:=some (11,true) }) (v:=?_) rfl (by kernel_rfl) (by kernel_rfl) (by kernel_rfl) (fun _ _ _ h=>h) (Or.inl ⟨by rfl,?_⟩) (by assumption) ?_
     rotate_left 1
     ·intro w hSw;(try dsimp only at hSw);go_simp <;> with_reducible rfl
     try simp only [Act.put,List.setIfInBounds_toArray,List.set_cons_zero,List.set_cons_succ]
     refine wpAnyH_take (i:=15) (oi:={ dst:=some 31,op:=Op.fieldAddr 72 (Operand.tmp 3) 1,type:=0,pos:= "shape.go:83",after:=#[{ on:=11,ground:=Ground.guard }],guard:=some (11,true) }) (v:=?_) rfl (by kernel_rfl) (by kernel_rfl) (by kernel_rfl) (fun _ _ _ h=>h) (Or.inl ⟨by rfl,?_⟩) (by assumption) ?_
     rotate_left 1
     ·intro w hSw;(try dsimp only at hSw);go_simp <;> with_reducible rfl
     try simp only [Act.put,List.setIfInBounds_toArray,List.set_cons_zero,List.set_cons_succ]
     refine wpAnyH_take (i:=16) (oi:={ dst:=some 32,op:=Op.load 3 (Operand.tmp 31),type:=3,pos:= "shape.go:83",after:=#[{ on:=15,ground:=Ground.data },{ on:=11,ground:=Ground.guard }],guard:=some (11,true) }) (v:=?_) rfl (by kernel_rfl) (by kernel_rfl) (by kernel_rfl) (fun _ _ _ h=>h) (Or.inl ⟨by rfl,?_⟩) (by assumption) ?_
     rotate_left 1
     ·intro w hSw;(try dsimp only at hSw);go_simp <;> with_reducible rfl
     try simp only [Act.put,List.setIfInBounds_toArray,List.set_cons_zero,List.set_cons_succ]
     refine wpAnyH_take (i:=17) (oi:={ dst:=some 33,op:=Op.indexAddr 28 (Operand.tmp 30) (Operand.tmp 32),type:=0,pos:= "shape.go:83",after:=#[{ on:=14,ground:=Ground.data },{ on:=16,ground:=Ground.data },{ on:=11,ground:=Ground.guard }],guard:=some (11,true) }) (v:=?_) rfl (by kernel_rfl) (by kernel_rfl) (by kernel_rfl) (fun _ _ _ h=>h) (Or.inl ⟨by rfl,?_⟩) (by assumption) ?_
     rotate_left 1
     ·intro w hSw;(try dsimp only at hSw);go_simp <;> with_reducible rfl
     try simp only [Act.put,List.setIfInBounds_toArray,List.set_cons_zero,List.set_cons_succ]
     refine wpAnyH_take (i:=18) (oi:={ dst:=some 34,op:=Op.fieldAddr 72 (Operand.tmp 33) 2,type:=0,pos:= "shape.go:83",after:=#[{ on:=17,ground:=Ground.data },{ on:=11,ground:=Ground.guard }],guard:=some (11,true) }) (v:=?_) rfl (by kernel_rfl) (by kernel_rfl) (by kernel_rfl) (fun _ _ _ h=>h) (Or.inl ⟨by rfl,?_⟩) (by assumption) ?_
     rotate_left 1
     ·intro w hSw;(try dsimp only at hSw);go_simp <;> with_reducible rfl
     try simp only [Act.put,List.setIfInBounds_toArray,List.set_cons_zero,List.set_cons_succ]
     refine wpAnyH_take (i:=19) (oi:={ dst:=some 35,op:=Op.load 3 (Operand.tmp 34),type:=3,pos:= "shape.go:83",after:=#[{ on:=18,ground:=Ground.data },{ on:=11,ground:=Ground.guard }],guard:=some (11,true) }) (v:=?_) rfl (by kernel_rfl) (by kernel_rfl) (by kernel_rfl) (fun _ _ _ h=>h) (Or.inl ⟨by rfl,?_⟩) (by assumption) ?_
     rotate_left 1
     ·intro w hSw;(try dsimp only at hSw);go_simp <;> with_reducible rfl
     try simp only [Act.put,List.setIfInBounds_toArray,List.set_cons_zero,List.set_cons_succ]
     refine wpAnyH_take (i:=20) (oi:={ dst:=some 36,op:=Op.binOp BinOp.geq 3 (Operand.tmp 29) (Operand.tmp 35) 3,type:=4,pos:= "shape.go:83",after:=#[{ on:=13,ground:=Ground.data },{ on:=19,ground:=Ground.data },{ on:=11,ground:=Ground.guard }],guard:=some (11,true) }) (v:=?_) rfl (by kernel_rfl) (by kernel_rfl) (by kernel_rfl) (fun _ _ _ h=>h) (Or.inl ⟨by rfl,?_⟩) (by assumption) ?_
     rotate_left 1
     ·intro w hSw;(try dsimp only at hSw);go_simp <;> with_reducible rfl
     try simp only [Act.put,List.setIfInBounds_toArray,List.set_cons_zero,List.set_cons_succ]
     refine wpAnyH_take (i:=21) (oi:={ dst:=some 37,op:=Op.pick (Operand.tmp 27) (Operand.tmp 36) (Operand.const (Value.bool false)),type:=4,pos:= "shape.go:83",after:=#[{ on:=11,ground:=Ground.data },{ on:=20,ground:=Ground.data }],guard:=none }) (v:=?_) rfl (by kernel_rfl) (by kernel_rfl) (by kernel_rfl) (fun _ _ _ h=>h) (Or.inl ⟨by rfl,?_⟩) (by assumption) ?_
     rotate_left 1
     ·intro w hSw;(try dsimp only at hSw);go_simp <;> with_reducible rfl
     try simp only [Act.put,List.setIfInBounds_toArray,List.set_cons_zero,List.set_cons_succ]
     refine wpAnyH_take (i:=22) (oi:={ dst:=some 4,op:=Op.assign (Operand.tmp 37),type:=4,pos:= "shape.go:83",after:=#[{ on:=21,ground:=Ground.data },{ on:=11,ground:=Ground.chain },{ on:=0,ground:=Ground.phase },{ on:=1,ground:=Ground.phase },{ on:=2,ground:=Ground.phase },{ on:=3,ground:=Ground.phase },{ on:=4,ground:=Ground.phase },{ on:=5,ground:=Ground.phase },{ on:=6,ground:=Ground.phase },{ on:=7,ground:=Ground.phase },{ on:=8,ground:=Ground.phase },{ on:=9,ground:=Ground.phase },{ on:=10,ground:=Ground.phase },{ on:=11,ground:=Ground.phase },{ on:=12,ground:=Ground.phase },{ on:=13,ground:=Ground.phase },{ on:=14,ground:=Ground.phase },{ on:=15,ground:=Ground.phase },{ on:=16,ground:=Ground.phase },{ on:=17,ground:=Ground.phase },{ on:=18,ground:=Ground.phase },{ on:=19,ground:=Ground.phase },{ on:=20,ground:=Ground.phase },{ on:=21,ground:=Ground.phase }],guard:=none }) (v:=?_) rfl (by kernel_rfl) (by kernel_rfl) (by kernel_rfl) (fun _ _ _ h=>h) (Or.inl ⟨by rfl,?_⟩) (by assumption) ?_
     rotate_left 1
     ·intro w hSw;(try dsimp only at hSw);go_simp <;> with_reducible rfl
     try simp only [Act.put,List.setIfInBounds_toArray,List.set_cons_zero,List.set_cons_succ]
     refine wpAnyH_done (by kernel_rfl) ?_ _
     go_wp2_with fail
     go_ret
     exact⟨congrArg (fun b=>Ending.returned (Value.bool b)) e.out.symm,hB2.out⟩
    exact AllReadyH.nil
   exact AllReadyH.nil
 ·have q4':decide ((d:Int) < 8)=false:=by simp;omega
  have e:=Lib.hid (he.trans (by simp [q4]:_=false))
  clear he
  go_enter Tryz.func94,Tryz.ntmps94
  go_wp2
  refine wp_region_held_drew (S:=(fun wr'=>wr'.cell? ⟨w.heap.size,1,none⟩=some (.int .i64 (k:Int))∧wr'.cell? ⟨w.heap.size,2,none⟩=some (.int .i64 f)∧wr'.cell? ⟨g',off'+k*4+2,none⟩=some (.int .i64 xf))) (by kernel_rfl) ?_ (fun hHeld=>?_)
  ·(try dsimp only);exact⟨c1'.out,c2'.out,d2'.out⟩
  try simp only [Act.put,List.setIfInBounds_toArray,List.set_cons_zero,List.set_cons_succ]
  refine wpAnyH_take (i:=0) (oi:={ dst:=some 16,op:=Op.move (Operand.tmp 0),type:=28,pos:= "shape.go:83",after:=#[],guard:=none }) (v:=?_) rfl (by kernel_rfl) (by kernel_rfl) (by kernel_rfl) (fun _ _ _ h=>h) (Or.inl ⟨by rfl,?_⟩) (by assumption) ?_
  rotate_left 1
  ·intro w hSw;(try dsimp only at hSw);go_simp <;> with_reducible rfl
  try simp only [Act.put,List.setIfInBounds_toArray,List.set_cons_zero,List.set_cons_succ]
  refine wpAnyH_take (i:=1) (oi:={ dst:=some 17,op:=Op.fieldAddr 72 (Operand.tmp 3) 1,type:=0,pos:= "shape.go:83",after:=#[],guard:=none }) (v:=?_) rfl (by kernel_rfl) (by kernel_rfl) (by kernel_rfl) (fun _ _ _ h=>h) (Or.inl ⟨by rfl,?_⟩) (by assumption) ?_
  rotate_left 1
  ·intro w hSw;(try dsimp only at hSw);go_simp <;> with_reducible rfl
  try simp only [Act.put,List.setIfInBounds_toArray,List.set_cons_zero,List.set_cons_succ]
  refine wpAnyH_take (i:=2) (oi:={ dst:=some 18,op:=Op.load 3 (Operand.tmp 17),type:=3,pos:= "shape.go:83",after:=#[{ on:=1,ground:=Ground.data }],guard:=none }) (v:=?_) rfl (by kernel_rfl) (by kernel_rfl) (by kernel_rfl) (fun _ _ _ h=>h) (Or.inl ⟨by rfl,?_⟩) (by assumption) ?_
  rotate_left 1
  ·intro w hSw;(try dsimp only at hSw);go_simp <;> with_reducible rfl
  try simp only [Act.put,List.setIfInBounds_toArray,List.set_cons_zero,List.set_cons_succ]
  refine wpAnyH_ready (rs:=[3]) (by kernel_rfl) (by simp) ?_
  refine AllReadyH.cons (o:={ dst:=some 19,op:=Op.call { callee:=Callee.value (Operand.func 108),args:=#[Operand.tmp 16,Operand.tmp 18],argTypes:=#[28,3] },type:=4,pos:= "shape.go:83",after:=#[{ on:=0,ground:=Ground.data },{ on:=2,ground:=Ground.data }],guard:=none }) rfl (fun K9 hK=>?_) ?_
  ·go_simp
   with_reducible refine (PI.out _).mono ?_
   rintro e1 y ⟨rfl,hy⟩
   subst hy
   go_wp2_with fail
   refine hK.out _ _ ?_ ?_
   ·(try dsimp only);exact⟨c1'.out,c2'.out,d2'.out⟩
   clear hK K9 hHeld;intro hHeld
   try simp only [Act.put,List.setIfInBounds_toArray,List.set_cons_zero,List.set_cons_succ]
   refine wpAnyH_take (i:=4) (oi:={ dst:=some 20,op:=Op.move (Operand.tmp 19),type:=4,pos:= "shape.go:83",after:=#[{ on:=3,ground:=Ground.data },{ on:=3,ground:=Ground.chain }],guard:=none }) (v:=?_) rfl (by kernel_rfl) (by kernel_rfl) (by kernel_rfl) (fun _ _ _ h=>h) (Or.inl ⟨by rfl,?_⟩) (by assumption) ?_
   rotate_left 1
   ·intro w hSw;(try dsimp only at hSw);go_simp <;> with_reducible rfl
   try simp only [Act.put,List.setIfInBounds_toArray,List.set_cons_zero,List.set_cons_succ]
   refine wpAnyH_take (i:=5) (oi:={ dst:=some 21,op:=Op.move (Operand.tmp 0),type:=28,pos:= "shape.go:83",after:=#[{ on:=4,ground:=Ground.guard }],guard:=some (4,true) }) (v:=?_) rfl (by kernel_rfl) (by kernel_rfl) (by kernel_rfl) (fun _ _ _ h=>h) (Or.inl ⟨by rfl,?_⟩) (by assumption) ?_
   rotate_left 1
   ·intro w hSw;(try dsimp only at hSw);go_simp <;> with_reducible rfl
   try simp only [Act.put,List.setIfInBounds_toArray,List.set_cons_zero,List.set_cons_succ]
   refine wpAnyH_take (i:=6) (oi:={ dst:=some 22,op:=Op.fieldAddr 72 (Operand.tmp 3) 1,type:=0,pos:= "shape.go:83",after:=#[{ on:=4,ground:=Ground.guard }],guard:=some (4,true) }) (v:=?_) rfl (by kernel_rfl) (by kernel_rfl) (by kernel_rfl) (fun _ _ _ h=>h) (Or.inl ⟨by rfl,?_⟩) (by assumption) ?_
   rotate_left 1
   ·intro w hSw;(try dsimp only at hSw);go_simp <;> with_reducible rfl
   try simp only [Act.put,List.setIfInBounds_toArray,List.set_cons_zero,List.set_cons_succ]
   refine wpAnyH_take (i:=7) (oi:={ dst:=some 23,op:=Op.load 3 (Operand.tmp 22),type:=3,pos:= "shape.go:83",after:=#[{ on:=6,ground:=Ground.data },{ on:=4,ground:=Ground.guard }],guard:=some (4,true) }) (v:=?_) rfl (by kernel_rfl) (by kernel_rfl) (by kernel_rfl) (fun _ _ _ h=>h) (Or.inl ⟨by rfl,?_⟩) (by assumption) ?_
   rotate_left 1
   ·intro w hSw;(try dsimp only at hSw);go_simp <;> with_reducible rfl
   try simp only [Act.put,List.setIfInBounds_toArray,List.set_cons_zero,List.set_cons_succ]
   refine wpAnyH_ready (rs:=[8]) (by kernel_rfl) (by simp) ?_
   refine AllReadyH.cons (o:={ dst:=some 24,op:=Op.call { callee:=Callee.value (Operand.func 109),args:=#[Operand.tmp 21,Operand.tmp 23],argTypes:=#[28,3] },type:=3,pos:= "shape.go:83",after:=#[{ on:=5,ground:=Ground.data },{ on:=7,ground:=Ground.data },{ on:=4,ground:=Ground.chain },{ on:=4,ground:=Ground.guard }],guard:=some (4,true) }) rfl (fun K9 hK=>?_) ?_
   ·go_simp
    with_reducible refine (PD.out _ (Below.refl _ _).drew).mono ?_
    rintro e1 y2 ⟨rfl,hw2⟩
    have hq:Below (w.alloc (.cells #[.string nm,.int .i64 (k:Int),.int .i64 f,bv] 72)).heap.size (w.alloc (.cells #[.string nm,.int .i64 (k:Int),.int .i64 f,bv] 72)) y2:=((Below.refl _ _).drew).trans hw2
    have hB2:=Lib.hid (hB.out.trans (hq.mono hB.out.size))
    have hk:=And.intro (cell_up hq c1'.out) (And.intro (cell_up hq c2'.out) (cell_up hq d2'.out))
    clear hw2 hq
    go_wp2_with fail
    refine hK.out _ _ ?_ ?_
    ·(try dsimp only);exact hk
    clear hK K9 hHeld;intro hHeld
    try simp only [Act.put,List.setIfInBounds_toArray,List.set_cons_zero,List.set_cons_succ]
    refine wpAnyH_take (i:=9) (oi:={ dst:=some 25,op:=Op.binOp BinOp.lss 3 (Operand.tmp 24) (Operand.const (Value.int IntKind.i64 8)) 3,type:=4,pos:= "shape.go:83",after:=#[{ on:=8,ground:=Ground.data },{ on:=4,ground:=Ground.guard }],guard:=some (4,true) }) (v:=?_) rfl (by kernel_rfl) (by kernel_rfl) (by kernel_rfl) (fun _ _ _ h=>h) (Or.inl ⟨by rfl,?_⟩) (by assumption) ?_
    rotate_left 1
    ·intro w hSw;(try dsimp only at hSw);go_simp <;> with_reducible rfl
    try simp only [Act.put,List.setIfInBounds_toArray,List.set_cons_zero,List.set_cons_succ]
    refine wpAnyH_take (i:=10) (oi:={ dst:=some 26,op:=Op.pick (Operand.tmp 20) (Operand.tmp 25) (Operand.const (Value.bool false)),type:=4,pos:= "shape.go:83",after:=#[{ on:=4,ground:=Ground.data },{ on:=9,ground:=Ground.data }],guard:=none }) (v:=?_) rfl (by kernel_rfl) (by kernel_rfl) (by kernel_rfl) (fun _ _ _ h=>h) (Or.inl ⟨by rfl,?_⟩) (by assumption) ?_
    rotate_left 1
    ·intro w hSw;(try dsimp only at hSw);go_simp <;> with_reducible rfl
    try simp only [Act.put,List.setIfInBounds_toArray,List.set_cons_zero,List.set_cons_succ]
    refine wpAnyH_take (i:=11) (oi:={ dst:=some 27,op:=Op.move (Operand.tmp 26),type:=4,pos:= "shape.go:83",after:=#[{ on:=10,ground:=Ground.data },{ on:=8,ground:=Ground.chain }],guard:=none }) (v:=?_) rfl (by kernel_rfl) (by kernel_rfl) (by kernel_rfl) (fun _ _ _ h=>h) (Or.inl ⟨by rfl,?_⟩) (by assumption) ?_
    rotate_left 1
    ·intro w hSw;(try dsimp only at hSw);go_simp <;> with_reducible rfl
    try simp only [Act.put,List.setIfInBounds_toArray,List.set_cons_zero,List.set_cons_succ]
    refine wpAnyH_take (i:=12) (oi:={ dst:=some 28,op:=Op.fieldAddr 72 (Operand.tmp 3) 2,type:=0,pos:= "shape.go:83",after:=#[{ on:=11,ground:=Ground.guard }],guard:=some (11,true) }) (v:=undef) rfl (by kernel_rfl) (by kernel_rfl) (by kernel_rfl) (fun _ _ _ h=>h) (Or.inr ⟨by rfl,rfl⟩) (by assumption) ?_
    try simp only [Act.put,List.setIfInBounds_toArray,List.set_cons_zero,List.set_cons_succ]
    refine wpAnyH_take (i:=13) (oi:={ dst:=some 29,op:=Op.load 3 (Operand.tmp 28),type:=3,pos:= "shape.go:83",after:=#[{ on:=12,ground:=Ground.data },{ on:=11,ground:=Ground.guard }],guard:=some (11,true) }) (v:=undef) rfl (by kernel_rfl) (by kernel_rfl) (by kernel_rfl) (fun _ _ _ h=>h) (Or.inr ⟨by rfl,rfl⟩) (by assumption) ?_
    try simp only [Act.put,List.setIfInBounds_toArray,List.set_cons_zero,List.set_cons_succ]
    refine wpAnyH_take (i:=14) (oi:={ dst:=some 30,op:=Op.move (Operand.tmp 0),type:=28,pos:= "shape.go:83",after:=#[{ on:=11,ground:=Ground.guard }],guard:=some (11,true) }) (v:=undef) rfl (by kernel_rfl) (by kernel_rfl) (by kernel_rfl) (fun _ _ _ h=>h) (Or.inr ⟨by rfl,rfl⟩) (by assumption) ?_
    try simp only [Act.put,List.setIfInBounds_toArray,List.set_cons_zero,List.set_cons_succ]
    refine wpAnyH_take (i:=15) (oi:={ dst:=some 31,op:=Op.fieldAddr 72 (Operand.tmp 3) 1,type:=0,pos:= "shape.go:83",after:=#[{ on:=11,ground:=Ground.guard }],guard:=some (11,true) }) (v:=undef) rfl (by kernel_rfl) (by kernel_rfl) (by kernel_rfl) (fun _ _ _ h=>h) (Or.inr ⟨by rfl,rfl⟩) (by assumption) ?_
    try simp only [Act.put,List.setIfInBounds_toArray,List.set_cons_zero,List.set_cons_succ]
    refine wpAnyH_take (i:=16) (oi:={ dst:=some 32,op:=Op.load 3 (Operand.tmp 31),type:=3,pos:= "shape.go:83",after:=#[{ on:=15,ground:=Ground.data },{ on:=11,ground:=Ground.guard }],guard:=some (11,true) }) (v:=undef) rfl (by kernel_rfl) (by kernel_rfl) (by kernel_rfl) (fun _ _ _ h=>h) (Or.inr ⟨by rfl,rfl⟩) (by assumption) ?_
    try simp only [Act.put,List.setIfInBounds_toArray,List.set_cons_zero,List.set_cons_succ]
    refine wpAnyH_take (i:=17) (oi:={ dst:=some 33,op:=Op.indexAddr 28 (Operand.tmp 30) (Operand.tmp 32),type:=0,pos:= "shape.go:83",after:=#[{ on:=14,ground:=Ground.data },{ on:=16,ground:=Ground.data },{ on:=11,ground:=Ground.guard }],guard:=some (11,true) }) (v:=undef) rfl (by kernel_rfl) (by kernel_rfl) (by kernel_rfl) (fun _ _ _ h=>h) (Or.inr ⟨by rfl,rfl⟩) (by assumption) ?_
    try simp only [Act.put,List.setIfInBounds_toArray,List.set_cons_zero,List.set_cons_succ]
    refine wpAnyH_take (i:=18) (oi:={ dst:=some 34,op:=Op.fieldAddr 72 (Operand.tmp 33) 2,type:=0,pos:= "shape.go:83",after:=#[{ on:=17,ground:=Ground.data },{ on:=11,ground:=Ground.guard }],guard:=some (11,true) }) (v:=undef) rfl (by kernel_rfl) (by kernel_rfl) (by kernel_rfl) (fun _ _ _ h=>h) (Or.inr ⟨by rfl,rfl⟩) (by assumption) ?_
    try simp only [Act.put,List.setIfInBounds_toArray,List.set_cons_zero,List.set_cons_succ]
    refine wpAnyH_take (i:=19) (oi:={ dst:=some 35,op:=Op.load 3 (Operand.tmp 34),type:=3,pos:= "shape.go:83",after:=#[{ on:=18,ground:=Ground.data },{ on:=11,ground:=Ground.guard }],guard:=some (11,true) }) (v:=undef) rfl (by kernel_rfl) (by kernel_rfl) (by kernel_rfl) (fun _ _ _ h=>h) (Or.inr ⟨by rfl,rfl⟩) (by assumption) ?_
    try simp only [Act.put,List.setIfInBounds_toArray,List.set_cons_zero,List.set_cons_succ]
    refine wpAnyH_take (i:=20) (oi:={ dst:=some 36,op:=Op.binOp BinOp.geq 3 (Operand.tmp 29) (Operand.tmp 35) 3,type:=4,pos:= "shape.go:83",after:=#[{ on:=13,ground:=Ground.data },{ on:=19,ground:=Ground.data },{ on:=11,ground:=Ground.guard }],guard:=some (11,true) }) (v:=undef) rfl (by kernel_rfl) (by kernel_rfl) (by kernel_rfl) (fun _ _ _ h=>h) (Or.inr ⟨by rfl,rfl⟩) (by assumption) ?_
    try simp only [Act.put,List.setIfInBounds_toArray,List.set_cons_zero,List.set_cons_succ]
    refine wpAnyH_take (i:=21) (oi:={ dst:=some 37,op:=Op.pick (Operand.tmp 27) (Operand.tmp 36) (Operand.const (Value.bool false)),type:=4,pos:= "shape.go:83",after:=#[{ on:=11,ground:=Ground.data },{ on:=20,ground:=Ground.data }],guard:=none }) (v:=?_) rfl (by kernel_rfl) (by kernel_rfl) (by kernel_rfl) (fun _ _ _ h=>h) (Or.inl ⟨by rfl,?_⟩) (by assumption) ?_
    rotate_left 1
    ·intro w hSw;(try dsimp only at hSw);go_simp <;> with_reducible rfl
    try simp only [Act.put,List.setIfInBounds_toArray,List.set_cons_zero,List.set_cons_succ]
    refine wpAnyH_take (i:=22) (oi:={ dst:=some 4,op:=Op.assign (Operand.tmp 37),type:=4,pos:= "shape.go:83",after:=#[{ on:=21,ground:=Ground.data },{ on:=11,ground:=Ground.chain },{ on:=0,ground:=Ground.phase },{ on:=1,ground:=Ground.phase },{ on:=2,ground:=Ground.phase },{ on:=3,ground:=Ground.phase },{ on:=4,ground:=Ground.phase },{ on:=5,ground:=Ground.phase },{ on:=6,ground:=Ground.phase },{ on:=7,ground:=Ground.phase },{ on:=8,ground:=Ground.phase },{ on:=9,ground:=Ground.phase },{ on:=10,ground:=Ground.phase },{ on:=11,ground:=Ground.phase },{ on:=12,ground:=Ground.phase },{ on:=13,ground:=Ground.phase },{ on:=14,ground:=Ground.phase },{ on:=15,ground:=Ground.phase },{ on:=16,ground:=Ground.phase },{ on:=17,ground:=Ground.phase },{ on:=18,ground:=Ground.phase },{ on:=19,ground:=Ground.phase },{ on:=20,ground:=Ground.phase },{ on:=21,ground:=Ground.phase }],guard:=none }) (v:=?_) rfl (by kernel_rfl) (by kernel_rfl) (by kernel_rfl) (fun _ _ _ h=>h) (Or.inl ⟨by rfl,?_⟩) (by assumption) ?_
    rotate_left 1
    ·intro w hSw;(try dsimp only at hSw);go_simp <;> with_reducible rfl
    try simp only [Act.put,List.setIfInBounds_toArray,List.set_cons_zero,List.set_cons_succ]
    refine wpAnyH_done (by kernel_rfl) ?_ _
    go_wp2_with fail
    go_ret
    exact⟨congrArg (fun b=>Ending.returned (Value.bool b)) e.out.symm,hB2.out⟩
   exact AllReadyH.nil
  exact AllReadyH.nil
end Wd
end Go.Proofs.YteiejjmhmmkdhaaGreat
