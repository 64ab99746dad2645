/- Texts joined: USA0, UOA, WC, WD, WPures, WE, TK, WF, VA, LB, LR, VB, OInst. -/
import Derived.Test.YteiejjmhmmkdhaaGreatJ1
import Derived.Test.YteiejjmhmmkdhaaGreatJ8
import Derived.BigRegion
import Derived.Deep.RegionHeld3
import Derived.Deep.RegionWith
import Derived.Deep.DeepCutAuto
import Derived.Deep.CutBlock
import Derived.Maps.AppendAt
import Derived.Deep.AppendLies
import Derived.Laws.MakeOwn
import Derived.OrdersHeld
import Derived.WalkKit
import Derived.KernelRfl
import Derived.Lib.BytesEntry
import Derived.Lib.IndexLaws
import Derived.Lib.CountLaws
/- Are two programs the same? (the document's own) -/
namespace Go.Proofs.YteiejjmhmmkdhaaGreat
open Go.RowKit
set_option linter.unusedVariables false
set_option maxRecDepth 20000
namespace Wd
instance decClassA:DecidableEq ClassA:=fun a b=>decidable_of_iff (a.nm=b.nm∧a.super=b.super∧a.fields=b.fields∧a.binds=b.binds) (by
 cases a;cases b;simp)
instance decMethA:DecidableEq MethA:=fun a b=>decidable_of_iff (a.args=b.args∧a.temps=b.temps∧a.lits=b.lits∧a.code=b.code) (by
 cases a;cases b;simp)
instance decObjA:DecidableEq ObjA:=fun a b=>decidable_of_iff (a.cls=b.cls∧a.flds=b.flds) (by
 cases a;cases b;simp)
theorem MtV.at {w:World} {ad:Option Addr} {n cap:Nat} {L:List MethA} (h:MtV w (.slice ad n cap) L) {k:Nat} {x:MethA} (hx:L[k]?=some x):∃ g off la lc ca cc,ad=some ⟨g,off,none⟩∧w.cell? ⟨g,off+k*4,none⟩=some (.int .i64 x.args)∧w.cell? ⟨g,off+k*4+1,none⟩=some (.int .i64 x.temps)∧w.cell? ⟨g,off+k*4+2,none⟩=some (.slice la x.lits.length lc)∧w.cell? ⟨g,off+k*4+3,none⟩=some (.slice ca x.code.length cc)∧MeV w (.agg #[.int .i64 x.args,.int .i64 x.temps,.slice la x.lits.length lc,.slice ca x.code.length cc]) x:=by
 obtain⟨ad',cap',e,_,_,h3⟩:=h.ex
 cases e
 obtain⟨i1,i2,g,off,lv,cv,e,c0,c1,c2,c3,p,q⟩:=h3 k x hx
 obtain⟨la,lc,rfl,_,_⟩:=p.form
 obtain⟨cb,cc,rfl,_,_⟩:=q.form
 exact⟨g,off,la,lc,cb,cc,e,c0,c1,c2,c3,⟨⟨la,lc,cb,cc,rfl,p,q⟩,i1,i2⟩⟩
structure S5 (w wr:World) (U V:UnitA) (na:Option Addr) (nc:Nat) (ca:Option Addr) (cc:Nat) (ma:Option Addr) (mc:Nat) (oa:Option Addr) (oc:Nat) (pa:Option Addr) (pc:Nat) (qa:Option Addr) (qc:Nat) (ra:Option Addr) (rc:Nat) (sa:Option Addr) (sc:Nat) (l1 l2 l3 l4 r1 r2 r3 r4:Nat):Prop where
 mk ::
 cells:wr.cell? ⟨w.heap.size,0,none⟩=some (.slice na l1 nc)∧wr.cell? ⟨w.heap.size,1,none⟩=some (.slice ca l2 cc)∧wr.cell? ⟨w.heap.size,2,none⟩=some (.slice ma l3 mc)∧wr.cell? ⟨w.heap.size,3,none⟩=some (.slice oa l4 oc)∧wr.cell? ⟨w.heap.size,4,none⟩=some (.int .i64 U.main)∧wr.cell? ⟨w.heap.size+1,0,none⟩=some (.slice pa r1 pc)∧wr.cell? ⟨w.heap.size+1,1,none⟩=some (.slice qa r2 qc)∧wr.cell? ⟨w.heap.size+1,2,none⟩=some (.slice ra r3 rc)∧wr.cell? ⟨w.heap.size+1,3,none⟩=some (.slice sa r4 sc)∧wr.cell? ⟨w.heap.size+1,4,none⟩=some (.int .i64 V.main)
 views:NmV wr (.slice na l1 nc) U.names∧ClV wr (.slice ca l2 cc) U.classes∧MtV wr (.slice ma l3 mc) U.methods∧ObV wr (.slice oa l4 oc) U.objects∧NmV wr (.slice pa r1 pc) V.names∧ClV wr (.slice qa r2 qc) V.classes∧MtV wr (.slice ra r3 rc) V.methods∧ObV wr (.slice sa r4 sc) V.objects
 lens:l1=U.names.length∧l2=U.classes.length∧l3=U.methods.length∧l4=U.objects.length∧r1=V.names.length∧r2=V.classes.length∧r3=V.methods.length∧r4=V.objects.length
 les:l1≤maxLen∧l2≤maxLen∧l3≤maxLen∧l4≤maxLen
 caps:l1≤nc∧l2≤cc∧l3≤mc∧l4≤oc∧r1≤pc∧r2≤qc∧r3≤rc∧r4≤sc
 bel:Below w.heap.size w wr
section
variable {w wr w2:World} {U V:UnitA} {na ca ma oa pa qa ra sa:Option Addr} {nc cc mc oc pc qc rc sc l1 l2 l3 l4 r1 r2 r3 r4:Nat}
theorem S5.up (h:S5 w wr U V na nc ca cc ma mc oa oc pa pc qa qc ra rc sa sc l1 l2 l3 l4 r1 r2 r3 r4) (b:Below wr.heap.size wr w2):S5 w w2 U V na nc ca cc ma mc oa oc pa pc qa qc ra rc sa sc l1 l2 l3 l4 r1 r2 r3 r4:=by
 obtain⟨a0,a1,a2,a3,a4,a5,a6,a7,a8,a9⟩:=h.cells
 obtain⟨v0,v1,v2,v3,v4,v5,v6,v7⟩:=h.views
 exact⟨⟨cell_up b a0,cell_up b a1,cell_up b a2,cell_up b a3,cell_up b a4,cell_up b a5,cell_up b a6,cell_up b a7,cell_up b a8,cell_up b a9⟩,⟨v0.up b,v1.up b,v2.up b,v3.up b,v4.up b,v5.up b,v6.up b,v7.up b⟩,h.lens,h.les,h.caps,h.bel.trans (b.mono h.bel.size)⟩
theorem S5.drew (h:S5 w wr U V na nc ca cc ma mc oa oc pa pc qa qc ra rc sa sc l1 l2 l3 l4 r1 r2 r3 r4):S5 w wr.drew U V na nc ca cc ma mc oa oc pa pc qa qc ra rc sa sc l1 l2 l3 l4 r1 r2 r3 r4:=h.up ((Below.refl _ _).drew)
end
theorem EqR.all {T:Type} {A B:List T} {n:Nat} (h:EqR A B n) (ha:n=A.length) (hb:n=B.length):A=B:=by
 have:=h.eq
 rwa [ha,List.take_length,← ha,hb,List.take_length] at this
end Wd
end Go.Proofs.YteiejjmhmmkdhaaGreat

/- An append of a row of whatever is read, none too (names, methods, objects besides). -/
namespace Go.Proofs.YteiejjmhmmkdhaaGreat
open Go.RowKit
set_option linter.unusedVariables false
set_option maxRecDepth 20000
namespace Wd
def Rd (w:World) (u:Value) (m:Nat) (news:List Value):Prop:=(∃ c,u=.slice none 0 c∧m=0∧news=[])∨∃ ad c,u=.slice (some ad) m c∧∀ j x,news[j]?=some x→w.cell? (ad.add j)=some x
theorem Rd.up {w w1:World} {u:Value} {m:Nat} {news:List Value} (h:Rd w u m news) (b:Below w.heap.size w w1):Rd w1 u m news:=by
 rcases h with h | ⟨ad,c,e,hc⟩
 ·exact Or.inl h
 ·exact Or.inr ⟨ad,c,e,fun j x hx=>cell_up b (hc j x hx)⟩
theorem run_app_none {P:Program} (w:World) (base:Nat) (t ty e:TypeId) (i:TypeInfo) (size n c:Nat) (ht:P.underlying t=some (.slice e)) (hi:P.info? e=some i) (v:Value) (xs:List Value) (hown:w.ownsRow base e size v n xs) :
  (Builtin.append_ #[t,t] ty #[v,.slice none 0 c]).run P w=.ok v w:=by
 rcases hown.2 with ⟨rfl,rfl⟩ | ⟨g,cap,cur,rfl,_,_,hle,_⟩
 ·simp [Builtin.append_,run_underlying ht,sizeOf,typeInfo,hi,Builtin.lenOf,Builtin.firstCells]
 ·simp [Builtin.append_,run_underlying ht,sizeOf,typeInfo,hi,Builtin.lenOf,Builtin.firstCells,hle,storeCells]
theorem run_app_any {P:Program} (w:World) (base:Nat) (t ty e:TypeId) (i:TypeInfo) (z:Value) (size bytes:Nat) (ht:P.underlying t=some (.slice e)) (hi:P.info? e=some i) (hz:i.zero=some z)
  (hsize:i.size=size) (hby:i.bytes=bytes) (hzs:z.cells.size=size) (hsz:0 < size)
  (v u:Value) (n m:Nat) (xs news:List Value) (hown:w.ownsRow base e size v n xs) (hu:Rd w u m news) (hl:news.length=m*size) (h1:∀ u∈news,u.oneCell'=true)
  (h63:n+m≤maxLen) (hbytes:(n+m)*bytes≤140737488355328) (hbase:base≤w.heap.size) :
  ∃ v' w',(Builtin.append_ #[t,t] ty #[v,u]).run P w=.ok v' w'∧w'.ownsRow base e size v' (n+m) (xs++news)∧w.grownBy w' v.ownBlock∧(v'.ownBlock=v.ownBlock∨v'.ownBlock=some w.heap.size):=by
 rcases hu with ⟨c,rfl,rfl,rfl⟩ | ⟨ad,c,rfl,hc⟩
 ·exact⟨v,w,run_app_none w base t ty e i size n c ht hi v xs hown,by simpa using hown,grown_refl _ _,Or.inl rfl⟩
 ·obtain⟨v',w',hr,h2,h3,_,h5⟩:=run_append_own_at (P:=P) w base t ty e i z size bytes ht hi hz hsize hby hzs hsz v n xs hown ad m c news hl hc h1 h63 hbytes hbase
  exact⟨v',w',hr,h2,h3,h5⟩
theorem wpList_app_any {P:Program} {w:World} {ops:Array Oper} {rest:List Oper} {o:Oper} {a:Act} {Q:Exit→Act→World→Prop} (hgd:o.guard=none) (s x:Operand) (t:TypeId)
  (ho:o.op=.call { callee:=.builtin .append,args:=#[s,x],argTypes:=#[t,t] })
  (base:Nat) (e:TypeId) (i:TypeInfo) (z:Value) (size bytes:Nat) (ht:P.underlying t=some (.slice e)) (hi:P.info? e=some i) (hz:i.zero=some z)
  (hsize:i.size=size) (hby:i.bytes=bytes) (hzs:z.cells.size=size) (hsz:0 < size)
  (v u:Value) (n m:Nat) (xs news:List Value) (hs:a.eval s=v) (hx:a.eval x=u) (hown:w.ownsRow base e size v n xs) (hu:Rd w u m news) (hl:news.length=m*size) (h1:∀ u∈news,u.oneCell'=true)
  (h63:n+m≤maxLen) (hbytes:(n+m)*bytes≤140737488355328) (hbase:base≤w.heap.size)
  (h:∀ v' w',w'.ownsRow base e size v' (n+m) (xs++news)→w.grownBy w' v.ownBlock→(v'.ownBlock=v.ownBlock∨v'.ownBlock=some w.heap.size)→wpList P ops Q rest (a.put o.dst v') w'):wpList P ops Q (o :: rest) a w:=by
 refine wpList_plain hgd fun K hK=>?_
 obtain⟨v',w',hr,h2,h3,h5⟩:=run_app_any (P:=P) w base t o.type e i z size bytes ht hi hz hsize hby hzs hsz v u n m xs news hown hu hl h1 h63 hbytes hbase
 unfold Oper.wp execOp
 simp only [ho,resolve,invoke,builtin,Sem.run_bind,Sem.run_pure,Result.andThen_ok,List.map_toArray,List.map_cons,List.map_nil,hs,hx,hr]
 exact hK _ _ (h v' w' h2 h3 h5)
theorem PrV.cells {w:World} {ad:Option Addr} {n cap:Nat} {L:List (Int × Int)} (h:PrV w (.slice ad n cap) L):∀ k u,(pr2 L)[k]?=some u→∃ g off,ad=some ⟨g,off,none⟩∧w.cell? ⟨g,off+k,none⟩=some u:=by
 intro k u hk
 obtain⟨q,r,hr,rfl⟩:∃ q r,r < 2∧k=q*2+r:=⟨k / 2,k % 2,by omega,by omega⟩
 have hq:q < L.length:=by have:=(List.getElem?_eq_some_iff.1 hk).1;rw [pr2_len] at this;omega
 obtain⟨x,hx⟩:∃ x,L[q]?=some x:=⟨L[q],by simp⟩
 obtain⟨_,_,g,off,e,c0,c1⟩:=h.at hx
 obtain⟨p0,p1⟩:=pr2_get L q x hx
 refine⟨g,off,e,?_⟩
 rcases (show r=0∨r=1 by omega) with rfl | rfl
 ·rw [Nat.add_zero] at hk ⊢
  rw [p0] at hk;cases hk
  exact c0
 ·rw [p1] at hk;cases hk
  exact c1
theorem PrV.b64 {w:World} {v:Value} {L:List (Int × Int)} (h:PrV w v L):∀ x∈L,In64 x.1∧In64 x.2:=by
 intro x hx
 obtain⟨ad,cap,rfl,_⟩:=h.form
 obtain⟨k,hk⟩:=List.getElem?_of_mem hx
 obtain⟨a,b,_⟩:=h.at hk
 exact⟨a,b⟩
theorem PrV.nil (w:World):PrV w (.slice none 0 0) []:=⟨none,0,rfl,by simp,by decide,fun k x hx=>by simp at hx⟩
theorem ByV.nil (w:World):ByV w (.slice none 0 0) []:=⟨none,0,rfl,by simp,by decide,fun k x hx=>by simp at hx⟩
end Wd
end Go.Proofs.YteiejjmhmmkdhaaGreat

/- The landed Ideal: New, Put, Alloc. -/
namespace Go.Proofs.YteiejjmhmmkdhaaGreat
open Go.RowKit
set_option linter.unusedVariables false
set_option maxRecDepth 20000
namespace Wd
section
variable {w w' w1 w2:World} {p:Nat} {v:Value} {xs:List Value} {B:Nat→Nat} {L:List Ob8}
theorem puO_len (x:Ob8) (i y:Int):(puO x i y).2.length=x.2.length:=by simp [puO]
theorem puL_len (L:List Ob8) (id i y:Int):(puL L id i y).length=L.length:=by unfold puL;split <;> simp
theorem ID.put (h:ID w p v xs B L) {k j:Nat} {x:Ob8} (hx:L[k]?=some x) (hj:j < x.2.length) {y:Int} (hy:b32 y) :
  ID (w.setCell ⟨B k,1+j,none⟩ (.int .u32 y)) p v xs B (L.set k (puO x (j:Int) y))∧Cg (unD p v B L.length) w (w.setCell ⟨B k,1+j,none⟩ (.int .u32 y)):=by
 have hk:=(List.getElem?_eq_some_iff.1 hx).1
 have hc:Cg (fun q=>q=B k) w (w.setCell ⟨B k,1+j,none⟩ (.int .u32 y)):=(Cg.refl (fun q=>q=B k) w).set ⟨B k,1+j,none⟩ rfl _
 have oth:∀ q,q < w.heap.size→q≠B k→(w.setCell ⟨B k,1+j,none⟩ (.int .u32 y)).heap[q]?=w.heap[q]?:=fun q hq hne=>hc.block q hq hne
 refine⟨⟨?_,?_,?_,?_,?_,?_,h.vp⟩,hc.mono (fun q hq=>Or.inr (Or.inr ⟨k,hk,hq⟩))⟩
 ·exact (World.cell?_of_block (a:=⟨p,0,none⟩) (oth p (World.block_lt_of_cell? w _ h.c0) (fun e=>(h.ap k hk).1 e.symm))).trans h.c0
 ·rw [World.frozen?_setCell];exact h.z
 ·rw [List.length_set]
  exact own_same h.row (fun q hq=>oth q (own_lt h.row q hq) (fun e=>(h.ap k hk).2 (by rw [hq,e]))) hc.size
 ·intro m z hz
  rw [List.getElem?_set] at hz
  split at hz
  ·rename_i e
   subst e
   cases hz
   obtain⟨h1,h2⟩:=h.at' k x hx
   refine⟨by rw [h1];unfold rwV;rw [puO_len],?_⟩
   refine⟨?_,fun m z hm=>?_,fun m=>by rw [World.frozen?_setCell];exact h2.z m,by rw [puO_len];exact h2.o,fun z hz=>?_⟩
   ·rw [puO_len,World.cell?_setCell_other _ _ _ _ (by intro e;injection e with _ e2;omega)];exact h2.h
   ·simp only [puO,Int.toNat_natCast] at hm
    rw [List.getElem?_set] at hm
    split at hm
    ·rename_i e
     subst e
     cases hm
     exact World.cell?_setCell_same _ _ _ (h2.c j x.2[j] (by simp))
    ·rw [World.cell?_setCell_other _ _ _ _ (by intro e;injection e with _ e2;omega)]
     exact h2.c m z hm
   ·rcases List.mem_or_eq_of_mem_set hz with hz | rfl
    ·exact h2.u z hz
    ·exact hy
  ·rename_i hne
   obtain⟨h1,h2⟩:=h.at' m z hz
   have hm:=(List.getElem?_eq_some_iff.1 hz).1
   exact⟨h1,h2.same (oth _ h2.lt (fun e=>hne (h.inj m k hm hk e).symm))⟩
 ·rw [List.length_set];exact h.inj
 ·rw [List.length_set];exact h.ap
theorem iput_c (h:ID w p v xs B L) (id i y:Int) (hi:b64 id) (hj:b64 i) (hy:b32 y) (hl:L.length≤100000):Calls Tryz.prog 13 #[pV p,.int .i64 id,.int .i64 i,.int .u32 y] w fun e w'=>e=.returned (.bool (puB L id i y))∧ID w' p v xs B (puL L id i y)∧Cg (unD p v B L.length) w w':=by
 have P:=Lib.hid (ifield_c h id i hi hj hl)
 by_cases h1:0≤i∧i < fldL L id
 ·obtain⟨k,x,j,rfl,hk,hx,ho,rfl,hjx,hin⟩:=inO_yes h1
  have e:fadL L B (4+(k:Int)) (j:Int)=some ⟨B k,1+j,none⟩:=by
   unfold fadL;rw [hin,if_pos rfl,show (4+(k:Int) - 4).toNat=k by omega,Int.toNat_natCast]
  rw [e] at P;clear e
  by_cases hz:y=0
  ·have eb:puB L (4+(k:Int)) (j:Int) y=false:=by unfold puB;simp [hz]
   have dz:(y == 0)=true:=by simp [hz]
   have fin:=Lib.hid (fun (w2:World) (b:Below w.heap.size w w2)=>(⟨h.keep b,Cg.below _ b⟩:ID w2 p v xs B L∧Cg (unD p v B L.length) w w2))
   unfold puL;rw [eb,if_neg (by decide)]
   clear h hx ho hin h1 eb hz
   go_enter Tryz.func13,Tryz.ntmps13
   go_wp2_with (first | (go_at_call 37;(refine (P.out).mono ?_);rintro e w2 ⟨rfl,hw2⟩;replace hw2:=Lib.hid hw2))
   go_ret
   exact⟨rfl,fin.out _ hw2.out⟩
  ·have eb:puB L (4+(k:Int)) (j:Int) y=true:=by unfold puB;rw [hin];simp [hz]
   have dz:(y == 0)=false:=by simp [hz]
   have el:puL L (4+(k:Int)) (j:Int) y=L.set k (puO x (j:Int) y):=by unfold puL;rw [eb,if_pos rfl,ho,show (4+(k:Int) - 4).toNat=k by omega]
   rw [eb,el];clear eb el
   have hc:=Lib.hid (fun (w2:World) (b:Below w.heap.size w w2)=>(⟨((h.keep b).at' k x hx).2.c j x.2[j] (by simp),((h.keep b).at' k x hx).2.z (1+j)⟩:_∧_))
   have fin:=Lib.hid (fun (w2:World) (b:Below w.heap.size w w2)=>(⟨((h.keep b).put hx hjx hy).1,(Cg.below _ b).trans ((h.keep b).put hx hjx hy).2⟩:_∧Cg (unD p v B L.length) w _))
   clear h hx ho hin h1 hz
   go_enter Tryz.func13,Tryz.ntmps13
   go_wp2_with (first | (go_at_call 37;(refine (P.out).mono ?_);rintro e w2 ⟨rfl,hw2⟩;obtain⟨c2,z2⟩:=hc.out _ hw2;replace hw2:=Lib.hid hw2))
   go_ret
   exact⟨rfl,fin.out _ hw2.out⟩
 ·have hin:=inO_no h1
  have e:fadL L B id i=none:=by unfold fadL;rw [hin];rfl
  rw [e] at P
  have eb:puB L id i y=false:=by unfold puB;rw [hin];rfl
  have fin:=Lib.hid (fun (w2:World) (b:Below w.heap.size w w2)=>(⟨h.keep b,Cg.below _ b⟩:ID w2 p v xs B L∧Cg (unD p v B L.length) w w2))
  unfold puL;rw [eb,if_neg (by decide)]
  clear h hin h1 e eb
  go_enter Tryz.func13,Tryz.ntmps13
  go_wp2_with (first | (go_at_call 37;(refine (P.out).mono ?_);rintro e w2 ⟨rfl,hw2⟩;replace hw2:=Lib.hid hw2))
  go_ret
  exact⟨rfl,fin.out _ hw2.out⟩
theorem builtId:Tryz.prog.built 84 []=some #[.slice none 0 0]:=by kernel_rfl
theorem inew_c (w:World):Calls Tryz.prog 12 #[] w fun e w'=>∃ p,e=.returned (pV p)∧ID w' p (.slice none 0 0) [] (fun _=>0) []∧w.heap.size≤p∧Below w.heap.size w w':=by
 have hb:=builtId
 go_enter Tryz.func12,Tryz.ntmps12
 go_wp2
 go_ret
 refine⟨_,rfl,⟨by simp,World.frozen?_alloc_new _ _ _ _,⟨by simp,Or.inl ⟨rfl,rfl⟩⟩,fun k x hx=>by simp at hx,fun j k hj=>by simp at hj,fun k hk=>by simp at hk,by simp [Value.ownBlock]⟩,Nat.le_refl _,(Below.refl _ _).alloc (Nat.le_refl _) _⟩
theorem ID.push (h:ID w p v xs B L) (b1:Below w.heap.size w w1) {b:Nat} {x:Ob8} (hb:w.heap.size≤b) (hr:Rq8 w1 b x) {v':Value} (ho:w2.ownsRow 0 87 1 v' (L.length+1) (xs++[rwV b x])) (hg:w1.grownBy w2 v.ownBlock) (hv:v'.ownBlock=v.ownBlock∨v'.ownBlock=some w1.heap.size) :
  ID (w2.setCell ⟨p,0,none⟩ v') p v' (xs++[rwV b x]) (fun k=>if k=L.length then b else B k) (L++[x])∧Cg (unD p v B L.length) w (w2.setCell ⟨p,0,none⟩ v')∧∀ k,unD p v' (fun k=>if k=L.length then b else B k) (L.length+1) k→unD p v B L.length k∨w.heap.size≤k:=by
 have hp:p < w.heap.size:=World.block_lt_of_cell? w _ h.c0
 have hlx:xs.length=L.length:=by have:=h.row.1;omega
 have hbl:=hr.lt
 have hvp:v'.ownBlock≠some p:=by
  rcases hv with e | e
  ·rw [e];exact h.vp
  ·rw [e];intro e2;have:=b1.size;have:=Option.some.inj e2;omega
 have hvb:v'.ownBlock≠some b:=by
  rcases hv with e | e
  ·rw [e];intro e2;have:=own_lt h.row b e2;omega
  ·rw [e];intro e2;have:=Option.some.inj e2;omega
 have hc:Cg (fun q=>q=p∨v.ownBlock=some q) w w2:=(Cg.below _ b1).trans' (G:=fun q=>q=p∨v.ownBlock=some q) ((Cg.refl _ _).grown hg (fun k e=>Or.inl (Or.inr e))) (fun k e=>Or.inl e)
 have hs:∀ q,q≠p→(w2.setCell ⟨p,0,none⟩ v').heap[q]?=w2.heap[q]?:=fun q hq=>Below.heap_setCell _ _ _ _ hq
 have old:∀ q,q < w.heap.size→q≠p→v.ownBlock≠some q→(w2.setCell ⟨p,0,none⟩ v').heap[q]?=w.heap[q]?:=fun q h1 h2 h3=>(hs q h2).trans (hc.block q h1 (fun e=>e.elim h2 h3))
 have hpw:w2.heap[p]?=w.heap[p]?:=by
  rw [hg.block p (Nat.lt_of_lt_of_le hp b1.size) (fun e=>h.vp e.symm),b1.block p hp]
 refine⟨⟨?_,?_,?_,?_,?_,?_,hvp⟩,?_,?_⟩
 ·exact World.cell?_setCell_same _ _ _ ((World.cell?_of_block (a:=⟨p,0,none⟩) hpw).trans h.c0)
 ·rw [World.frozen?_setCell];exact (World.frozen?_of_block (a:=⟨p,0,none⟩) hpw).trans h.z
 ·rw [List.length_append,List.length_singleton]
  exact own_same ho (fun q hq=>hs q (fun e=>hvp (by rw [hq,e]))) (by simp [World.setCell])
 ·intro k z hz
  rw [List.getElem?_append] at hz
  split at hz
  ·rename_i hk
   obtain⟨h1,h2⟩:=h.at' k z hz
   rw [if_neg (by omega)]
   exact⟨by rw [List.getElem?_append_left (by omega)];exact h1,h2.same (old _ h2.lt (h.ap k hk).1 (h.ap k hk).2)⟩
  ·rename_i hk
   have hk2:k=L.length:=by
    have:=(List.getElem?_eq_some_iff.1 hz).1
    simp at this;omega
   subst hk2
   rw [Nat.sub_self] at hz
   cases hz
   rw [if_pos rfl]
   refine⟨by rw [List.getElem?_append_right (by omega),hlx];simp,hr.same ?_⟩
   rw [hs b (by omega)]
   exact hg.block b hbl (fun e=>by have:=own_lt h.row b e.symm;omega)
 ·intro i j hi hj e
  simp only [List.length_append,List.length_singleton] at hi hj
  have hBlt:∀ k,k < L.length→B k < w.heap.size:=fun k hk=>h.lt _ (Or.inr (Or.inr ⟨k,hk,rfl⟩))
  split at e <;> split at e
  ·omega
  ·have:=hBlt j (by omega);omega
  ·have:=hBlt i (by omega);omega
  ·exact h.inj i j (by omega) (by omega) e
 ·intro k hk
  simp only [List.length_append,List.length_singleton] at hk
  split
  ·exact⟨by omega,hvb⟩
  ·have hk':k < L.length:=by omega
   refine⟨(h.ap k hk').1,?_⟩
   rcases hv with e | e
   ·rw [e];exact (h.ap k hk').2
   ·rw [e];intro e2
    have:=h.lt _ (Or.inr (Or.inr ⟨k,hk',rfl⟩))
    have:=b1.size
    have:=Option.some.inj e2;omega
 ·exact (hc.set ⟨p,0,none⟩ (Or.inl rfl) v').mono (fun q hq=>hq.elim Or.inl (fun e=>Or.inr (Or.inl e)))
 ·rintro k (rfl | hk | ⟨j,hj,rfl⟩)
  ·exact Or.inl (Or.inl rfl)
  ·rcases hv with e | e
   ·exact Or.inl (Or.inr (Or.inl (by rw [← e];exact hk)))
   ·rw [e] at hk;have:=Option.some.inj hk;have:=b1.size;exact Or.inr (by omega)
  ·simp only
   split
   ·exact Or.inr hb
   ·exact Or.inl (Or.inr (Or.inr ⟨j,by omega,rfl⟩))
end
end Wd
end Go.Proofs.YteiejjmhmmkdhaaGreat

/- The landed Ideal: Alloc. -/
namespace Go.Proofs.YteiejjmhmmkdhaaGreat
open Go.RowKit
set_option linter.unusedVariables false
set_option maxRecDepth 20000
namespace Wd
theorem infoW8:(Tryz.prog.info? 49).map (fun i=>(i.zero,i.size,i.bytes))=some (some (.int .u32 0),1,4):=by kernel_rfl
theorem infoR8:(Tryz.prog.info? 87).map (fun i=>(i.zero,i.size,i.bytes))=some (some (.slice none 0 0),1,24):=by kernel_rfl
theorem infoP8 {i:Option TypeInfo} {z:Value} {s b:Nat} (h:i.map (fun i=>(i.zero,i.size,i.bytes))=some (some z,s,b)):∃ j,i=some j∧j.zero=some z∧j.size=s∧j.bytes=b:=by
 cases i with
 | none=>cases h
 | some j=>simp only [Option.map_some,Option.some.injEq,Prod.mk.injEq] at h;exact⟨j,rfl,h.1,h.2.1,h.2.2⟩
theorem okA_cases (c n:Int):(okA c n=true∧0≤c∧c≤4095∧0≤n∧n≤62∧hok c n 0=true∧0≤fo n)∨(okA c n=false∧hok c n 0=false)∨(okA c n=false∧hok c n 0=true∧fo n < 0):=by
 have h1:okA c n=true↔(0≤c∧c≤4095)∧(0≤n∧n≤62):=by unfold okA;rw [Bool.and_eq_true,decide_eq_true_eq,decide_eq_true_eq]
 have h2:=hok_iff c n 0
 have h3:=fo_cases n
 cases e1:okA c n <;> cases e2:hok c n 0 <;> rw [e1] at h1 <;> rw [e2] at h2 <;> simp at h1 h2 ⊢ <;> omega
theorem rd_one (w:World) (u:Value) (T:TypeId):Rd (w.alloc (.cells #[u] T)) (.slice (some ⟨w.heap.size,0,none⟩) 1 1) 1 [u]:=by
 refine Or.inr ⟨_,_,rfl,fun j x hx=>?_⟩
 match j,hx with
 | 0,hx=>simp at hx;subst hx;rw [Addr.add_lit];simp
structure Al8 (w wr:World) (b n j:Nat) (q:Int):Prop where
 bel:Below w.heap.size w wr
 nb:w.heap.size≤b
 h:wr.cell? ⟨b,0,none⟩=some (.int .u32 q)
 c:∀ m,m < n→∃ y,wr.cell? ⟨b,1+m,none⟩=some (.int .u32 y)∧(m < j→y=2)
 z:∀ m,wr.frozen? ⟨b,m,none⟩=false
section
variable {w w' w1 w2 wr:World} {p b n j:Nat} {v:Value} {xs:List Value} {B:Nat→Nat} {L:List Ob8} {q:Int}
theorem Al8.begin (g:Below w.heap.size w w1):Al8 w ((w1.alloc (.cells (madeCells #[.int .u32 0] (n+1)) 49)).setCell ⟨w1.heap.size,0,none⟩ (.int .u32 q)) w1.heap.size n 0 q:=by
 have gc:∀ m,m < n+1→(w1.alloc (.cells (madeCells #[.int .u32 0] (n+1)) 49)).cell? ⟨w1.heap.size,m,none⟩=some (.int .u32 0):=fun m hm=>by
  simp [madeCells,hm,Nat.mod_one]
 refine⟨(g.alloc g.size _).setCell g.size _,g.size,World.cell?_setCell_same _ _ _ (gc 0 (by omega)),fun m hm=>⟨0,?_,fun e=>by omega⟩,fun m=>?_⟩
 ·rw [World.cell?_setCell_other _ _ _ _ (by intro e;injection e with _ e2;omega)]
  exact gc (1+m) (by omega)
 ·rw [World.frozen?_setCell];exact World.frozen?_alloc_new _ _ _ _
theorem Al8.next (h:Al8 w wr b n j q) (hj:j < n):Al8 w (wr.setCell ⟨b,1+j,none⟩ (.int .u32 2)) b n (j+1) q:=by
 refine⟨h.bel.setCell h.nb _,h.nb,?_,fun m hm=>?_,fun m=>by rw [World.frozen?_setCell];exact h.z m⟩
 ·rw [World.cell?_setCell_other _ _ _ _ (by intro e;injection e with _ e2;omega)];exact h.h
 ·by_cases e:m=j
  ·subst e
   obtain⟨y,hy,_⟩:=h.c m hm
   exact⟨2,World.cell?_setCell_same _ _ _ hy,fun _=>rfl⟩
  ·obtain⟨y,hy,h2⟩:=h.c m hm
   exact⟨y,by rw [World.cell?_setCell_other _ _ _ _ (by intro e;injection e with _ e2;omega)];exact hy,fun g=>h2 (by omega)⟩
theorem Al8.done {c:Int} (h:Al8 w wr b n n (pk c (n:Int) 0)) (hc:0≤c∧c≤4095) (hn:n≤62):Rq8 wr b (newO c (n:Int)):=by
 have e:(newO c (n:Int)).2=List.replicate n 2:=by simp [newO]
 refine⟨?_,fun j y hj=>?_,h.z,⟨hc.1,hc.2,by rw [e];simpa using hn⟩,fun y hy=>?_⟩
 ·rw [e,List.length_replicate];exact h.h
 ·rw [e,List.getElem?_replicate] at hj
  split at hj
  ·rename_i hjn
   obtain⟨y',hy,h2⟩:=h.c j hjn
   cases hj
   rw [hy,h2 hjn]
  ·cases hj
 ·rw [e] at hy
  have:=(List.mem_replicate.1 hy).2
  subst this;constructor <;> decide
set_option maxHeartbeats 16000000 in
theorem ialloc_c (h:ID w p v xs B L) (c n:Int) (hc:b64 c) (hn:b64 n) (hl:L.length≤10000):Calls Tryz.prog 17 #[pV p,.int .i64 c,.int .i64 n] w fun e w'=>e=.returned (.int .i64 (alI L c n))∧∃ v' xs' B',ID w' p v' xs' B' (alL L c n)∧Cg (unD p v B L.length) w w'∧∀ k,unD p v' B' (alL L c n).length k→unD p v B L.length k∨w.heap.size≤k:=by
 have PP:=Lib.hid (fun w1=>Pack_c c n 0 hc.1 hc.2 hn.1 hn.2 (by decide) (by decide) w1)
 have PF:=Lib.hid (fun w1=>of_c n hn.1 hn.2 w1)
 have g1:∀ x:Array Value,Below w.heap.size w (w.alloc (.cells x 93)):=fun x=>(Below.refl _ _).alloc (Nat.le_refl _) _
 rcases okA_cases c n with ⟨ok,c0,c1,n0,n1,hk,hf⟩ | ⟨ok,hk⟩ | ⟨ok,hk,hf⟩
 ·obtain⟨n,rfl⟩:∃ m:Nat,n=m:=⟨n.toNat,by omega⟩
  have ei:alI L c (n:Int)=4+(L.length:Int):=by unfold alI;rw [ok,if_pos rfl]
  have el:alL L c (n:Int)=L++[newO c (n:Int)]:=by unfold alL;rw [ok,if_pos rfl]
  rw [hk] at PP
  rw [ei,el]
  have fin:=Lib.hid (fun (w1 w2:World) (b:Nat) (v':Value) (a:Al8 w w1 b n n (pk c (n:Int) 0)) (o:w2.ownsRow 0 87 1 v' (L.length+1) (xs++[rwV b (newO c (n:Int))])) (g:(w1.alloc (.cells #[rwV b (newO c (n:Int))] 87)).grownBy w2 v.ownBlock) (hv:v'.ownBlock=v.ownBlock∨v'.ownBlock=some (w1.alloc (.cells #[rwV b (newO c (n:Int))] 87)).heap.size)=>by
   have hr:=a.done ⟨c0,c1⟩ (by omega)
   have hb:=a.bel
   obtain⟨e1,e2,e3⟩:=h.push (hb.alloc hb.size _) a.nb (hr.same (Below.heap_alloc _ _ _ hr.lt)) o g hv
   exact (⟨v',_,_,e1,e2,by rw [List.length_append,List.length_singleton];exact e3⟩:∃ v'' xs' B',ID (w2.setCell ⟨p,0,none⟩ v') p v'' xs' B' (L++[newO c (n:Int)])∧Cg (unD p v B L.length) w (w2.setCell ⟨p,0,none⟩ v')∧∀ k,unD p v'' B' (L++[newO c (n:Int)]).length k→unD p v B L.length k∨w.heap.size≤k))
  have hrow:=Lib.hid (fun (w1:World) (b:Below w.heap.size w w1)=>(h.keep b).row)
  have hcell:=Lib.hid (fun (w1:World) (b:Below w.heap.size w w1)=>(⟨(h.keep b).c0,(h.keep b).z⟩:_∧_))
  have hvp:=h.vp
  have hpl:=Lib.hid (fun (w1 w2:World) (b:Below w.heap.size w w1) (g:w1.grownBy w2 v.ownBlock)=>(⟨(World.cell?_of_block (a:=⟨p,0,none⟩) (g.block p (Nat.lt_of_lt_of_le (World.block_lt_of_cell? w _ h.c0) b.size) (fun e=>h.vp e.symm))).trans (h.keep b).c0,(World.frozen?_of_block (a:=⟨p,0,none⟩) (g.block p (Nat.lt_of_lt_of_le (World.block_lt_of_cell? w _ h.c0) b.size) (fun e=>h.vp e.symm))).trans (h.keep b).z⟩:w2.cell? ⟨p,0,none⟩=some v∧w2.frozen? ⟨p,0,none⟩=false))
  have hbg:=Lib.hid (fun (w1:World) (g:Below w.heap.size w w1)=>Al8.begin (n:=n) (q:=pk c (n:Int) 0) g)
  have hnx:=Lib.hid (fun (wr:World) (b j:Nat) (a:Al8 w wr b n j (pk c (n:Int) 0)) (hj:j < n)=>a.next hj)
  have hrv:rwV=fun b (x:Ob8)=>Value.slice (some ⟨b,0,none⟩) (x.2.length+1) (x.2.length+1):=rfl
  have hnl:(newO c (n:Int)).2.length=n:=by simp [newO]
  simp only [hrv,hnl] at fin
  obtain⟨i0,hi0,hz0,hz1,hz2⟩:=infoP8 infoR8
  obtain⟨i1,hi1,hy0,hy1,hy2⟩:=infoP8 infoW8
  obtain⟨N,hN⟩:∃ N:Nat,N=n+1:=⟨_,rfl⟩
  obtain⟨mk,hmk,hmw⟩:∃ mk:World→World,(∀ w,(Instr.makeSlice 87 (.int .i64 (N:Int)) (.int .i64 (N:Int))).run Tryz.prog w=.ok (.slice (some ⟨w.heap.size,0,none⟩) N N) (mk w))∧∀ w,mk w=w.alloc (.cells (madeCells #[.int .u32 0] N) 49):=⟨_,fun w=>by
   have:=run_make (P:=Tryz.prog) w 87 49 i1 (.int .u32 0) Tryz.underlying87 hi1 hy0 .i64 .i64 N N (by omega) (by omega) (by rw [hy2];omega) (by omega)
   rw [hy1] at this
   simpa [Value.cells] using this,fun w=>rfl⟩
  have hw:IntKind.i64.wrap (1+(n:Int))=(N:Int):=by rw [IntKind.wrap_i64];omega
  have hN0:0 < N:=by omega
  simp only [← hN,← hmw] at hbg fin
  have hcz:Hid (∀ (w1:World),(mk w1).cell? ⟨w1.heap.size,0,none⟩=some (.int .u32 0)∧(mk w1).frozen? ⟨w1.heap.size,0,none⟩=false):=Lib.hid (fun w1=>by rw [hmw];exact⟨by simp [madeCells,hN],World.frozen?_alloc_new _ _ _ _⟩)
  clear hmw
  obtain⟨ad,cap,hvf,_⟩:=own_form h.row
  subst hvf
  clear h hk ok ei el hi1 hy0 hy1 hy2 hrv hnl
  have hjN:Hid (∀ j:Nat,j < n→1+j < N):=Lib.hid (fun j hj=>by omega)
  replace hN:=Lib.hid hN
  have hmx:Hid (L.length+1≤maxLen):=Lib.hid (by simp only [maxLen];omega)
  have hbx:Hid ((L.length+1)*24≤140737488355328):=Lib.hid (by omega)
  generalize hq:pk c (n:Int) 0=q at *
  generalize fo (n:Int)=f at *
  go_enter Tryz.func17,Tryz.ntmps17
  go_wp2_with (first | (go_at_call 40;(refine (PP.out _).mono ?_);rintro e w2 ⟨rfl,hw2⟩;have hb2:=Lib.hid (show Below w.heap.size w w2 by subst hw2;exact g1 _);clear hw2;obtain⟨cz0,cz1⟩:=hcz.out w2;have S0:=Lib.hid (hbg.out w2 hb2.out)) | (go_at_call 41;(refine (PF.out _).mono ?_);rintro e w3 ⟨rfl,hw3⟩;subst w3))
  clear cz0 cz1 hcz hbg hb2 PP PF hmk
  generalize (mk w2).setCell ⟨w2.heap.size,0,none⟩ (.int .u32 q)=w5 at *
  generalize w2.heap.size=b at *
  go_loopw [32] (fun i' wr=>∃ j:Nat,j≤n∧i'=.int .i64 j∧Al8 w wr b n j q) (fun i' _=>n - (intOf i').toNat)
  case atStart=>exact⟨0,by omega,rfl,S0.out⟩
  case round =>
   clear S0
   obtain⟨j,hj,rfl,hR⟩:=hrel
   by_cases hlt:j < n
   ·have hd:decide ((j:Int) < (n:Int))=true:=by simp;omega
    have hw1:IntKind.i64.wrap ((j:Int)+1)=(j:Int)+1:=by rw [IntKind.wrap_i64];omega
    have hw3:IntKind.i64.wrap (1+(j:Int))=((1+j:Nat):Int):=by rw [IntKind.wrap_i64];omega
    have hi2:1+j < N:=hjN.out j hlt
    have hi:((1+j:Nat):Int) < (N:Int):=by omega
    obtain⟨y,cy,_⟩:=hR.c j hlt
    have zy:=hR.z (1+j)
    have hN2:=Lib.hid (hnx.out wr b j hR hlt)
    clear hR
    go_wp2
    go_roundw
    case rel=>exact⟨j+1,by omega,by go_num,hN2.out⟩
    case measure=>simp [intOf];omega
   ·have e:j=n:=by omega
    subst e
    have hd:decide ((j:Int) < (j:Int))=false:=by simp
    have hb:=Lib.hid hR.bel
    have hbn:=hR.nb
    obtain⟨pc,pz⟩:=hcell.out wr hb.out
    replace hR:=Lib.hid hR
    have ho:=Lib.hid (hrow.out _ (hb.out.alloc hb.out.size (.cells #[.slice (some ⟨b,0,none⟩) N N] 87)))
    have hbl:=Lib.hid (hb.out.alloc hb.out.size (.cells #[.slice (some ⟨b,0,none⟩) N N] 87))
    go_wp2_with (first | (at_builtin;refine wpList_app_any rfl (.tmp 44) (.tmp 46) 82 rfl 0 87 i0 (.slice none 0 0) 1 24 Tryz.underlying82 hi0 hz0 hz1 hz2 rfl (by decide) (.slice ad L.length cap) (.slice (some ⟨wr.heap.size,0,none⟩) 1 1) L.length 1 xs [.slice (some ⟨b,0,none⟩) N N] (by simp [Act.eval]) (by simp [Act.eval]) ho.out (rd_one _ _ _) rfl (by simp [Value.oneCell']) hmx.out hbx.out (Nat.zero_le _) ?_;intro v9 w9 hown9 hg9 hat9;have hF:=Lib.hid (fin.out wr w9 b v9 hR.out hown9 hg9 hat9);obtain⟨pc9,pz9⟩:=hpl.out _ w9 hbl.out hg9;obtain⟨a9,c9,e9,_⟩:=own_form hown9;subst e9;clear hown9 hg9 hat9))
    go_ret
    exact⟨congrArg Ending.returned (congrArg (Value.int .i64) (by omega)),hF.out⟩
 ·have ei:alI L c n=-1:=by unfold alI;rw [ok];rfl
  have el:alL L c n=L:=by unfold alL;rw [ok];rfl
  rw [hk] at PP
  rw [ei,el]
  have fin:=Lib.hid (fun (w2:World) (b:Below w.heap.size w w2)=>(⟨v,xs,B,h.keep b,Cg.below _ b,fun k hk=>Or.inl hk⟩:∃ v' xs' B',ID w2 p v' xs' B' L∧Cg (unD p v B L.length) w w2∧∀ k,unD p v' B' L.length k→unD p v B L.length k∨w.heap.size≤k))
  clear h ok hk
  go_enter Tryz.func17,Tryz.ntmps17
  go_wp2_with (first | (go_at_call 40;(refine (PP.out _).mono ?_);rintro e w2 ⟨rfl,hw2⟩;subst w2))
  go_ret
  exact⟨rfl,fin.out _ (g1 _)⟩
 ·have ei:alI L c n=-1:=by unfold alI;rw [ok];rfl
  have el:alL L c n=L:=by unfold alL;rw [ok];rfl
  rw [hk] at PP
  rw [ei,el]
  have fin:=Lib.hid (fun (w2:World) (b:Below w.heap.size w w2)=>(⟨v,xs,B,h.keep b,Cg.below _ b,fun k hk=>Or.inl hk⟩:∃ v' xs' B',ID w2 p v' xs' B' L∧Cg (unD p v B L.length) w w2∧∀ k,unD p v' B' L.length k→unD p v B L.length k∨w.heap.size≤k))
  clear h ok hk
  generalize fo n=q at *
  go_enter Tryz.func17,Tryz.ntmps17
  go_wp2_with (first | (go_at_call 40;(refine (PP.out _).mono ?_);rintro e w2 ⟨rfl,hw2⟩;subst w2) | (go_at_call 41;(refine (PF.out _).mono ?_);rintro e w2 ⟨rfl,hw2⟩;subst w2))
  go_ret
  exact⟨rfl,fin.out _ (g1 _)⟩
end
end Wd
end Go.Proofs.YteiejjmhmmkdhaaGreat

/- Plain facts on words that are made of numbers: no program is named here. -/
namespace Go.Proofs.YteiejjmhmmkdhaaGreat
open Go.RowKit
namespace Ww
theorem fits_yes {n:Int} (h:-1073741824≤n) (h2:n≤1073741823):fits n=true:=by simp [fits,h,h2]
theorem iv_yes {n:Int} (h:fits n=true):iv n=wd n:=by simp [iv,h]
theorem ov_yes {n:Int} (h:1≤n) (h2:n≤2147483647):ov n=2*n∧isD (ov n)=true∧dv (ov n)=n:=by
 have e:ov n=2*n:=by simp [ov,isO,h,h2]
 have d:isD (2*n)=true:=by simp [isD];omega
 refine⟨e,by rw [e];exact d,?_⟩
 rw [e];simp [dv,d]
end Ww
end Go.Proofs.YteiejjmhmmkdhaaGreat

/- What Load makes of a program's objects, plainly, whoever keeps them; the word of a value. -/
namespace Go.Proofs.YteiejjmhmmkdhaaGreat
open Go.RowKit
set_option linter.unusedVariables false
set_option maxRecDepth 20000
namespace Wd
theorem Cg.below' {w w1 w2:World} (F:Nat→Prop) (h:Cg F w w1) (b:Below w1.heap.size w1 w2):Cg F w1 w2:=Cg.below F b
def valW (v:Int × Int) (ids:List Int):Int:=if v.1=1 then 6 else if v.1=2 then 4 else if v.1=3 then Ww.iv v.2 else if v.1=4 then Ww.ov (ids.getD v.2.toNat 0) else 2
theorem valW_bd (v:Int × Int) (ids:List Int):b32 (valW v ids):=by
 unfold valW b32
 split
 ·omega
 ·split
  ·omega
  ·split
   ·exact Ww.iv_bd _
   ·split
    ·exact Ww.ov_bd _
    ·omega
structure Sto (σ:Type) where
 al:σ→Int→Int→σ
 ai:σ→Int→Int→Int
 pu:σ→Int→Int→Int→σ
section
variable {σ:Type} (M:Sto σ)
def stA (S:σ) (O:List ObjA):Nat→σ × List Int
 | 0=>(S,[])
 | k+1=>let p:=stA S O k;let o:=O.getD k ⟨0,[]⟩;(M.al p.1 o.cls (o.flds.length:Int),p.2++[M.ai p.1 o.cls (o.flds.length:Int)])
def stF (S:σ) (ids:List Int) (id:Int) (V:List (Int × Int)):Nat→σ
 | 0=>S
 | j+1=>M.pu (stF S ids id V j) id (j:Int) (valW (V.getD j (0,0)) ids)
def stO (S:σ) (ids:List Int) (O:List ObjA):Nat→σ
 | 0=>S
 | k+1=>let o:=O.getD k ⟨0,[]⟩;stF M (stO S ids O k) ids (ids.getD k 0) o.flds o.flds.length
def ldI (S:σ) (O:List ObjA):List Int:=(stA M S O O.length).2
def ldS (S:σ) (O:List ObjA):σ:=stO M (stA M S O O.length).1 (ldI M S O) O O.length
theorem stA_len (S:σ) (O:List ObjA):∀ k,(stA M S O k).2.length=k
 | 0=>rfl
 | k+1=>by simp [stA,stA_len S O k]
theorem stA_succ {S:σ} {O:List ObjA} {k:Nat} {o:ObjA} (h:O[k]?=some o):stA M S O (k+1)=(M.al (stA M S O k).1 o.cls (o.flds.length:Int),(stA M S O k).2++[M.ai (stA M S O k).1 o.cls (o.flds.length:Int)]):=by
 simp [stA,List.getD_eq_getElem?_getD,h]
theorem stF_succ {S:σ} {ids:List Int} {id:Int} {V:List (Int × Int)} {j:Nat} {v:Int × Int} (h:V[j]?=some v):stF M S ids id V (j+1)=M.pu (stF M S ids id V j) id (j:Int) (valW v ids):=by
 simp [stF,List.getD_eq_getElem?_getD,h]
theorem stO_succ {S:σ} {ids:List Int} {O:List ObjA} {k:Nat} {o:ObjA} {id:Int} (h:O[k]?=some o) (hi:ids[k]?=some id):stO M S ids O (k+1)=stF M (stO M S ids O k) ids id o.flds o.flds.length:=by
 simp [stO,List.getD_eq_getElem?_getD,h,hi]
structure ObsOk (O:List ObjA):Prop where
 len:O.length≤1000
 ok:∀ o∈O,okA o.cls (o.flds.length:Int)=true
 ref:∀ o∈O,∀ f∈o.flds,f.1=4→0≤f.2∧f.2 < (O.length:Int)
end
def idealM:Sto (List Ob8):=⟨alL,alI,puL⟩
set_option maxHeartbeats 4000000 in
theorem wordOf_c {w:World} {a:Option Addr} {n c:Nat} {k x:Int} {ids:List Int} (hi:w.ownsRow 0 3 1 (.slice a n c) n (ints ids)) (h4:k=4→0≤x∧x < (ids.length:Int)) :
  Calls Tryz.prog 69 #[.agg #[.int .i64 k,.int .i64 x],.slice a n c] w fun e w'=>e=.returned (.int .u32 (valW (k,x) ids))∧Below w.heap.size w w':=by
 have hB:Below w.heap.size w (w.alloc (.cells #[.int .i64 k,.int .i64 x] 80)):=(Below.refl _ _).alloc (Nat.le_refl _) _
 replace hB:=Lib.hid hB
 have PI:=Lib.hid (Ww.Int_c x)
 by_cases h1:k=1
 ·subst h1
  rw [show valW (1,x) ids=6 from rfl]
  clear h4 hi PI
  go_enter Tryz.func69,Tryz.ntmps69
  go_wp2
  go_ret
  exact⟨rfl,hB.out⟩
 by_cases h2:k=2
 ·subst h2
  rw [show valW (2,x) ids=4 from rfl]
  clear h4 hi PI h1
  go_enter Tryz.func69,Tryz.ntmps69
  go_wp2
  go_ret
  exact⟨rfl,hB.out⟩
 by_cases h3:k=3
 ·subst h3
  rw [show valW (3,x) ids=Ww.iv x from rfl]
  clear h4 hi h1 h2
  go_enter Tryz.func69,Tryz.ntmps69
  go_wp2_with (first | (go_at_call 85;(refine (PI.out _).mono ?_);rintro e w2 ⟨rfl,hw2⟩;subst w2))
  go_ret
  exact⟨rfl,hB.out⟩
 by_cases h5:k=4
 ·subst h5
  obtain⟨g0,g1⟩:=h4 rfl
  obtain⟨j,rfl⟩:∃ j:Nat,x=j:=⟨x.toNat,by omega⟩
  have hj:j < ids.length:=by omega
  rw [show valW (4,(j:Int)) ids=Ww.ov (ids.getD j 0) from rfl,List.getD_eq_getElem?_getD,List.getElem?_eq_getElem hj,Option.getD_some]
  have hln:ids.length=n:=by have:=hi.1;simpa [ints] using this
  have PO:=Lib.hid (Ww.Oop_c ids[j])
  rcases hi.2 with ⟨e,e2⟩ | ⟨g,cap',cur,e,_⟩
  ·omega
  ·cases e
   have hc:=row_cell (own_base hi) (k:=j) (x:=ids[j]) (by simp)
   have hc2:=Lib.hid (cell_up hB.out hc)
   have cx:=hc2.out
   have hlt:(j:Int) < (n:Int):=by omega
   have hltn:j < n:=by omega
   clear hi hc h4 h1 h2 h3 g0 g1 PI
   generalize ids[j]=y at *
   clear hj
   generalize hW:w.alloc (.cells #[.int .i64 4,.int .i64 (j:Int)] 80)=W at *
   have z0:W.cell? ⟨w.heap.size,0,none⟩=some (.int .i64 4):=by rw [← hW];simp
   have z1:W.cell? ⟨w.heap.size,1,none⟩=some (.int .i64 j):=by rw [← hW];simp
   go_enter Tryz.func69,Tryz.ntmps69
   go_upto_region 1 with fail
   clear hW
   go_wp2_with (first | (go_at_call 86;(refine (PO.out _).mono ?_);rintro e w2 ⟨rfl,hw2⟩;subst w2))
   go_ret
   exact⟨rfl,hB.out⟩
 ·rw [show valW (k,x) ids=2 by unfold valW;rw [if_neg h1,if_neg h2,if_neg h3,if_neg h5]]
  have d1:(k == 1)=false:=by simpa using h1
  have d2:(k == 2)=false:=by simpa using h2
  have d3:(k == 3)=false:=by simpa using h3
  have d4:(k == 4)=false:=by simpa using h5
  clear h4 hi PI h1 h2 h3 h5
  go_enter Tryz.func69,Tryz.ntmps69
  go_wp2
  go_ret
  exact⟨rfl,hB.out⟩
end Wd
end Go.Proofs.YteiejjmhmmkdhaaGreat

/- Steps of a script over a region that draws its order, in few words. -/
namespace Go.Proofs.YteiejjmhmmkdhaaGreat
open Go.RowKit
namespace Wd
theorem nA:(∀ {α:Type} (l:List α) (i:Nat) (a:α),l.toArray.setIfInBounds i a=(l.set i a).toArray)∧(∀ {α:Type} (l:List α) (a b:α),(b :: l).set 0 a=a :: l)∧(∀ {α:Type} (l:List α) (i:Nat) (a b:α),(b :: l).set (i+1) a=b :: l.set i a) :=
 ⟨fun _ _ _=>List.setIfInBounds_toArray ..,fun _ _ _=>rfl,fun _ _ _ _=>rfl⟩
section
variable {P:Program} {ops:Array Oper} {Q:Exit→Act→World→Prop} {md:Region.Mode} {S:World→Prop}
theorem tk {i:Nat} {oi:Oper} {v:Value} {fuel:Nat} {listed:Array Bool} {a:Act} {w:World}
  (h:wpAnyH P md ops Q S fuel (listed.setIfInBounds i true) (a.put oi.dst v) w)
  (hi:ops[i]?=some oi:=by rfl) (hs:Region.noSelect ops=true:=by kernel_rfl) (hf:Region.free md ops listed i=true:=by kernel_rfl) (hr:(Region.ready md ops listed).contains i=true:=by kernel_rfl)
  (hw:Region.wanted oi (yielded ops a.tmps)=true:=by rfl)
  (hy:∀ w,S w→(execOp a.eval oi).run P w=.ok (.value v) w:=by (intro w hSw;(try dsimp only at hSw);go_simp <;> with_reducible rfl))
  (hQ:∀ c a w,Q (.panic c) (a.put oi.dst v) w→Q (.panic c) a w:=by exact fun _ _ _ h=>h) (hS:S w:=by assumption):wpAnyH P md ops Q S (fuel+1) listed a w :=
 wpAnyH_take hi hs hf hr hQ (Or.inl ⟨hw,hy⟩) hS h
end
end Wd
end Go.Proofs.YteiejjmhmmkdhaaGreat

/- Objects are filled, by whoever keeps them. -/
namespace Go.Proofs.YteiejjmhmmkdhaaGreat
open Go.RowKit
set_option linter.unusedVariables false
set_option maxRecDepth 20000
namespace Wd
structure StoI {σ:Type} (M:Sto σ) (P:World→σ→(Nat→Prop)→Prop) (p:Nat) (sz:σ→Nat):Prop where
 lt:∀ {w S F},P w S F→∀ k,F k→k < w.heap.size
 same:∀ {w w' S F},P w S F→w.heap.size≤w'.heap.size→(∀ k,F k→w'.heap[k]?=w.heap[k]?)→P w' S F
 szA:∀ S c n,sz (M.al S c n)≤sz S+1
 szP:∀ S id i x,sz (M.pu S id i x)≤sz S
 ids:∀ S c n,sz S≤2000→b64 (M.ai S c n)
 alloc:∀ {w S F} (c n:Int),P w S F→sz S≤2000→b64 c→b64 n→Calls Tryz.prog 17 #[pV p,.int .i64 c,.int .i64 n] w fun e w'=>e=.returned (.int .i64 (M.ai S c n))∧∃ F',P w' (M.al S c n) F'∧Cg F w w'∧∀ k,F' k→F k∨w.heap.size≤k
 put:∀ {w S F} (id i x:Int),P w S F→sz S≤2000→b64 id→b64 i→b32 x→Calls Tryz.prog 13 #[pV p,.int .i64 id,.int .i64 i,.int .u32 x] w fun e w'=>∃ b F',e=.returned (.bool b)∧P w' (M.pu S id i x) F'∧Cg F w w'∧∀ k,F' k→F k∨w.heap.size≤k
section
variable {σ:Type} {M:Sto σ} {P:World→σ→(Nat→Prop)→Prop} {p:Nat} {sz:σ→Nat}
theorem StoI.szF (K:StoI M P p sz) (S:σ) (ids:List Int) (id:Int) (V:List (Int × Int)):∀ j,sz (stF M S ids id V j)≤sz S
 | 0=>Nat.le_refl _
 | j+1=>Nat.le_trans (K.szP _ _ _ _) (StoI.szF K S ids id V j)
theorem StoI.nxt (K:StoI M P p sz) {w wr w4:World} {S:σ} {F F1:Nat→Prop} (hs:sz S≤2000) {id:Int} (hid:b64 id) {V:List (Int × Int)} {ids:List Int} {j:Nat} {x:Int × Int} (hl:V.length≤1000)
  (hP1:P wr (stF M S ids id V j) F1) (hc1:Cg F w wr) (hn1:∀ k,F1 k→F k∨w.heap.size≤k) (hx:V[j]?=some x) (b4:Below wr.heap.size wr w4) :
  Calls Tryz.prog 13 #[pV p,.int .i64 id,.int .i64 (j:Int),.int .u32 (valW x ids)] w4 fun e w5=>∃ b F2,e=.returned (.bool b)∧(∀ k,k < wr.heap.size→¬ F1 k→w5.heap[k]?=w4.heap[k]?)∧P w5 (stF M S ids id V (j+1)) F2∧Cg F w w5∧(∀ k,F2 k→F k∨w.heap.size≤k)∧∀ k,wr.heap.size≤k→k < w4.heap.size→w5.heap[k]?=w4.heap[k]?:=by
 have hF1:=K.lt hP1
 have e1:=K.same hP1 b4.size (fun k hk=>b4.block k (hF1 k hk))
 have hj:=(List.getElem?_eq_some_iff.1 hx).1
 refine (K.put id (j:Int) (valW x ids) e1 (Nat.le_trans (K.szF S ids id V j) hs) hid ⟨by omega,by omega⟩ (valW_bd _ _)).mono ?_
 rintro e w5 ⟨b,F2,rfl,hP2,hc2,hn2⟩
 have e2:=stF_succ M (S:=S) (ids:=ids) (id:=id) hx
 exact⟨b,F2,rfl,fun k hk h1=>hc2.block k (Nat.lt_of_lt_of_le hk b4.size) h1,by rw [e2];exact hP2,((hc1.trans (Cg.below' F hc1 b4)).trans' hc2 (fun k hk=>hn1 k hk)),fun k hk=>(hn2 k hk).elim (hn1 k) (fun e=>Or.inr (by have:=hc1.size;have:=b4.size;omega)),fun k h1 h2=>hc2.block k h2 (fun e=>by have:=hF1 k e;omega)⟩
set_option maxHeartbeats 16000000 in
theorem fillI_c (K:StoI M P p sz) {w:World} {S:σ} {F:Nat→Prop} (hP:P w S F) (hs:sz S≤2000) {id:Int} (hid:b64 id) {fa ia:Option Addr} {fc n c:Nat} {V:List (Int × Int)} {ids:List Int} (h4:∀ f∈V,f.1=4→0≤f.2∧f.2 < (ids.length:Int)) (hl:V.length≤1000)
  (hV:∀ w',Cg F w w'→PrV w' (.slice fa V.length fc) V∧w'.ownsRow 0 3 1 (.slice ia n c) n (ints ids)) :
  Calls Tryz.prog 46 #[.iface 42 (pV p),.int .i64 id,.slice fa V.length fc,.slice ia n c] w fun e w'=>e=.returned (.tuple #[])∧∃ F',P w' (stF M S ids id V V.length) F'∧Cg F w w'∧∀ k,F' k→F k∨w.heap.size≤k:=by
 have hm:∀ w:World,(method 95 42 (pV p) "Put").run Tryz.prog w=.ok (13,pV p) w:=fun _=>by kernel_rfl
 have hna:∀ w:World,(nilAhead 309 42 (pV p) "Put").run Tryz.prog w=.ok (some false) w:=fun _=>by kernel_rfl
 have hmf:∀ (fn:Fn) (first cap:Array Value) (w:World),(Instr.makeFunc fn first cap).run Tryz.prog w=.ok (.func fn first cap) w:=fun _ _ _ _=>rfl
 have hnx:=Lib.hid (fun (wr:World) (F1:Nat→Prop) (j:Nat) (x:Int × Int) (hP1:P wr (stF M S ids id V j) F1) (hc1:Cg F w wr) (hn1:∀ k,F1 k→F k∨w.heap.size≤k) (hx:V[j]?=some x) (w4:World) (b4:Below wr.heap.size wr w4)=>K.nxt hs hid hl hP1 hc1 hn1 hx b4)
 have hlt:=Lib.hid (fun (wr:World) (T:σ) (F1:Nat→Prop) (hP1:P wr T F1)=>K.lt hP1)
 replace hV:=Lib.hid hV
 have hP0:=Lib.hid (show P w (stF M S ids id V 0) F from hP)
 have hx4:=Lib.hid h4
 generalize hVl:V.length=vl at *
 clear h4 hP
 go_enter Tryz.func46,Tryz.ntmps46
 go_wp2
 go_loopw [12] (fun i wr=>∃ (j:Nat) (F1:Nat→Prop),j≤vl∧i=.int .i64 j∧Hid (P wr (stF M S ids id V j) F1∧Cg F w wr∧∀ k,F1 k→F k∨w.heap.size≤k)) (fun i _=>vl - (intOf i).toNat)
 case atStart=>exact⟨0,F,by omega,rfl,Lib.hid ⟨hP0.out,Cg.refl _ _,fun k hk=>Or.inl hk⟩⟩
 case round =>
  clear hP0
  obtain⟨j,F1,hj,rfl,hS⟩:=hrel
  by_cases hlt2:j < vl
  ·have hd:decide ((j:Int) < (vl:Int))=true:=by simp;omega
   have p1:(j:Int) < (vl:Int):=by omega
   obtain⟨x,hx⟩:∃ x,V[j]?=some x:=⟨V[j]'(by omega),by simp⟩
   obtain⟨x1,x2⟩:=x
   obtain⟨pv,_⟩:=hV.out wr hS.out.2.1
   obtain⟨i1,i2,g,off,rfl,d0,d1⟩:=pv.at hx
   have hB:=Lib.hid ((Below.refl wr.heap.size wr).alloc (Nat.le_refl _) (.cells #[.int .i64 x1,.int .i64 x2] 80))
   have hcW:=Lib.hid (Cg.below' F hS.out.2.1 hB.out)
   obtain⟨_,ow⟩:=hV.out _ (hS.out.2.1.trans hcW.out)
   have PW:=Lib.hid (fun (W:World) (b:Below (wr.alloc (.cells #[.int .i64 x1,.int .i64 x2] 80)).heap.size (wr.alloc (.cells #[.int .i64 x1,.int .i64 x2] 80)) W)=>wordOf_c (k:=x1) (x:=x2) (own_same ow (fun k hk=>b.block k (own_lt ow k hk)) b.size) (fun e=>hx4.out (x1,x2) (List.mem_of_getElem? hx) e))
   have hN:=Lib.hid (fun (w4:World) (b4:Below wr.heap.size wr w4)=>hnx.out wr F1 j (x1,x2) hS.out.1 hS.out.2.1 hS.out.2.2 hx w4 b4)
   have z0:(wr.alloc (.cells #[.int .i64 x1,.int .i64 x2] 80)).cell? ⟨wr.heap.size,0,none⟩=some (.int .i64 x1):=World.cell?_alloc_new _ _ _ 0
   have z1:(wr.alloc (.cells #[.int .i64 x1,.int .i64 x2] 80)).cell? ⟨wr.heap.size,1,none⟩=some (.int .i64 x2):=World.cell?_alloc_new _ _ _ 1
   have hq:=Lib.hid (show wr.heap.size < (wr.alloc (.cells #[.int .i64 x1,.int .i64 x2] 80)).heap.size by simp)
   clear hx pv ow hcW
   go_upto_region 3 with fail
   generalize wr.alloc (.cells #[.int .i64 x1,.int .i64 x2] 80)=W3 at *
   generalize hqq:wr.heap.size=q at *
   clear d0 d1
   refine wp_region_held_drew (S:=(fun wr'=>wr'.cell? ⟨q,0,none⟩=some (.int .i64 x1)∧wr'.cell? ⟨q,1,none⟩=some (.int .i64 x2))) (by kernel_rfl) ?_ (fun hHeld=>?_)
   ·(try dsimp only);exact⟨z0,z1⟩
   try simp only [Act.put,nA]
   refine tk (i:=0) (oi:=⟨some 17,.move (.tmp 0),95,"load.go:37",#[],none⟩) (hy:=by intro w hSw;(try dsimp only at hSw);obtain⟨q0,q1⟩:=hSw;go_simp <;> with_reducible rfl) ?_
   try simp only [Act.put,nA]
   refine tk (i:=1) (oi:=⟨some 18,.move (.tmp 1),3,"load.go:37",#[],none⟩) (hy:=by intro w hSw;(try dsimp only at hSw);obtain⟨q0,q1⟩:=hSw;go_simp <;> with_reducible rfl) ?_
   try simp only [Act.put,nA]
   refine tk (i:=2) (oi:=⟨some 19,.move (.tmp 8),3,"load.go:37",#[],none⟩) (hy:=by intro w hSw;(try dsimp only at hSw);obtain⟨q0,q1⟩:=hSw;go_simp <;> with_reducible rfl) ?_
   try simp only [Act.put,nA]
   refine tk (i:=3) (oi:=⟨some 20,.load 80 (.tmp 9),80,"load.go:37",#[],none⟩) (hy:=by intro w hSw;(try dsimp only at hSw);obtain⟨q0,q1⟩:=hSw;go_simp <;> with_reducible rfl) ?_
   try simp only [Act.put,nA]
   refine tk (i:=4) (oi:=⟨some 21,.move (.tmp 3),34,"load.go:37",#[],none⟩) (hy:=by intro w hSw;(try dsimp only at hSw);obtain⟨q0,q1⟩:=hSw;go_simp <;> with_reducible rfl) ?_
   try simp only [Act.put,nA]
   refine tk (i:=6) (oi:=⟨some 23,.makeFunc (Fn.method "Put") #[.tmp 17] #[],48,"load.go:37",#[⟨0,.data⟩],none⟩) (hy:=by intro w hSw;(try dsimp only at hSw);obtain⟨q0,q1⟩:=hSw;go_simp <;> with_reducible rfl) ?_
   try simp only [Act.put,nA]
   refine tk (i:=7) (oi:=⟨some 24,.nilCheck (.tmp 23),48,"load.go:37",#[⟨6,.data⟩],none⟩) (hy:=by intro w hSw;(try dsimp only at hSw);obtain⟨q0,q1⟩:=hSw;go_simp <;> with_reducible rfl) ?_
   try simp only [Act.put,nA]
   refine tk (i:=8) (oi:=⟨some 25,.move (.tmp 17),95,"load.go:37",#[⟨0,.data⟩,⟨6,.data⟩,⟨7,.data⟩],none⟩) (hy:=by intro w hSw;(try dsimp only at hSw);obtain⟨q0,q1⟩:=hSw;go_simp <;> with_reducible rfl) ?_
   try simp only [Act.put,nA]
   refine wpAnyH_ready (rs:=[5]) (by kernel_rfl) (by simp) ?_
   refine AllReadyH.cons (o:=⟨some 22,.call { callee:=.value (.func 69),args:=#[.tmp 20,.tmp 21],argTypes:=#[80,34] },49,"load.go:37",#[⟨3,.data⟩,⟨4,.data⟩],none⟩) rfl (fun K9 hK=>?_) AllReadyH.nil
   go_simp
   refine (PW.out _ (Below.refl _ _).drew).mono ?_
   rintro e w4 ⟨rfl,hw4⟩
   have hw4b:=Lib.hid hw4
   clear hw4
   have hb4:=Lib.hid (hB.out.trans ((((Below.refl _ _).drew).trans hw4b.out).mono (Nat.le_of_lt hq.out)))
   have zz0:=cell_up (((Below.refl _ _).drew).trans hw4b.out) z0
   have zz1:=cell_up (((Below.refl _ _).drew).trans hw4b.out) z1
   go_wp2_with fail
   refine hK.out _ _ ?_ ?_
   ·(try dsimp only);exact⟨zz0,zz1⟩
   clear hK K9 hHeld;intro hHeld
   try simp only [Act.put,nA]
   refine wpAnyH_ready (rs:=[9]) (by kernel_rfl) (by simp) ?_
   refine AllReadyH.cons (o:=⟨some 26,.call { callee:=.invoke (.tmp 25) "Put",args:=#[.tmp 18,.tmp 19,.tmp 22],argTypes:=#[3,3,49] },4,"load.go:37",#[⟨8,.data⟩,⟨1,.data⟩,⟨2,.data⟩,⟨5,.data⟩,⟨5,.chain⟩],none⟩) rfl (fun K9 hK=>?_) AllReadyH.nil
   go_simp
   refine ((hN.out _ hb4.out)).mono ?_
   rintro e w5 ⟨b5,F2,rfl,hk5,hP5,hc5,hn5,hj5⟩
   have q0:=(World.cell?_of_block (a:=⟨q,0,none⟩) (hj5 q (Nat.le_refl _) (World.block_lt_of_cell? _ _ zz0))).trans zz0
   have q1:=(World.cell?_of_block (a:=⟨q,1,none⟩) (hj5 q (Nat.le_refl _) (World.block_lt_of_cell? _ _ zz0))).trans zz1
   replace hP5:=Lib.hid hP5
   replace hc5:=Lib.hid hc5
   go_wp2_with fail
   refine hK.out _ _ ?_ ?_
   ·(try dsimp only);exact⟨q0,q1⟩
   clear hK K9 hHeld;intro hHeld
   try simp only [Act.put,nA]
   refine wpAnyH_done (by kernel_rfl) ?_ _
   go_wp2
   go_roundw
   case rel=>exact⟨j+1,F2,by omega,by go_num,Lib.hid ⟨hP5.out,hc5.out,hn5⟩⟩
   case measure=>simp [intOf];omega
  ·have e:j=vl:=by omega
   subst e
   have hd:decide ((j:Int) < (j:Int))=false:=by simp
   go_wp2
   go_end0
   exact⟨rfl,F1,hS.out.1,hS.out.2⟩
end
end Wd
end Go.Proofs.YteiejjmhmmkdhaaGreat

/- The landed programs: one of so many, how much of each, a value, fields, the class of an object. -/
namespace Go.Proofs.YteiejjmhmmkdhaaGreat
open Go.RowKit
set_option linter.unusedVariables false
set_option maxRecDepth 20000
namespace Wd
theorem uisOne_c (x n:Int) (w:World):Calls Tryz.prog 68 #[.int .i64 x,.int .i64 n] w fun e w'=>e=.returned (.bool (decide (0≤x) && decide (x < n)))∧w'=w:=by
 by_cases h:0≤x
 ·have d1:decide (x ≥ 0)=true:=by simpa using h
  rw [decide_eq_true h]
  go_enter Tryz.func68,Tryz.ntmps68
  go_wp2
  go_ret
  exact⟨rfl,rfl⟩
 ·have d1:decide (x ≥ 0)=false:=by simpa using h
  rw [decide_eq_false h]
  go_enter Tryz.func68,Tryz.ntmps68
  go_wp2
  go_ret
  exact⟨rfl,rfl⟩
set_option maxHeartbeats 8000000 in
theorem uval_c (kx x:Int) (no:Nat) (w:World):Calls Tryz.prog 103 #[.agg #[.int .i64 kx,.int .i64 x],.int .i64 (no:Int)] w fun e w'=>e=.returned (.bool (fldOk (kx,x) no))∧Below w.heap.size w w':=by
 have hB:=Lib.hid ((Below.refl w.heap.size w).alloc (Nat.le_refl _) (.cells #[.int .i64 kx,.int .i64 x] 80))
 by_cases k012:kx=0∨kx=1∨kx=2
 ·have ef:=Lib.hid (fld_012 (x:=x) no k012)
  generalize fldOk (kx,x) no=r at *
  rcases k012 with rfl | rfl | rfl <;> (
   go_enter Tryz.func103,Tryz.ntmps103
   go_wp2
   go_ret
   exact⟨congrArg (fun b=>Ending.returned (Value.bool b)) ef.out.symm,hB.out⟩)
 by_cases k3:kx=3
 ·subst k3
  clear k012
  have ef:=Lib.hid (fld_3 x no)
  generalize fldOk (3,x) no=r at *
  unfold num30 at ef
  by_cases h:-1073741824≤x
  ·have d1:decide (x ≥ -1073741824)=true:=by simpa using h
   rw [decide_eq_true h,Bool.true_and] at ef
   go_enter Tryz.func103,Tryz.ntmps103
   go_wp2
   go_ret
   exact⟨congrArg (fun b=>Ending.returned (Value.bool b)) ef.out.symm,hB.out⟩
  ·have d1:decide (x ≥ -1073741824)=false:=by simpa using h
   rw [decide_eq_false h,Bool.false_and] at ef
   go_enter Tryz.func103,Tryz.ntmps103
   go_wp2
   go_ret
   exact⟨congrArg (fun b=>Ending.returned (Value.bool b)) ef.out.symm,hB.out⟩
 by_cases k4:kx=4
 ·subst k4
  clear k012 k3
  have ef:=Lib.hid (fld_4 x no)
  generalize fldOk (4,x) no=r at *
  unfold inN at ef
  have PI:=Lib.hid (uisOne_c x (no:Int))
  go_enter Tryz.func103,Tryz.ntmps103
  go_wp2_with (first | (go_at_call 68;((with_reducible refine (PI.out _).mono ?_);rintro e1 w2 ⟨rfl,hw2⟩;subst w2)))
  go_ret
  exact⟨congrArg (fun b=>Ending.returned (Value.bool b)) ef.out.symm,hB.out⟩
 have ef:=Lib.hid (fld_no (x:=x) no k012 k3 k4)
 have f0:(kx == 0)=false:=by rw [beq_eq_false_iff_ne];exact fun h=>k012 (Or.inl h)
 have f1:(kx == 1)=false:=by rw [beq_eq_false_iff_ne];exact fun h=>k012 (Or.inr (Or.inl h))
 have f2:(kx == 2)=false:=by rw [beq_eq_false_iff_ne];exact fun h=>k012 (Or.inr (Or.inr h))
 have f3:(kx == 3)=false:=by simpa using k3
 have f4:(kx == 4)=false:=by simpa using k4
 generalize fldOk (kx,x) no=r at *
 clear k012 k3 k4
 go_enter Tryz.func103,Tryz.ntmps103
 go_wp2
 go_ret
 exact⟨congrArg (fun b=>Ending.returned (Value.bool b)) ef.out.symm,hB.out⟩
set_option maxHeartbeats 8000000 in
theorem ufields_c {w:World} {v:Value} {L:List (Int × Int)} (h:PrV w v L) (no:Nat):Calls Tryz.prog 84 #[v,.int .i64 (no:Int)] w fun e w'=>e=.returned (.bool (L.all (fldOk · no)))∧Below w.heap.size w w':=by
 obtain⟨ad,cap,rfl,hc1,hc2⟩:=h.form
 have hle:=len_le (Nat.le_trans hc1 hc2)
 obtain⟨n,hn⟩:∃ n,n=L.length:=⟨_,rfl⟩
 have hn':=Lib.hid hn
 rw [← hn] at h hle ⊢
 replace h:=Lib.hid h
 have hst:=Lib.hid (FdR.start L no)
 clear hn hc1 hc2
 go_enter Tryz.func84,Tryz.ntmps84
 go_wp2
 go_loopw [9] (fun i9 wr=>∃ (j:Nat),j≤n∧i9=.int .i64 j∧Hid (FdR L no j)∧Hid (Below w.heap.size w wr)) (fun i9 _=>n - (intOf i9).toNat)
 case atStart=>exact⟨0,by omega,rfl,hst,Lib.hid (Below.refl _ _)⟩
 case round =>
  clear hst
  obtain⟨j,hj,rfl,hR,hB⟩:=hrel
  by_cases hlt:j < n
  ·have hlt':decide ((j:Int) < (n:Int))=true:=by simp;omega
   have p0:(0:Int)≤(j:Int):=by omega
   have p1:(j:Int) < (n:Int):=by omega
   obtain⟨⟨kx,x⟩,hx⟩:∃ x,L[j]?=some x:=⟨L[j]'(by have:=hn'.out;omega),by simp⟩
   obtain⟨_,_,g,off,rfl,c0,c1⟩:=PrV.at (h.out.up hB.out) hx
   simp only at c0 c1
   have hx':=Lib.hid hx
   have hB2:=Lib.hid (hB.out.alloc hB.out.size (.cells #[.int .i64 kx,.int .i64 x] 80))
   have PV:=Lib.hid (uval_c kx x no)
   clear hx hlt
   cases hv:fldOk (kx,x) no with
   | true =>
    have hR':=Lib.hid (hR.out.step hx'.out hv)
    rw [hv] at PV
    clear hv
    go_wp2_with (first | (go_at_call 103;((with_reducible refine (PV.out _).mono ?_);rintro e1 w2 ⟨rfl,hb⟩)))
    go_roundw
    case rel=>exact⟨j+1,by omega,by go_num,hR',Lib.hid (hB2.out.trans (hb.mono hB2.out.size))⟩
    case measure=>simp [intOf];omega
   | false =>
    have e:=Lib.hid (fd_bad hx'.out hv)
    rw [hv] at PV
    clear hv
    go_wp2_with (first | (go_at_call 103;((with_reducible refine (PV.out _).mono ?_);rintro e1 w2 ⟨rfl,hb⟩)))
    go_ret
    exact⟨congrArg (fun b=>Ending.returned (Value.bool b)) e.out.symm,hB2.out.trans (hb.mono hB2.out.size)⟩
  ·have e:Hid (L.all (fldOk · no)=true):=Lib.hid (FdR.last (by have:=hR.out;rw [show j=L.length by have:=hn'.out;omega] at this;exact this))
   have hlt':decide ((j:Int) < (n:Int))=false:=by simp;omega
   go_wp2
   go_ret
   exact⟨congrArg (fun b=>Ending.returned (Value.bool b)) e.out.symm,hB.out⟩
end Wd
end Go.Proofs.YteiejjmhmmkdhaaGreat

/- The landed names: letters, digits, signs; words and rows of signs. -/
namespace Go.Proofs.YteiejjmhmmkdhaaGreat
open Go.RowKit
set_option linter.unusedVariables false
set_option maxRecDepth 20000
namespace Wd
theorem slib_c (s:ByteArray) (c:Int) (w:World) :
  Calls Tryz.prog 125 #[.string s,.int .u8 c] w fun e w'=>e=.returned (.int .i64 (Lib.indexByte s.data.toList c.toNat.toUInt8))∧w'=w:=by
 go_enter Tryz.func125,Tryz.ntmps125
 go_wp2
 rw [run_callFunc_extern Tryz.func127 (by kernel_rfl) (by kernel_rfl) (by kernel_rfl) (e:=Extern.BytealgIndexByte.indexByte) (by kernel_rfl),Lib.run_indexByteString]
 simp only [Result.andThen]
 rw [Oper.upon_value]
 go_wp2
 go_ret
 exact⟨rfl,rfl⟩
theorem sib_c (s:ByteArray) (c:Int) (w:World) :
  Calls Tryz.prog 115 #[.string s,.int .u8 c] w fun e w'=>e=.returned (.int .i64 (Lib.indexByte s.data.toList c.toNat.toUInt8))∧w'=w:=by
 have P:=slib_c s c w
 go_enter Tryz.func115,Tryz.ntmps115
 go_wp2_with fail
 refine P.mono ?_
 rintro e w1 ⟨rfl,hw⟩
 subst w1
 clear P
 go_wp2
 go_ret
 exact⟨rfl,rfl⟩
def sgnB:ByteArray:=⟨#[43,45,42,47,60,62,61,126,38,124,37]⟩
def sgB (x:UInt8):Bool:=inR x.toNat sgnB
def ltB (x:UInt8):Bool:=letterR x.toNat
def dgB (x:UInt8):Bool:=decide (48≤x.toNat∧x.toNat≤57)
def okB (x:UInt8):Bool:=ltB x || dgB x || decide (x.toNat=58)
theorem index_in (l:List UInt8) (x:UInt8):decide (0≤Lib.indexByte l x)=l.any fun y=>y.toNat == x.toNat:=by
 have hge:=Lib.indexByte_ge l x
 by_cases h:0≤Lib.indexByte l x
 ·obtain⟨o,ho⟩:∃ o:Nat,Lib.indexByte l x=o:=⟨(Lib.indexByte l x).toNat,by omega⟩
  rw [decide_eq_true h]
  have:=(Lib.indexByte_some ho).1
  exact (List.any_eq_true.2 ⟨x,List.mem_of_getElem? this,by simp⟩).symm
 ·have h1:Lib.indexByte l x=-1:=by omega
  rw [decide_eq_false h]
  symm
  rw [List.any_eq_false]
  intro y hy
  have e:¬ y=x:=by
   rintro rfl
   obtain⟨k,hk⟩:=List.getElem?_of_mem hy
   exact Lib.indexByte_none h1 k hk
  intro h2
  exact e (UInt8.toNat_inj.1 (by simpa using h2))
theorem sign_c (x:UInt8) (w:World) :
  Calls Tryz.prog 107 #[.int .u8 (x.toNat:Nat)] w fun e w'=>e=.returned (.bool (sgB x))∧w'=w:=by
 have P:=sib_c ⟨#[43,45,42,47,60,62,61,126,38,124,37]⟩ (x.toNat:Nat) w
 have hi:decide (0≤Lib.indexByte [43,45,42,47,60,62,61,126,38,124,37] x)=sgB x:=index_in _ x
 rw [show ((x.toNat:Nat):Int).toNat.toUInt8=x by simp] at P
 change Calls _ _ _ _ (fun e w'=>e=.returned (.int .i64 (Lib.indexByte [43,45,42,47,60,62,61,126,38,124,37] x))∧w'=w) at P
 generalize Lib.indexByte [43,45,42,47,60,62,61,126,38,124,37] x=i at *
 generalize sgB x=b at *
 generalize ((x.toNat:Nat):Int)=xi at *
 go_enter Tryz.func107,Tryz.ntmps107
 go_wp2_with fail
 refine P.mono ?_
 rintro e w1 ⟨rfl,hw⟩
 subst w1
 clear P
 go_wp2
 go_ret
 exact⟨rfl,rfl⟩
theorem let_c (x:UInt8) (w:World) :
  Calls Tryz.prog 105 #[.int .u8 (x.toNat:Nat)] w fun e w'=>e=.returned (.bool (ltB x))∧w'=w:=by
 unfold ltB letterR
 generalize x.toNat=c
 by_cases h1:97≤c <;> by_cases h2:c≤122 <;> by_cases h3:65≤c <;> by_cases h4:c≤90 <;> (try omega) <;> (
  have h1':decide ((97:Int)≤(c:Int))=decide (97≤c):=by simp <;> omega
  have h2':decide ((c:Int)≤122)=decide (c≤122):=by simp <;> omega
  have h3':decide ((65:Int)≤(c:Int))=decide (65≤c):=by simp <;> omega
  have h4':decide ((c:Int)≤90)=decide (c≤90):=by simp <;> omega
  simp only [h1,h2,h3,h4] at *
  go_enter Tryz.func105,Tryz.ntmps105
  go_wp2
  go_ret
  exact⟨rfl,rfl⟩)
theorem dig_c (x:UInt8) (w:World) :
  Calls Tryz.prog 106 #[.int .u8 (x.toNat:Nat)] w fun e w'=>e=.returned (.bool (dgB x))∧w'=w:=by
 unfold dgB
 generalize x.toNat=c
 by_cases h1:48≤c <;> by_cases h2:c≤57 <;> (try omega) <;> (
  have h1':decide ((48:Int)≤(c:Int))=decide (48≤c):=by simp <;> omega
  have h2':decide ((c:Int)≤57)=decide (c≤57):=by simp <;> omega
  simp only [h1,h2] at *
  go_enter Tryz.func106,Tryz.ntmps106
  go_wp2
  go_ret
  exact⟨rfl,rfl⟩)
def AllB (p:UInt8→Bool) (b:ByteArray) (k:Nat):Prop:=∀ j,j < k→∀ x,b.data.toList[j]?=some x→p x=true
theorem AllB.start (p:UInt8→Bool) (b:ByteArray):AllB p b 0:=fun j hj=>by omega
section
variable {p:UInt8→Bool} {b:ByteArray} {k:Nat}
theorem AllB.step (h:AllB p b k) (hk:k < b.size) (e:p b[k]=true):AllB p b (k+1):=by
 intro j hj x hx
 rcases (show j < k∨j=k by omega) with hj | rfl
 ·exact h j hj x hx
 ·rw [ba_at hk] at hx;cases hx;exact e
theorem AllB.last (h:AllB p b k) (hk:¬ k < b.size):b.data.toList.all p=true:=by
 rw [List.all_eq_true]
 intro x hx
 obtain⟨j,hj⟩:=List.getElem?_of_mem hx
 have hl:=(List.getElem?_eq_some_iff.1 hj).1
 have hs:b.data.toList.length=b.size:=Array.length_toList
 exact h j (by omega) x hj
theorem all_bad (hk:k < b.size) (e:p b[k]=false):b.data.toList.all p=false:=by
 rw [List.all_eq_false]
 exact⟨b[k],List.mem_of_getElem? (ba_at hk),by rw [e];decide⟩
end
def headB (p:UInt8→Bool) (b:ByteArray):Bool:=match b.data.toList with | []=>false | x :: _=>p x
theorem headB_eq {b:ByteArray} (p:UInt8→Bool) (h:0 < b.size):headB p b=p b[0]:=by
 have:=ba_at h
 unfold headB
 cases hL:b.data.toList with
 | nil=>rw [hL] at this;simp at this
 | cons x R=>rw [hL] at this;simp at this;simp [this]
def wordB (b:ByteArray):Bool:=headB ltB b && b.data.toList.all okB
def signsB (b:ByteArray):Bool:=b.data.toList.all sgB && decide (b.size≤2)
set_option maxHeartbeats 4000000 in
theorem word_c (b:ByteArray) (h1:1≤b.size) (h16:b.size≤16) (w:World) :
  Calls Tryz.prog 89 #[.string b] w fun e w'=>e=.returned (.bool (wordB b))∧w'=w:=by
 have hst:=Lib.hid (AllB.start okB b)
 have h0:0 < b.size:=h1
 have P0:=Lib.hid (let_c b[0])
 cases hl:ltB b[0] with
 | false =>
  have hr:Hid (wordB b=false):=Lib.hid (by unfold wordB;rw [headB_eq _ h0,hl,Bool.false_and])
  rw [hl] at P0
  clear hl hst
  go_enter Tryz.func89,Tryz.ntmps89
  go_wp2_with (first | (go_at_call 105;((with_reducible refine (P0.out _).mono ?_);rintro e1 w2 ⟨rfl,hw2⟩;subst w2)))
  go_ret
  exact⟨congrArg (fun b=>Ending.returned (Value.bool b)) hr.out.symm,rfl⟩
 | true =>
  have hhd:Hid (headB ltB b=true):=Lib.hid (by rw [headB_eq _ h0,hl])
  rw [hl] at P0
  clear hl
  go_enter Tryz.func89,Tryz.ntmps89
  go_wp2_with (first | (go_at_call 105;((with_reducible refine (P0.out _).mono ?_);rintro e1 w2 ⟨rfl,hw2⟩;subst w2)))
  clear P0
  go_loopw [11] (fun i wr=>∃ (k:Nat),k≤b.size∧i=.int .i64 k∧Hid (AllB okB b k)∧wr=w) (fun i _=>b.size - (intOf i).toNat)
  case atStart=>exact⟨0,by omega,rfl,hst,rfl⟩
  case round =>
   obtain⟨k,hk,rfl,hA,rfl⟩:=hrel
   by_cases h:k < b.size
   ·have h':(k:Int) < (b.size:Int):=by omega
    have PL:=Lib.hid (let_c b[k])
    have PD:=Lib.hid (dig_c b[k])
    by_cases hok:okB b[k]=true
    ·have hA':=Lib.hid (hA.out.step h hok)
     unfold okB at hok
     cases hl:ltB b[k] with
     | true =>
      rw [hl] at PL
      clear hok hl
      go_wp2_with (first | (go_at_call 105;((with_reducible refine (PL.out _).mono ?_);rintro e1 w2 ⟨rfl,hw2⟩;subst w2)) | (go_at_call 106;((with_reducible refine (PD.out _).mono ?_);rintro e1 w2 ⟨rfl,hw2⟩;subst w2)))
      go_roundw
      case rel=>exact⟨k+1,by omega,by go_num,hA',trivial⟩
      case measure=>simp [intOf];omega
     | false =>
      rw [hl] at PL
      cases hd:dgB b[k] with
      | true =>
       rw [hd] at PD
       clear hok hl hd
       go_wp2_with (first | (go_at_call 105;((with_reducible refine (PL.out _).mono ?_);rintro e1 w2 ⟨rfl,hw2⟩;subst w2)) | (go_at_call 106;((with_reducible refine (PD.out _).mono ?_);rintro e1 w2 ⟨rfl,hw2⟩;subst w2)))
       go_roundw
       case rel=>exact⟨k+1,by omega,by go_num,hA',trivial⟩
       case measure=>simp [intOf];omega
      | false =>
       rw [hd] at PD
       rw [hl,hd] at hok
       have hx:b[k].toNat=58:=by simpa using hok
       have hx':((b[k].toNat:Int) == 58)=true:=by simp [hx]
       have hx2:((b[k].toNat:Int) != 58)=false:=by simp [hx]
       clear hok hl hd hx
       go_wp2_with (first | (go_at_call 105;((with_reducible refine (PL.out _).mono ?_);rintro e1 w2 ⟨rfl,hw2⟩;subst w2)) | (go_at_call 106;((with_reducible refine (PD.out _).mono ?_);rintro e1 w2 ⟨rfl,hw2⟩;subst w2)))
       go_roundw
       case rel=>exact⟨k+1,by omega,by go_num,hA',trivial⟩
       case measure=>simp [intOf];omega
    ·rw [Bool.not_eq_true] at hok
     have hr:Hid (wordB b=false):=Lib.hid (by unfold wordB;rw [all_bad h hok,Bool.and_false])
     unfold okB at hok
     rw [Bool.or_eq_false_iff,Bool.or_eq_false_iff] at hok
     obtain⟨⟨hl,hd⟩,hx⟩:=hok
     have hx0:¬ b[k].toNat=58:=by simpa using hx
     have hx':((b[k].toNat:Int) == 58)=false:=by rw [beq_eq_false_iff_ne];omega
     have hx2:((b[k].toNat:Int) != 58)=true:=by rw [bne_iff_ne];omega
     rw [hl] at PL
     rw [hd] at PD
     clear hl hd hx hx0
     go_wp2_with (first | (go_at_call 105;((with_reducible refine (PL.out _).mono ?_);rintro e1 w2 ⟨rfl,hw2⟩;subst w2)) | (go_at_call 106;((with_reducible refine (PD.out _).mono ?_);rintro e1 w2 ⟨rfl,hw2⟩;subst w2)))
     go_ret
     exact⟨congrArg (fun b=>Ending.returned (Value.bool b)) hr.out.symm,rfl⟩
   ·have hr:Hid (wordB b=true):=Lib.hid (by unfold wordB;rw [hA.out.last h,hhd.out];rfl)
    have h':¬ (k:Int) < (b.size:Int):=by omega
    go_wp2
    go_ret
    exact⟨congrArg (fun b=>Ending.returned (Value.bool b)) hr.out.symm,rfl⟩
set_option maxHeartbeats 4000000 in
theorem signs_c (b:ByteArray) (h16:b.size≤16) (w:World) :
  Calls Tryz.prog 90 #[.string b] w fun e w'=>e=.returned (.bool (signsB b))∧w'=w:=by
 have hst:=Lib.hid (AllB.start sgB b)
 go_enter Tryz.func90,Tryz.ntmps90
 go_wp2
 go_loopw [6] (fun i wr=>∃ (k:Nat),k≤b.size∧i=.int .i64 k∧Hid (AllB sgB b k)∧wr=w) (fun i _=>b.size - (intOf i).toNat)
 case atStart=>exact⟨0,by omega,rfl,hst,rfl⟩
 case round =>
  obtain⟨k,hk,rfl,hA,rfl⟩:=hrel
  by_cases h:k < b.size
  ·have h':(k:Int) < (b.size:Int):=by omega
   have PS:=Lib.hid (sign_c b[k])
   cases hs:sgB b[k] with
   | true =>
    have hA':=Lib.hid (hA.out.step h hs)
    rw [hs] at PS
    clear hs
    go_wp2_with (first | (go_at_call 107;((with_reducible refine (PS.out _).mono ?_);rintro e1 w2 ⟨rfl,hw2⟩;subst w2)))
    go_roundw
    case rel=>exact⟨k+1,by omega,by go_num,hA',trivial⟩
    case measure=>simp [intOf];omega
   | false =>
    have hr:Hid (signsB b=false):=Lib.hid (by unfold signsB;rw [all_bad h hs,Bool.false_and])
    rw [hs] at PS
    clear hs
    go_wp2_with (first | (go_at_call 107;((with_reducible refine (PS.out _).mono ?_);rintro e1 w2 ⟨rfl,hw2⟩;subst w2)))
    go_ret
    exact⟨congrArg (fun b=>Ending.returned (Value.bool b)) hr.out.symm,rfl⟩
  ·have h':¬ (k:Int) < (b.size:Int):=by omega
   have hr:Hid (signsB b=decide ((b.size:Int)≤2)):=Lib.hid (by unfold signsB;rw [hA.out.last h,Bool.true_and];exact decide_eq_decide.2 (by omega))
   go_wp2
   go_ret
   exact⟨congrArg (fun b=>Ending.returned (Value.bool b)) hr.out.symm,rfl⟩
end Wd
end Go.Proofs.YteiejjmhmmkdhaaGreat

/- The landed names: which are right, how many arguments they take. -/
namespace Go.Proofs.YteiejjmhmmkdhaaGreat
open Go.RowKit
set_option linter.unusedVariables false
set_option maxRecDepth 20000
namespace Wd
theorem sg_ok {x:UInt8} (h:sgB x=true):okB x=false:=by
 have key:∀ n,n < 256→inR n sgnB=true→(letterR n || decide (48≤n∧n≤57) || decide (n=58))=false:=by decide
 exact key x.toNat x.toNat_lt h
theorem from_in:∀ (L:List UInt8) (i s c:Nat),0 < i→argsFrom L i s c=if L.all (fun x=>sgB x || okB x)=true then some (s+L.countP sgB,c+L.count 58) else none
 | [],i,s,c,h=>by simp [argsFrom]
 | x :: L,i,s,c,h=>by
  rw [argsFrom]
  by_cases hs:sgB x=true
  ·have h58:¬ x=58:=by rintro rfl;exact absurd hs (by decide)
   have hs':inR x.toNat ⟨#[43,45,42,47,60,62,61,126,38,124,37]⟩=true:=hs
   rw [if_pos hs',from_in L (i+1) (s+1) c (by omega)]
   have e1:(x :: L).countP sgB=L.countP sgB+1:=List.countP_cons_of_pos hs
   have e2:(x :: L).count 58=L.count 58:=List.count_cons_of_ne h58
   rw [e1,e2,List.all_cons,hs,Bool.true_or,Bool.true_and,show s+1+L.countP sgB=s+(L.countP sgB+1) by omega]
  ·have hs':¬ inR x.toNat ⟨#[43,45,42,47,60,62,61,126,38,124,37]⟩=true:=hs
   rw [if_neg hs']
   rw [Bool.not_eq_true] at hs
   by_cases h58:x.toNat=58
   ·have e:x=58:=UInt8.toNat_inj.1 h58
    have ho:okB x=true:=by rw [e];decide
    rw [if_pos ⟨h58,h⟩,from_in L (i+1) s (c+1) (by omega)]
    have e1:(x :: L).countP sgB=L.countP sgB:=List.countP_cons_of_neg (by rw [hs];decide)
    have e2:(x :: L).count 58=L.count 58+1:=by rw [e];exact List.count_cons_self
    rw [e1,e2,List.all_cons,ho,Bool.or_true,Bool.true_and,show c+1+L.count 58=c+(L.count 58+1) by omega]
   ·have h58':¬ x=58:=fun e=>h58 (by rw [e];rfl)
    rw [if_neg (fun h=>h58 h.1)]
    by_cases hk:letterR x.toNat=true∨0 < i∧48≤x.toNat∧x.toNat≤57
    ·have ho:okB x=true:=by
      unfold okB ltB dgB
      rcases hk with hk | hk
      ·rw [hk];rfl
      ·rw [decide_eq_true hk.2];simp
     rw [if_pos hk,from_in L (i+1) s c (by omega)]
     have e1:(x :: L).countP sgB=L.countP sgB:=List.countP_cons_of_neg (by rw [hs];decide)
     have e2:(x :: L).count 58=L.count 58:=List.count_cons_of_ne h58'
     rw [e1,e2,List.all_cons,ho,Bool.or_true,Bool.true_and]
    ·have ho:okB x=false:=by
      unfold okB ltB dgB
      rw [decide_eq_false h58,Bool.or_false,Bool.or_eq_false_iff]
      exact⟨by rw [← Bool.not_eq_true];exact fun h=>hk (Or.inl h),decide_eq_false (fun h'=>hk (Or.inr ⟨h,h'⟩))⟩
     rw [if_neg hk]
     simp [ho,hs]
def rightB (b:ByteArray):Bool:=decide (1≤b.size∧b.size≤16) && (wordB b || signsB b)
def cntB (b:ByteArray):Nat:=b.data.toList.count 58
def argsL (b:ByteArray):Int:=if rightB b=true then (if headB sgB b=true then 1 else (cntB b:Int)) else -1
theorem all_sg:∀ {L:List UInt8},L.all sgB=true↔L.countP sgB=L.length:=by
 intro L
 rw [List.all_eq_true,List.countP_eq_length]
theorem args_eq (b:ByteArray):argsR b=argsL b:=by
 rcases Classical.em (1≤b.size∧b.size≤16) with hz | hz
 case inr =>
  rw [args_short hz]
  unfold argsL rightB
  rw [decide_eq_false hz];rfl
 have hs:b.data.toList.length=b.size:=Array.length_toList
 unfold argsR argsL rightB wordB signsB cntB
 rw [if_pos hz,decide_eq_true hz,Bool.true_and]
 obtain⟨x,R,hL⟩:∃ x R,b.data.toList=x :: R:=by
  cases hL:b.data.toList with
  | nil=>rw [hL] at hs;simp at hs;omega
  | cons x R=>exact⟨x,R,rfl⟩
 have h1:∀ p,headB p b=p x:=fun p=>by unfold headB;rw [hL]
 rw [h1,h1,hL,argsFrom]
 rw [hL] at hs
 generalize b.size=n at *
 clear hL h1
 simp only [List.length_cons] at hs
 by_cases hx:sgB x=true
 ·have hx':inR x.toNat ⟨#[43,45,42,47,60,62,61,126,38,124,37]⟩=true:=hx
  have hok:=sg_ok hx
  have hlt:ltB x=false:=by unfold okB at hok;simp at hok;exact hok.1.1
  rw [if_pos hx',from_in R 1 1 0 (by omega),hlt,if_pos hx]
  simp only [Bool.false_and,Bool.false_or,List.all_cons,hx,Bool.true_and]
  by_cases ha:R.all sgB=true
  ·have hc:=all_sg.1 ha
   have hb:R.all (fun x=>sgB x || okB x)=true:=by
    rw [List.all_eq_true] at ha ⊢
    intro y hy;rw [ha y hy];rfl
   rw [if_pos hb,ha,hc]
   simp only [Bool.true_and,decide_eq_true_eq]
   by_cases h2:n≤2
   ·rw [if_pos (by omega),if_pos h2]
   ·rw [if_neg (by omega),if_neg h2,if_pos (by omega)]
  ·have hc:¬ R.countP sgB=R.length:=fun h=>ha (all_sg.2 h)
   rw [Bool.not_eq_true] at ha
   rw [ha,Bool.false_and,if_neg Bool.false_ne_true]
   by_cases hb:R.all (fun x=>sgB x || okB x)=true
   ·rw [if_pos hb]
    simp only
    rw [if_neg (by omega),if_pos (by omega)]
   ·rw [if_neg hb]
 ·have hx':¬ inR x.toNat ⟨#[43,45,42,47,60,62,61,126,38,124,37]⟩=true:=hx
  rw [if_neg hx',if_neg (by omega)]
  rw [if_neg hx]
  rw [Bool.not_eq_true] at hx
  simp only [List.all_cons,hx,Bool.false_and,Bool.or_false]
  by_cases hl:ltB x=true
  ·have hl':letterR x.toNat=true∨0 < 0∧48≤x.toNat∧x.toNat≤57:=Or.inl hl
   have ho:okB x=true:=by unfold okB;rw [hl];rfl
   have h58:¬ x=58:=by rintro rfl;exact absurd hl (by decide)
   rw [if_pos hl',from_in R 1 0 0 (by omega),hl,ho]
   simp only [Bool.true_and,Nat.zero_add,List.count_cons_of_ne h58]
   by_cases ha:R.all okB=true
   ·have hc:R.countP sgB=0:=by
     rw [List.countP_eq_zero]
     intro y hy hys
     have:=sg_ok hys
     rw [List.all_eq_true.1 ha y hy] at this
     cases this
    have hb:R.all (fun x=>sgB x || okB x)=true:=by
     rw [List.all_eq_true] at ha ⊢
     intro y hy;rw [ha y hy,Bool.or_true]
    rw [if_pos hb,if_pos ha,hc]
    simp only
    rw [if_neg (by omega),if_neg (by omega)]
   ·rw [if_neg ha]
    by_cases hb:R.all (fun x=>sgB x || okB x)=true
    ·rw [if_pos hb]
     have hc:R.countP sgB≠0:=by
      intro h0
      apply ha
      rw [List.all_eq_true] at hb ⊢
      intro y hy
      have:=hb y hy
      rw [List.countP_eq_zero] at h0
      have h0:=h0 y hy
      simp only [Bool.or_eq_true] at this
      exact this.resolve_left h0
     have hle:R.countP sgB≤R.length:=List.countP_le_length
     simp only
     rw [if_neg (by omega),if_pos (by omega)]
    ·rw [if_neg hb]
  ·have hl':¬ (letterR x.toNat=true∨0 < 0∧48≤x.toNat∧x.toNat≤57):=fun h=>by
    rcases h with h | h
    ·exact hl h
    ·omega
   rw [Bool.not_eq_true] at hl
   rw [if_neg hl',hl]
   simp
theorem right_eq (b:ByteArray):rightB b=decide (0≤argsR b):=by
 rw [args_eq]
 unfold argsL
 by_cases h:rightB b=true
 ·rw [if_pos h,h]
  split
  ·rfl
  ·symm;rw [decide_eq_true_eq];omega
 ·rw [if_neg h]
  rw [Bool.not_eq_true] at h
  rw [h];rfl
theorem right_c (b:ByteArray) (w:World):Calls Tryz.prog 77 #[.string b] w fun e w'=>e=.returned (.bool (decide (0≤argsR b)))∧w'=w:=by
 rw [← right_eq]
 unfold rightB
 by_cases h1:1≤b.size
 ·have h1':(1:Int)≤(b.size:Int):=by omega
  by_cases h2:b.size≤16
  ·have h2':(b.size:Int)≤16:=by omega
   have PW:=Lib.hid (word_c b h1 h2)
   have PS:=Lib.hid (signs_c b h2)
   rw [decide_eq_true ⟨h1,h2⟩,Bool.true_and]
   generalize signsB b=y at *
   cases hx:wordB b with
   | true =>
    rw [hx] at PW
    clear hx
    go_enter Tryz.func77,Tryz.ntmps77
    go_wp2_with (first | (go_at_call 89;((with_reducible refine (PW.out _).mono ?_);rintro e1 w2 ⟨rfl,hw2⟩;subst w2)) | (go_at_call 90;((with_reducible refine (PS.out _).mono ?_);rintro e1 w2 ⟨rfl,hw2⟩;subst w2)))
    go_ret
    exact⟨rfl,rfl⟩
   | false =>
    rw [hx] at PW
    clear hx
    go_enter Tryz.func77,Tryz.ntmps77
    go_wp2_with (first | (go_at_call 89;((with_reducible refine (PW.out _).mono ?_);rintro e1 w2 ⟨rfl,hw2⟩;subst w2)) | (go_at_call 90;((with_reducible refine (PS.out _).mono ?_);rintro e1 w2 ⟨rfl,hw2⟩;subst w2)))
    go_ret
    exact⟨rfl,rfl⟩
  ·have h2':¬ (b.size:Int)≤16:=by omega
   rw [decide_eq_false (fun h=>h2 h.2),Bool.false_and]
   go_enter Tryz.func77,Tryz.ntmps77
   go_wp2
   go_ret
   exact⟨rfl,rfl⟩
 ·have h1':¬ (1:Int)≤(b.size:Int):=by omega
  rw [decide_eq_false (fun h=>h1 h.1),Bool.false_and]
  go_enter Tryz.func77,Tryz.ntmps77
  go_wp2
  go_ret
  exact⟨rfl,rfl⟩
theorem cnt_c (b:ByteArray) (w:World):Calls Tryz.prog 114 #[.string b,.string ⟨#[58]⟩] w fun e w'=>e=.returned (.int .i64 (cntB b:Nat))∧w'=w:=by
 go_enter Tryz.func114,Tryz.ntmps114
 go_wp2
 rw [run_callFunc_extern Tryz.func123 (by kernel_rfl) (by kernel_rfl) (by kernel_rfl) (e:=Extern.BytealgCount.count) (by kernel_rfl),Lib.run_countString]
 simp only [Result.andThen]
 rw [Oper.upon_value]
 go_wp2
 go_ret
 exact⟨rfl,rfl⟩
theorem kargs_c (b:ByteArray) (w:World):Calls Tryz.prog 102 #[.string b] w fun e w'=>e=.returned (.int .i64 (argsR b))∧w'=w:=by
 have PR:=Lib.hid (right_c b)
 have PC:=Lib.hid (cnt_c b)
 rw [← right_eq] at PR
 rw [args_eq]
 cases hr:rightB b with
 | false =>
  have e:argsL b=-1:=by unfold argsL;rw [hr];rfl
  rw [hr] at PR
  rw [e]
  clear e hr
  go_enter Tryz.func102,Tryz.ntmps102
  go_wp2_with (first | (go_at_call 77;((with_reducible refine (PR.out _).mono ?_);rintro e1 w2 ⟨rfl,hw2⟩;subst w2)))
  go_ret
  exact⟨rfl,rfl⟩
 | true =>
  have h0:0 < b.size:=by
   unfold rightB at hr
   rw [Bool.and_eq_true,decide_eq_true_eq] at hr
   exact hr.1.1
  have PS:=Lib.hid (sign_c b[0])
  rw [hr] at PR
  cases hx:sgB b[0] with
  | true =>
   have e:argsL b=1:=by unfold argsL;rw [hr,headB_eq _ h0,hx];rfl
   rw [hx] at PS
   rw [e]
   clear e hr hx
   go_enter Tryz.func102,Tryz.ntmps102
   go_wp2_with (first | (go_at_call 77;((with_reducible refine (PR.out _).mono ?_);rintro e1 w2 ⟨rfl,hw2⟩;subst w2)) | (go_at_call 107;((with_reducible refine (PS.out _).mono ?_);rintro e1 w2 ⟨rfl,hw2⟩;subst w2)))
   go_ret
   exact⟨rfl,rfl⟩
  | false =>
   have e:argsL b=(cntB b:Nat):=by unfold argsL;rw [hr,headB_eq _ h0,hx];rfl
   rw [hx] at PS
   rw [e]
   clear e hr hx
   generalize cntB b=c at *
   go_enter Tryz.func102,Tryz.ntmps102
   go_wp2_with (first | (go_at_call 77;((with_reducible refine (PR.out _).mono ?_);rintro e1 w2 ⟨rfl,hw2⟩;subst w2)) | (go_at_call 107;((with_reducible refine (PS.out _).mono ?_);rintro e1 w2 ⟨rfl,hw2⟩;subst w2)) | (go_at_call 114;((with_reducible refine (PC.out _).mono ?_);rintro e1 w2 ⟨rfl,hw2⟩;subst w2)))
   go_ret
   exact⟨rfl,rfl⟩
end Wd
end Go.Proofs.YteiejjmhmmkdhaaGreat

/- The landed programs: the class of an object; is a text there; the names; how much of each. -/
namespace Go.Proofs.YteiejjmhmmkdhaaGreat
open Go.RowKit
set_option linter.unusedVariables false
set_option maxRecDepth 20000
namespace Wd
set_option maxHeartbeats 8000000 in
theorem uclass_c {w:World} {v cv:Value} {o:ObjA} {C:List ClassA} (h:ObK w v o) (hC:ClV w cv C) (h62:∀ c∈C,c.fields≤62) :
  Calls Tryz.prog 83 #[v,cv] w fun e w'=>e=.returned (.bool (objHead o C))∧Below w.heap.size w w':=by
 obtain⟨fa,fc,rfl,hf⟩:=h.ex
 obtain⟨ca,cc,rfl,hc1,hc2⟩:=hC.form
 have hle:=len_le (Nat.le_trans hc1 hc2)
 obtain⟨c0,c1⟩:=h.c64
 have hB:=Lib.hid ((Below.refl w.heap.size w).alloc (Nat.le_refl _) (.cells #[.int .i64 o.cls,.slice fa o.flds.length fc] 66))
 have PI:=Lib.hid (uisOne_c o.cls (C.length:Int))
 by_cases h0:o.cls < 1∨(C.length:Int)≤o.cls
 ·have e:Hid (objHead o C=false):=Lib.hid (by rcases h0 with h0 | h0;exact head_low h0;exact head_high h0)
  generalize objHead o C=r at *
  by_cases hz:o.cls=0∧0 < C.length
  ·obtain⟨hz1,hz2⟩:=hz
   rw [hz1,show decide ((0:Int)≤0)=true from rfl,decide_eq_true (show (0:Int) < (C.length:Int) by omega)] at PI
   rw [hz1] at hB ⊢
   clear h0 hz1 hz2 h hf hC h62 c0 c1
   go_enter Tryz.func83,Tryz.ntmps83
   go_wp2_with (first | (go_at_call 68;((with_reducible refine (PI.out _).mono ?_);rintro e1 w2 ⟨rfl,hw2⟩;subst w2)))
   go_ret
   exact⟨congrArg (fun b=>Ending.returned (Value.bool b)) e.out.symm,hB.out⟩
  ·have hx:(decide (0≤o.cls) && decide (o.cls < (C.length:Int)))=false:=by
    rw [Bool.and_eq_false_iff,decide_eq_false_iff_not,decide_eq_false_iff_not];omega
   rw [hx] at PI
   clear h0 hz h hf hC h62 c0 c1 hx
   go_enter Tryz.func83,Tryz.ntmps83
   go_wp2_with (first | (go_at_call 68;((with_reducible refine (PI.out _).mono ?_);rintro e1 w2 ⟨rfl,hw2⟩;subst w2)))
   go_ret
   exact⟨congrArg (fun b=>Ending.returned (Value.bool b)) e.out.symm,hB.out⟩
 have g0:1≤o.cls:=by omega
 have g1:o.cls < (C.length:Int):=by omega
 rw [decide_eq_true (show (0:Int)≤o.cls by omega),decide_eq_true g1] at PI
 have n0:(o.cls == 0)=false:=by simp;omega
 by_cases h1:o.cls=1
 ·have n1:(o.cls == 1)=true:=by simpa using h1
  have e:Hid (objHead o C=decide (o.flds.length≤62)):=Lib.hid (by unfold objHead;rw [if_neg h0,if_neg (by omega)])
  have e2:Hid (objHead o C=decide ((o.flds.length:Int)≤62)):=Lib.hid (by rw [e.out];exact decide_eq_decide.2 (by omega))
  generalize objHead o C=r at *
  clear h0 h1 h hf hC h62 c0 c1 e g0 g1
  go_enter Tryz.func83,Tryz.ntmps83
  go_wp2_with (first | (go_at_call 68;((with_reducible refine (PI.out _).mono ?_);rintro e1 w2 ⟨rfl,hw2⟩;subst w2)))
  go_ret
  exact⟨congrArg (fun b=>Ending.returned (Value.bool b)) e2.out.symm,hB.out⟩
 ·have n1:(o.cls == 1)=false:=by simpa using h1
  obtain⟨q,hq⟩:∃ q:Nat,o.cls=(q:Int):=⟨o.cls.toNat,by omega⟩
  obtain⟨x,hx⟩:∃ x,C[q]?=some x:=⟨C[q]'(by omega),by simp⟩
  have hx62:=h62 x (List.mem_of_getElem? hx)
  have e:Hid (objHead o C=((o.flds.length:Int) == x.fields)):=Lib.hid (by
   unfold objHead
   rw [if_neg h0,hq,clsF_at hx]
   by_cases he:(o.flds.length:Int)=x.fields
   ·rw [if_neg (fun h=>h.2 he),he,beq_self_eq_true,decide_eq_true_eq];omega
   ·rw [if_pos ⟨by omega,he⟩];symm;simpa using he)
  obtain⟨_,_,g,off,bv,rfl,_,_,d2,_,_⟩:=hC.at hx
  have d2':=cell_up ((Below.refl w.heap.size w).alloc (Nat.le_refl _) (.cells #[.int .i64 o.cls,.slice fa o.flds.length fc] 66)) d2
  have q0:(0:Int)≤(q:Int):=by omega
  have q1:(q:Int) < (C.length:Int):=by omega
  rw [hq] at PI n0 n1 hB d2' ⊢
  generalize objHead o C=r at *
  clear h0 h1 h hf hC h62 c0 c1 g0 g1 d2 hx
  go_enter Tryz.func83,Tryz.ntmps83
  go_wp2_with (first | (go_at_call 68;((with_reducible refine (PI.out _).mono ?_);rintro e1 w2 ⟨rfl,hw2⟩;subst w2)))
  go_region
  go_wp2
  go_ret
  exact⟨congrArg (fun b=>Ending.returned (Value.bool b)) e.out.symm,hB.out.drew⟩
theorem NmV.takeV {w:World} {ad:Option Addr} {n cap:Nat} {L:List ByteArray} (h:NmV w (.slice ad n cap) L) (k:Nat) (hk:k≤L.length):NmV w (.slice ad k cap) (L.take k):=by
 obtain⟨ad',cap',e,h1,h2,h3⟩:=h.ex
 cases e
 have hl:(L.take k).length=k:=by rw [List.length_take];omega
 refine⟨ad,cap,by rw [hl],by omega,h2,fun j x hx=>h3 j x ?_⟩
 rw [List.getElem?_take] at hx
 split at hx
 ·exact hx
 ·cases hx
set_option maxHeartbeats 8000000 in
theorem uindex_c {w:World} {v:Value} {L:List ByteArray} (h:NmV w v L) (x:ByteArray) :
  Calls Tryz.prog 91 #[v,.string x] w fun e w'=>(∃ i:Int,e=.returned (.int .i64 i)∧(0≤i↔x∈L))∧w'=w:=by
 obtain⟨ad,cap,rfl,hcap,hmx,_⟩:=h.ex
 obtain⟨n,hnn⟩:∃ n,n=L.length:=⟨_,rfl⟩
 rw [← hnn] at h hcap ⊢
 replace h:=Lib.hid h
 have hn':=Lib.hid hnn
 have hle:(n:Int)≤9223372036854775807:=by have:=Nat.le_trans hcap hmx;unfold maxLen at this;omega
 have hst:Hid (∀ y∈L.take 0,y≠x):=Lib.hid (by simp)
 clear hnn
 go_enter Tryz.func91,Tryz.ntmps91
 go_wp2
 go_loopw [8] (fun i wr=>∃ (k:Nat),k≤n∧i=.int .i64 k∧Hid (∀ y∈L.take k,y≠x)∧wr=w) (fun i _=>n - (intOf i).toNat)
 case atStart=>exact⟨0,by omega,rfl,hst,rfl⟩
 case round =>
  clear hst
  obtain⟨k,hk,rfl,hD,rfl⟩:=hrel
  by_cases hlt:k < n
  ·have hlt':decide ((k:Int) < (n:Int))=true:=by simp;omega
   have p0:(0:Int)≤(k:Int):=by omega
   have p1:(k:Int) < (n:Int):=by omega
   obtain⟨y,hy⟩:∃ y,L[k]?=some y:=⟨L[k]'(by have:=hn'.out;omega),by simp⟩
   obtain⟨g,off,rfl,d0⟩:=NmV.at h.out hy
   have hy':=Lib.hid hy
   clear hy
   by_cases he:x=y
   ·have e:Hid (0≤(k:Int)↔x∈L):=Lib.hid ⟨fun _=>by rw [he];exact List.mem_of_getElem? hy'.out,fun _=>by omega⟩
    have he':(x.toList == y.toList)=true:=bl_eq he
    clear he
    go_wp2
    go_ret
    exact⟨⟨_,rfl,e.out⟩,rfl⟩
   ·have he':(x.toList == y.toList)=false:=bl_ne he
    have hD':Hid (∀ z∈L.take (k+1),z≠x):=Lib.hid (fun z hz=>by
     rw [take_next hy'.out] at hz
     rcases List.mem_append.1 hz with hz | hz
     ·exact hD.out z hz
     ·rw [List.mem_singleton.1 hz];exact fun e=>he e.symm)
    clear he
    go_wp2
    go_roundw
    case rel=>exact⟨k+1,by omega,by go_num,hD',trivial⟩
    case measure=>simp [intOf];omega
  ·have e:Hid (0≤(-1:Int)↔x∈L):=Lib.hid (by
    have hd:=hD.out
    rw [show k=L.length by have:=hn'.out;omega,List.take_length] at hd
    exact⟨fun h=>absurd h (by decide),fun h=>absurd rfl (hd x h)⟩)
   have hlt':decide ((k:Int) < (n:Int))=false:=by simp;omega
   go_wp2
   go_ret
   exact⟨⟨_,rfl,e.out⟩,rfl⟩
theorem ucontains_c {w:World} {v:Value} {L:List ByteArray} (h:NmV w v L) (x:ByteArray) (b:Bool) (hb:b=true↔x∈L) :
  Calls Tryz.prog 78 #[v,.string x] w fun e w'=>e=.returned (.bool b)∧w'=w:=by
 have PI:=Lib.hid (uindex_c h x)
 replace hb:=Lib.hid hb
 clear h
 go_enter Tryz.func78,Tryz.ntmps78
 go_wp2_with (first | (go_at_call 91;((with_reducible refine PI.out.mono ?_);rintro e1 w2 ⟨⟨i,rfl,hi⟩,hw2⟩;subst w2;replace hi:=Lib.hid hi)))
 go_ret
 exact⟨congrArg (fun b=>Ending.returned (Value.bool b)) (show decide (i ≥ 0)=b by cases b with | true=>exact decide_eq_true (hi.out.2 (hb.out.1 rfl)) | false=>exact decide_eq_false (fun h=>absurd (hb.out.2 (hi.out.1 h)) (by decide))),rfl⟩
set_option maxHeartbeats 8000000 in
theorem unames_c {w:World} {v:Value} {L:List ByteArray} (h:NmV w v L) :
  Calls Tryz.prog 64 #[v] w fun e w'=>e=.returned (.bool (namesB L))∧w'=w:=by
 obtain⟨ad,cap,rfl,hcap,hmx,_⟩:=h.ex
 obtain⟨n,hnn⟩:∃ n,n=L.length:=⟨_,rfl⟩
 rw [← hnn] at h hcap ⊢
 replace h:=Lib.hid h
 have hn':=Lib.hid hnn
 have hst:=Lib.hid (NsR.start L)
 have hle:(n:Int)≤9223372036854775807:=by have:=Nat.le_trans hcap hmx;unfold maxLen at this;omega
 clear hnn
 go_enter Tryz.func64,Tryz.ntmps64
 go_wp2
 go_loopw [7] (fun i7 wr=>∃ (k:Nat),k≤n∧i7=.int .i64 k∧Hid (NsR L k)∧wr=w) (fun i7 _=>n - (intOf i7).toNat)
 case atStart=>exact⟨0,by omega,rfl,hst,rfl⟩
 case round =>
  clear hst
  obtain⟨k,hk,rfl,hR,rfl⟩:=hrel
  by_cases hlt:k < n
  ·have hlt':decide ((k:Int) < (n:Int))=true:=by simp;omega
   have p0:(0:Int)≤(k:Int):=by omega
   have p1:(k:Int) < (n:Int):=by omega
   have p2:(k:Int)≤(cap:Int):=by omega
   obtain⟨x,hx⟩:∃ x,L[k]?=some x:=⟨L[k]'(by have:=hn'.out;omega),by simp⟩
   obtain⟨g,off,rfl,c0⟩:=NmV.at h.out hx
   have hx':=Lib.hid hx
   have PR:=Lib.hid (right_c x)
   have PC:=Lib.hid (ucontains_c (h.out.takeV k (by have:=hn'.out;omega)) x)
   clear hx
   by_cases ha:argsR x < 0
   ·have e:=Lib.hid (names_bad hx'.out ha)
    rw [decide_eq_false (show ¬ 0≤argsR x by omega)] at PR
    clear ha
    go_wp2_with (first | (go_at_call 77;((with_reducible refine (PR.out _).mono ?_);rintro e1 w2 ⟨rfl,hw2⟩;subst w2)))
    go_ret
    exact⟨congrArg (fun b=>Ending.returned (Value.bool b)) e.out.symm,rfl⟩
   ·rw [decide_eq_true (show 0≤argsR x by omega)] at PR
    have haH:Hid (0≤argsR x):=Lib.hid (by omega)
    clear ha
    by_cases hm:x∈L.take k
    ·have e:Hid (namesB L=false):=Lib.hid (by
      obtain⟨j,hj,ej⟩:=List.mem_iff_getElem.1 hm
      rw [List.length_take] at hj
      have hj2:j < k∧j < L.length:=by omega
      have hy:L[j]?=some (L[j]'hj2.2):=by simp
      refine names_twice hx'.out hj2.1 hy ?_
      rw [List.getElem_take] at ej
      exact ej)
     replace PC:=Lib.hid (PC.out true ⟨fun _=>hm,fun _=>rfl⟩)
     clear hm
     go_wp2_with (first | (go_at_call 77;((with_reducible refine (PR.out _).mono ?_);rintro e1 w2 ⟨rfl,hw2⟩;subst w2)) | (go_at_call 78;((with_reducible refine PC.out.mono ?_);rintro e1 w2 ⟨rfl,hw2⟩;subst w2)))
     go_ret
     exact⟨congrArg (fun b=>Ending.returned (Value.bool b)) e.out.symm,rfl⟩
    ·have hR':=Lib.hid (hR.out.step hx'.out haH.out (fun y hy e=>hm (by rw [← e];exact hy)))
     replace PC:=Lib.hid (PC.out false ⟨fun h=>absurd h (by decide),fun h=>absurd h hm⟩)
     clear hm
     go_wp2_with (first | (go_at_call 77;((with_reducible refine (PR.out _).mono ?_);rintro e1 w2 ⟨rfl,hw2⟩;subst w2)) | (go_at_call 78;((with_reducible refine PC.out.mono ?_);rintro e1 w2 ⟨rfl,hw2⟩;subst w2)))
     go_roundw
     case rel=>exact⟨k+1,by omega,by go_num,hR',trivial⟩
     case measure=>simp [intOf];omega
  ·have e:Hid (namesB L=true):=Lib.hid (NsR.last (by have:=hR.out;rw [show k=L.length by have:=hn'.out;omega] at this;exact this))
   have hlt':decide ((k:Int) < (n:Int))=false:=by simp;omega
   go_wp2
   go_ret
   exact⟨congrArg (fun b=>Ending.returned (Value.bool b)) e.out.symm,rfl⟩
end Wd
end Go.Proofs.YteiejjmhmmkdhaaGreat

/- The document's own instructions: is one right where it stands? -/
namespace Go.Proofs.YteiejjmhmmkdhaaGreat
open Go.RowKit
set_option linter.unusedVariables false
set_option maxRecDepth 20000
namespace Wd
theorem ins_other {m:MethA} {pc op arg:Int} (h:op≠0∧op≠10∧op≠1∧op≠11∧op≠2∧op≠12∧op≠13∧op≠20∧op≠18∧op≠15∧op≠17∧op≠16∧op≠21):insR m pc op arg=decide (op≤21):=by
 unfold insR
 rw [if_neg (by omega),if_neg (by omega),if_neg (by omega),if_neg (by omega),if_neg (by omega),if_neg (by omega),if_neg (by omega),if_neg (by omega),if_neg (by omega)]
end Wd
end Go.Proofs.YteiejjmhmmkdhaaGreat
